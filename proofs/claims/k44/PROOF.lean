import PyProof.Rows.All
import Wide.All
import OpenK.AllK
import Wide.FinOn
import HandS.ForMost
import HandS.ForExc
import HandS.AnyAll
import HandS.EndTab
import HandS.ExcIs
import HandS.ExcField
import HandS.ExcInit
import HandS.IsInst
import HandS.Conv
import HandS.Replace
import HandS.Flow
import HandS.Walk
import HandS.Evl
import KE.KExcIs
import HandS.EndOwn
import HandS.CallRecv
import HandS.Zip
import HandS.Deep
import HandS.More
import HandS.Star
import HandS.TupMul
import HandS.RaiseMore
import HandS.WrittenGet
import KE.KUnpack
import PyProof.CollectIter
import PySem.Challenge.RW_mastword_k44_deeds_written
set_option Elab.async false
set_option linter.all false
set_option maxRecDepth 100000
set_option maxHeartbeats 2000000
namespace Mw
open PySem PySem.Spec PyProof.Rows L2
/-! ### what is kept: every tracked thing but the tables of code objects, which stay tables -/
def isT : HO → Bool
  | .tbl _ => true
  | _ => false
structure Kp (H H' : Hp) : Prop where
  same : ∀ a o, isT o = false → H a = some o → H' a = some o
  tab : ∀ a, GxR.TabG H a → GxR.TabG H' a
  free : ∀ a, H' a = none → H a = none
theorem Kp.refl (H : Hp) : Kp H H := ⟨fun _ _ _ h => h, fun _ h => h, fun _ h => h⟩
theorem Kp.trans {H H1 H2 : Hp} (a : Kp H H1) (b : Kp H1 H2) : Kp H H2 :=
  ⟨fun x o t h => b.same x o t (a.same x o t h), fun x h => b.tab x (a.tab x h), fun x h => a.free x (b.free x h)⟩
theorem Kp.mut {H H' : Hp} {p : Addr} {o : HO} (e : Kp H H') (h : H p = none) : Kp H (upd H' p o) := by
  refine ⟨fun a u t ha => ?_, fun a ⟨ps, ha, ht⟩ => ?_, fun a ha => ?_⟩
  · rw [upd_ne (ne_of_none ha h)]
    exact e.same a u t ha
  · obtain ⟨ps', h1, h2⟩ := e.tab a ⟨ps, ha, ht⟩
    exact ⟨ps', by rw [upd_ne (ne_of_none ha h)]; exact h1, h2⟩
  · by_cases q : a = p
    · rw [q]
      exact h
    · rw [upd_ne q] at ha
      exact e.free a ha
theorem Kp.new {H : Hp} {p : Addr} {o : HO} (h : H p = none) : Kp H (upd H p o) := (Kp.refl H).mut h
theorem Kp.rd {H H' : Hp} {a : Addr} {u : HO} (e : Kp H H') (t : isT u = false) (h : Rd H a u) : Rd H' a u := by
  rcases h with h | ⟨o, h⟩
  · exact Or.inl (e.same a _ t h)
  · exact Or.inr ⟨o, e.same a _ rfl h⟩
theorem Kp.sqL {K : PySem.W.Frag} {H H' : Hp} {a : Addr} {xs : List V} (e : Kp H H') (h : SqL K H a xs) : SqL K H' a xs := by
  rcases h with h | h
  · exact Or.inl (e.rd rfl h)
  · exact Or.inr h
theorem Kp.sqT {K : PySem.W.Frag} {H H' : Hp} {a : Addr} {xs : List V} (e : Kp H H') (h : SqT K H a xs) : SqT K H' a xs := by
  rcases h with h | h
  · exact Or.inl (e.rd rfl h)
  · exact Or.inr h
mutual
theorem Kp.dp {K : PySem.W.Frag} {H H' : Hp} (e : Kp H H') : ∀ {d : PyData} {v : V}, Dp K H v d → Dp K H' v d
  | _, _, .non => .non
  | _, _, .bl b => .bl b
  | _, _, .int i => .int i
  | _, _, .str x => .str x
  | _, _, .lst h a => .lst (e.sqL h) (Kp.dpAll e a)
  | _, _, .tup h a => .tup (e.sqT h) (Kp.dpAll e a)
theorem Kp.dpAll {K : PySem.W.Frag} {H H' : Hp} (e : Kp H H') : ∀ {ds : List PyData} {vs : List V}, DpAll K H vs ds → DpAll K H' vs ds
  | _, _, .nil => .nil
  | _, _, .cons h t => .cons (Kp.dp e h) (Kp.dpAll e t)
end
theorem DpAll.len {K : PySem.W.Frag} {H : Hp} : ∀ {vs : List V} {ds : List PyData}, DpAll K H vs ds → vs.length = ds.length
  | _, _, .nil => rfl
  | _, _, .cons _ t => congrArg (· + 1) (DpAll.len t)
theorem DpAll.get {K : PySem.W.Frag} {H : Hp} : ∀ {vs : List V} {ds : List PyData} {i : Nat} {d : PyData}, DpAll K H vs ds → ds[i]? = some d → ∃ v, vs[i]? = some v ∧ Dp K H v d
  | _, _, i, d, .nil, h => by simp at h
  | _, _, 0, d, .cons a _, h => by
    have e := Option.some.inj h
    subst e
    exact ⟨_, rfl, a⟩
  | _, _, i + 1, d, .cons _ t, h => DpAll.get (i := i) t h
theorem DpAll.app {K : PySem.W.Frag} {H : Hp} : ∀ {vs ws : List V} {ds es : List PyData}, DpAll K H vs ds → DpAll K H ws es → DpAll K H (vs ++ ws) (ds ++ es)
  | _, _, _, _, .nil, b => b
  | _, _, _, _, .cons a t, b => .cons a (DpAll.app t b)
/-- data without lists -/
inductive Nl : PyData → Prop
  | non : Nl .none
  | bl (b : Bool) : Nl (.bool b)
  | int (i : Int) : Nl (.int i)
  | str (x : Str) : Nl (.str x)
  | tup {ds : List PyData} : (∀ d ∈ ds, Nl d) → Nl (.tuple ds)
/-! a list may change: what has no list in it stays -/
mutual
theorem Dp.mut {K : PySem.W.Frag} {H : Hp} {p : Addr} {o : HO} {zs : List V} (hp : H p = some (.lst zs)) : ∀ {d : PyData} {v : V}, Nl d → Dp K H v d → Dp K (upd H p o) v d
  | _, _, _, .non => .non
  | _, _, _, .bl b => .bl b
  | _, _, _, .int i => .int i
  | _, _, _, .str x => .str x
  | _, _, n, .lst _ _ => nomatch n
  | _, _, n, .tup h a => by
    cases n with
    | tup n =>
      refine .tup ?_ (DpAll.mut hp n a)
      rcases h with (h | ⟨ob, h⟩) | h
      · exact .inl (.inl (by rw [upd_ne (ne_of h hp (by intro z; cases z))]; exact h))
      · exact .inl (.inr ⟨ob, by rw [upd_ne (ne_of h hp (by intro z; cases z))]; exact h⟩)
      · exact .inr h
theorem DpAll.mut {K : PySem.W.Frag} {H : Hp} {p : Addr} {o : HO} {zs : List V} (hp : H p = some (.lst zs)) : ∀ {ds : List PyData} {vs : List V}, (∀ d ∈ ds, Nl d) → DpAll K H vs ds → DpAll K (upd H p o) vs ds
  | _, _, _, .nil => .nil
  | _, _, n, .cons h t => .cons (Dp.mut hp (n _ List.mem_cons_self) h) (DpAll.mut hp (fun d hd => n d (List.mem_cons_of_mem _ hd)) t)
end
theorem DpAll.snoc {K : PySem.W.Frag} {H : Hp} {vs : List V} {ds : List PyData} {v : V} {d : PyData} (a : DpAll K H vs ds) (h : Dp K H v d) : DpAll K H (vs ++ [v]) (ds ++ [d]) := DpAll.app a (.cons h .nil)
theorem DpAll.dropLast {K : PySem.W.Frag} {H : Hp} : ∀ {vs : List V} {ds : List PyData}, DpAll K H vs ds → DpAll K H vs.dropLast ds.dropLast
  | _, _, .nil => .nil
  | _, _, .cons _ .nil => .nil
  | _, _, .cons h (.cons h2 t) => .cons h (DpAll.dropLast (.cons h2 t))
theorem dp_ints {K : PySem.W.Frag} {H : Hp} : ∀ ns : List Int, DpAll K H (ns.map V.int) (ns.map PyData.int)
  | [] => .nil
  | n :: r => .cons (.int n) (dp_ints r)
theorem dp_strs {K : PySem.W.Frag} {H : Hp} : ∀ ns : List Str, DpAll K H (ns.map V.str) (ns.map PyData.str)
  | [] => .nil
  | n :: r => .cons (.str n) (dp_strs r)
/-- a list of ints, a list of texts as data -/
def dI (ns : List Int) : PyData := .list (ns.map PyData.int)
def dS (ns : List Str) : PyData := .list (ns.map PyData.str)
theorem dp_dI {K : PySem.W.Frag} {H : Hp} {a : Addr} {ns : List Int} (h : SqL K H a (ns.map V.int)) : Dp K H (.ref a) (dI ns) := .lst h (dp_ints ns)
theorem dpAll_ints {K : PySem.W.Frag} {H : Hp} : ∀ {ns : List Int} {vs : List V}, DpAll K H vs (ns.map PyData.int) → vs = ns.map V.int
  | [], _, .nil => rfl
  | n :: r, _, .cons h t => by
    cases h
    rw [dpAll_ints t]
    rfl
theorem dp_of_dI {K : PySem.W.Frag} {H : Hp} {v : V} {ns : List Int} (h : Dp K H v (dI ns)) : ∃ a, v = .ref a ∧ SqL K H a (ns.map V.int) := by
  cases h with
  | lst h t =>
    rw [dpAll_ints t] at h
    exact ⟨_, rfl, h⟩
/-! ### small words -/
theorem at_int {ns : List Int} {j : Nat} (h : j < ns.length) : atI (ns.map V.int) (j : Int) = some (.int ns[j]) := atI_nat (by rw [List.getElem?_map, List.getElem?_eq_getElem h]; rfl)
theorem at_intZ {ns : List Int} {z : Int} (h0 : 0 ≤ z) (h : z.toNat < ns.length) : atI (ns.map V.int) z = some (.int ns[z.toNat]) := by
  have e := at_int h
  rw [Int.toNat_of_nonneg h0] at e
  exact e
theorem szl {n : Nat} (h : n ≤ 100000) : n ≤ sizeLine := Nat.le_trans h (by decide)
theorem szt {n : Nat} (h : n < 100000) : n < sizeLine := Nat.lt_of_lt_of_le h (by decide)
theorem iteB {b : Bool} {A B : Prop} (h1 : b = true → A) (h2 : b = false → B) : if b = true then A else B := by
  cases b with
  | true => rw [if_pos rfl]; exact h1 rfl
  | false => rw [if_neg Bool.false_ne_true]; exact h2 rfl
theorem iteD {c : Prop} [Decidable c] {A B : Prop} (h1 : c → A) (h2 : ¬ c → B) : if decide c = true then A else B :=
  iteB (fun h => h1 (of_decide_eq_true h)) (fun h => h2 (of_decide_eq_false h))
theorem iteN {c : Prop} [Decidable c] {A B : Prop} (h1 : ¬ c → A) (h2 : c → B) : if (!decide c) = true then A else B :=
  iteB (fun h => h1 (fun z => by rw [decide_eq_true z] at h; cases h)) (fun h => h2 (by
    by_cases z : c
    · exact z
    · rw [decide_eq_false z] at h; cases h))
theorem iteTo {b : Bool} {A B : Prop} (e : b = true) (h : A) : if b = true then A else B := by rw [if_pos e]; exact h
theorem iteFo {b : Bool} {A B : Prop} (e : b = false) (h : B) : if b = true then A else B := by rw [e, if_neg Bool.false_ne_true]; exact h
/-! ### rules with the written part by its own name (inside a comprehension) -/
section
variable {X : Cx} (K : PySem.W.Frag)
theorem ix_listK (h : X.K = K) : IxR X (rIxL K) := h ▸ ix_list
theorem ix_tupK (h : X.K = K) : IxR X (rIxT K) := h ▸ ix_tup
theorem ix_seqK (h : X.K = K) : IxR X (rIx K) := h ▸ ix_seq
def rLenSq : List V → Hp → VK → Prop := fun xs H Q => ∃ p ys, xs = [.ref p] ∧ (SqL K H p ys ∨ SqT K H p ys) ∧ Q (.int ys.length) H
theorem call_lenSK (h : X.K = K) : CallR X (.builtin "len") (rLenSq K) := h ▸ call_len_seq
def rLenV : List V → Hp → VK → Prop := fun xs H Q => ∃ x n, xs = [x] ∧ LenV K x H n ∧ Q (.int n) H
theorem call_lenK (h : X.K = K) : CallR X (.builtin "len") (rLenV K) := h ▸ call_len
theorem op_inK (h : X.K = K) : OpR X (compareOp .In) (rIn K false) := h ▸ op_in_seq
theorem op_notInK (h : X.K = K) : OpR X (compareOp .NotIn) (rIn K true) := h ▸ op_notIn_seq
theorem op_eqDK (h : X.K = K) (hu : X.A.units + 64 < cLine) : OpR X (compareOp .Eq) (rEqD K) := h ▸ op_eqD hu
theorem op_neDK (h : X.K = K) (hu : X.A.units + 64 < cLine) : OpR X (compareOp .NotEq) (rNeD K) := h ▸ op_neD hu
theorem call_isiKK (h : X.K = K) : CallR X (.builtin "isinstance") (rIsi K) := h ▸ call_isi
end
section
variable {X : Cx} (K : PySem.W.Frag)
theorem pgK {e : Expr} {n : Nat} {t : TGs} (h : X.K = K) (p : PG X e (gTup X.K n t)) : PG X e (gTup K n t) := h ▸ p
/-- isinstance(e, C), e what the suite has caught (without or with a dict of its own) -/
def rIsX (cls : Value) (d : Option Addr) (a : Addr) : List V → Hp → VK → Prop := fun xs H Q => ∃ (D : Addr) (c : V) (cv : Value) (b : Bool), cls = .ref D ∧ (d = none ∨ ∃ dd fs, d = some dd ∧ H dd = some (.xd fs)) ∧ ExcC K D ∧ xs = [.ref a, c] ∧ ClsV c cv ∧ PySem.W.kitOne K (.ref D) cv = some b ∧ Q (.bl b) H
theorem call_isX {a : Addr} {oe : Obj} {pn : List (Addr × Obj)} {cls : Value} {d : Option Addr} (h : X.K = K) (hz : Zc cls d oe) (hf : ∃ vs, oe.data = .fields vs) : CallR (X.suite a ((a, oe) :: pn)) (.builtin "isinstance") (rIsX K cls d a) := by
  subst h
  intro pins s σ H xs us Q I r h'
  obtain ⟨D, c, cv, b, rfl, hd, C, rfl, hc, hk, q⟩ := h'
  cases r with | cons rx rr =>
  cases rr with | cons rt rr =>
  cases rr
  cases rx
  have ec := hc.eq rt
  subst ec
  obtain ⟨hget, _⟩ := I.pin (a, oe) (List.mem_append_left _ List.mem_cons_self)
  obtain ⟨vs, hv⟩ := hf
  have hcl : (PySem.W.clsIn X.K D).isSome = true := by
    obtain ⟨cd, hc, _⟩ := PySem.W.any_some C.hd
    rw [hc]
    first | rfl | done
  have nc : PySem.W.notCls oe = true := by
    unfold PySem.W.notCls
    rw [hv]
  rcases hd with rfl | ⟨dd, fs, rfl, hdd⟩
  · have J : PySem.W.InstAt s.heap a oe D none := ⟨hget, hz.1, nc, by rw [hz.2]; trivial⟩
    exact PySem.W.kia_one (PySem.W.kitx_exc hcl C.hg C.hk C.hs C.ha C.hn C.ht C.hm) I.kIn J hk (fun z => nomatch z) fun tk => ⟨.bl b, H, I.kept (t' := tk) fun _ _ z => z, rfl, q⟩
  · obtain ⟨mA, hns, hr⟩ := I.hok dd _ hdd
    obtain ⟨od, ho, hl⟩ := lookIn_ns hns
    have J : PySem.W.InstAt s.heap a oe D (some od) := ⟨hget, hz.1, nc, by rw [hz.2]; exact ho⟩
    exact PySem.W.kia_one (PySem.W.kitx_exc hcl C.hg C.hk C.hs C.ha C.hn C.ht C.hm) I.kIn J hk (fun z => nomatch z) fun tk => ⟨.bl b, H, I.kept (t' := tk) fun _ _ z => z, rfl, q⟩
end
/-! ### isinstance of an own error, by what the written part says of its class -/
theorem kit_sub {K : PySem.W.Frag} {t : Value} {C : Addr} (ic : PySem.W.isClsIn K C = true) (tC : PySem.W.typeIn K (.ref C) = some (.type "type")) (h : PySem.W.subIn K t (.ref C) = some true) : PySem.W.kitOne K t (.ref C) = some true := by
  unfold PySem.W.kitOne
  by_cases e : (t == .ref C) = true
  · rw [if_pos e]
  · rw [if_neg e]
    have h2 : ((PySem.W.clsIn K C).isSome && PySem.W.typeIn K (.ref C) == some (.type "type")) = true := by
      have q : (PySem.W.clsIn K C).isSome = true := ic
      rw [q, tC]
      rfl
    show (if ((PySem.W.clsIn K C).isSome && PySem.W.typeIn K (.ref C) == some (.type "type")) = true then PySem.W.subIn K t (.ref C) else none) = some true
    rw [if_pos h2]
    exact h
theorem kit_not {K : PySem.W.Frag} {t : Value} {C : Addr} (ic : PySem.W.isClsIn K C = true) (tC : PySem.W.typeIn K (.ref C) = some (.type "type")) (h : PySem.W.subIn K t (.ref C) = some false) (hs : PySem.W.subIn K t t = some true) : PySem.W.kitOne K t (.ref C) = some false := by
  unfold PySem.W.kitOne
  have e : ¬ (t == .ref C) = true := fun e => by
    have z : t = .ref C := by simpa using e
    rw [z] at h hs
    rw [h] at hs
    cases hs
  rw [if_neg e]
  have h2 : ((PySem.W.clsIn K C).isSome && PySem.W.typeIn K (.ref C) == some (.type "type")) = true := by
    have q : (PySem.W.clsIn K C).isSome = true := ic
    rw [q, tC]
    rfl
  show (if ((PySem.W.clsIn K C).isSome && PySem.W.typeIn K (.ref C) == some (.type "type")) = true then PySem.W.subIn K t (.ref C) else none) = some false
  rw [if_pos h2]
  exact h
theorem meta_ve : PySem.W.kitMeta "ValueError" = true := by decide +kernel
theorem kit_ve {K : PySem.W.Frag} {C : Addr} (h : PySem.W.subIn K (.ref C) (.type "ValueError") = some true) : PySem.W.kitOne K (.ref C) (.type "ValueError") = some true := by
  unfold PySem.W.kitOne
  rw [if_neg (by intro z; cases z)]
  show (if PySem.W.kitMeta "ValueError" = true then PySem.W.subIn K (.ref C) (.type "ValueError") else none) = some true
  rw [if_pos meta_ve]
  exact h
theorem at_mod (z : Str) {m : Int} {n : Nat} (hn : 0 < n) (hl : z.cps.toList.length = n) : ∃ c, atI z.cps.toList (m % (n : Int)) = some c := by
  have h0 : 0 ≤ m % (n : Int) := Int.emod_nonneg _ (by omega)
  have h1 : m % (n : Int) < (n : Int) := Int.emod_lt_of_pos _ (by omega)
  have hj : (m % (n : Int)).toNat < z.cps.toList.length := by omega
  refine ⟨z.cps.toList[(m % (n : Int)).toNat], ?_⟩
  have e := atI_nat (List.getElem?_eq_getElem hj)
  rw [Int.toNat_of_nonneg h0] at e
  exact e
theorem cutV_map {lo hi : Option Int} {ns : List Int} : ∃ ms : List Int, cutV (ns.map V.int) lo hi = ms.map V.int ∧ (∀ m ∈ ms, m ∈ ns) ∧ ms.length ≤ ns.length := by
  unfold cutV
  rw [List.length_map]
  refine ⟨(ns.drop _).take _, by rw [List.map_take, List.map_drop], fun m h => List.mem_of_mem_drop (List.mem_of_mem_take h), ?_⟩
  rw [List.length_take, List.length_drop]
  omega
theorem mem_ints {ns : List Int} {i : Nat} {x : V} (h : (ns.map V.int)[i]? = some x) : ∃ z, z ∈ ns ∧ x = .int z ∧ ns[i]? = some z := by
  rw [List.getElem?_map] at h
  cases e : ns[i]? with
  | none =>
    rw [e] at h
    cases h
  | some z =>
    rw [e] at h
    exact ⟨z, List.mem_of_getElem? e, (Option.some.inj h).symm, rfl⟩
theorem mem_strs {ns : List Str} {i : Nat} {x : V} (h : (ns.map V.str)[i]? = some x) : ∃ z, z ∈ ns ∧ x = .str z ∧ ns[i]? = some z := by
  rw [List.getElem?_map] at h
  cases e : ns[i]? with
  | none =>
    rw [e] at h
    cases h
  | some z =>
    rw [e] at h
    exact ⟨z, List.mem_of_getElem? e, (Option.some.inj h).symm, rfl⟩
theorem take_snoc {α : Type} {l : List α} {i : Nat} {z : α} (h : l[i]? = some z) : l.take (i + 1) = l.take i ++ [z] := by
  rw [List.take_succ, h]
  rfl
/-! ### all(test for x in a text): the test may read the module's names -/
section
open GxR
variable {X : Cx} {pins : List (Addr × Obj)} {σ : L2.St} {H : Hp} {s : Shared}
/-- the test of one sign, the module's names being mg -/
def EltG (prog : Program) (w : World) (mg : Str → Option Value) (sco : Scope) (x : Str) (elt : Expr) (pb : Nat → Bool) : Prop :=
  ∀ (en : Env) (B : Around) (F : Value → Shared → Prop) (c : Nat) (t : Tok) (z : Shared) (m : Str → Option Value),
    en.scope = sco → en.globals = mainGlobals → z.heap.Ns mainGlobals mg → z.heap.Ns en.locals m → m x = some (.str ⟨#[c]⟩ t) →
    wpAny (model prog w) B (eval elt en) (fun y z' => y = .bool (pb c) ∧ Keeps z z') F z
theorem elt_inG {prog : Program} {w : World} {mg : Str → Option Value} {sco : Scope} {x g : Str} {L : Str} {tl : Tok} {p1 p2 p3 : Pos} (kf : sco.kind = .function) (lx : sco.names.lookup x = some .local) (lg : sco.names.lookup g = some .globalImplicit)
    (hL : mg g = some (.str L tl)) (dx : (x == ("__debug__" : Str)) = false := by decide) (dg : (g == ("__debug__" : Str)) = false := by decide) :
    EltG prog w mg sco x (.Compare (.Name x p1) [.In] [.Name g p2] p3) (fun c => decide (c ∈ L.cps.toList)) := by
  intro en B F c t z m es eg ng nl hm
  have kk : en.scope.kind = .function := by rw [es]; exact kf
  refine wpAny_Compare1 ?_ rfl
  refine wpAny_Name (wpAny_loadName_local kk (show en.scope.names.lookup x = some .local by rw [es]; exact lx) nl hm ?_) dx
  refine Calls.Name_function_global kk (show en.scope.names.lookup g = some .globalImplicit by rw [es]; exact lg) (Calls.loadGlobal_global (mg := mg) (by rw [eg]; exact ng) hL ?_) dg
  refine PyProof.Rows.in_str ⟨?_, keeps_refl _⟩
  rw [PySem.StrLaws.found_one L c]
theorem gen_signs {c P : Addr} {elt src : Expr} {x : Str} {px gp : Pos} {sco : Scope} {pb : Nat → Bool} {te : TE} {k : Nat} {Z : Value → Shared → Prop} {R : Str → Hp → Prop}
    (hr : Room k X.A) (TB : TabB X.base X.mg c P) (hco : X.env.code = .ref c) (S : GenS X.env sco x) (hi : PE X src te) (hel : EltG X.prog X.w X.mg sco x elt pb)
    (hs : ∀ v, genFold src X.env v = pure v) (I : Inv X pins σ H s) (h : te σ H fun v H1 => ∃ a : Str, v = .str a ∧ TabG H1 P ∧ R a H1)
    (hZ : ∀ a H1 g z, R a H1 → Ready X pins σ H1 P a pb g z → Z (.ref g) z) :
    wpAny (model X.prog X.w) X.A (eval (.GeneratorExp elt [⟨.Name x px, src, [], 0⟩] sco gp) X.env) Z X.xe s := by
  refine wpAny_GeneratorExp_walksQ hr.hd S.co (closure_ok S.free) S.cell S.dot S.loc S.kind (by have d := hr.dp; omega) ?_ hs
  refine thn (hi.run pins s σ H _ I h) fun xv z1 ⟨v, H1, J, r1, q⟩ => ?_
  obtain ⟨a, rfl, ⟨ps, hP, ht⟩, q⟩ := q
  obtain ⟨t, rfl⟩ := _root_.id r1
  refine wpAny_pyIter_str fun it St W w0 => ?_
  have gP : z1.heap.get? P = some { cls := .none, data := .fields ps } := J.hok P _ hP
  have gP2 : (z1.heap.push it).get? P = some { cls := .none, data := .fields ps } := Heap.get?_push_of_some _ gP
  have ltP : P < z1.heap.objs.size := Heap.lt_size gP
  have hd2 : PySem.W.CodeHd (z1.heap.push it) c P := TB.code.keeps fun b u e => Heap.get?_push_of_some _ (J.bk b u e)
  have nl2 : (z1.heap.push it).NoLimit := J.nolimit.push it
  have go : ∀ (code : Value) (hh : Heap) (tk : Nat) (qs : Array Value), Heap.ExtBut P (z1.heap.push it) hh → (z1.heap.push it).objs.size ≤ hh.objs.size →
      hh.get? P = some { cls := .none, data := .fields qs } → (∃ more, qs = ps ++ more) → TriplesOk qs.toList →
      wpAny (model X.prog X.w) X.A (builtinsFor X.env.globals X.env.builtins) (fun bi s₄ =>
        ∃ Ia fp wr n₀ Pf St₀ pz F, Value.ref z1.heap.objs.size = .ref Ia ∧ (∀ A' : Around, A'.handled = none → Walks X.prog X.w A' Ia fp wr n₀ Pf St₀) ∧
          St₀ 0 s₄.heap ∧ (∀ b ∈ fp, b < s₄.heap.objs.size) ∧ s₄.heap.NoLimit ∧ cStatics ∉ wr ∧
          (∀ hf : Heap, (∀ b o, s₄.heap.get? b = some o → hf.get? b = some o) →
            QuietGen X.prog X.w (genEnv sco (cloFrom X.env.cells sco.names []) s₄.heap.objs.size code bi X.env) x [] elt (List.range s₄.heap.objs.size) wr Pf pz F hf) ∧
          (∀ a h₅ tk gs, gs.bare = true → s₄.heap.objs.size < a → h₅.objs.size = a + 1 → (∀ b o, s₄.heap.get? b = some o → h₅.get? b = some o) →
            WalksS X.prog X.w X.A.in4 a (a :: s₄.heap.objs.size :: List.range s₄.heap.objs.size) (s₄.heap.objs.size :: wr) (GenOnlyQ s₄.gens.size)
              (passing pz n₀ 0).length (fun j y => ∃ i, (passing pz n₀ 0)[j]? = some i ∧ F i y)
              (GenAt X.prog X.w X.A.in4 a s₄.gens.size s₄.heap.objs.size (List.range s₄.heap.objs.size) wr pz n₀ F) →
            GenAt X.prog X.w X.A.in4 a s₄.gens.size s₄.heap.objs.size (List.range s₄.heap.objs.size) wr pz n₀ F 0 { s₄ with gens := s₄.gens.push gs, toks := tk, heap := h₅ } →
            Z (.ref a) { s₄ with gens := s₄.gens.push gs, toks := tk, heap := h₅ })) X.xe { z1 with heap := hh, toks := tk } := by
    intro code hh tk qs ex sz gq mr tq
    obtain ⟨bm, ob, b1, b2, b3, b4, b5, b6, b7, b8⟩ := TB.bm
    have neS : cStatics ≠ P := fun e => by
      obtain ⟨_, ns, _⟩ := J.nolimit
      obtain ⟨oo, es, ep, go1, gd, _⟩ := ns
      rw [e, gP] at go1
      cases go1
      cases gd
    have ltS : cStatics < z1.heap.objs.size := let ⟨_, ns, _⟩ := J.nolimit; ns.lt
    have szp : (z1.heap.push it).objs.size = z1.heap.objs.size + 1 := Heap.size_push ..
    have kp : ∀ b u, b ≠ P → z1.heap.get? b = some u → hh.get? b = some u := fun b u hb e => ex b u hb (Heap.get?_push_of_some _ e)
    have gl1 : z1.heap.Ns mainGlobals X.mg := J.mod.glob.keeps J.bk
    have glh : hh.Ns mainGlobals X.mg := (gl1.push it).extBut ex TB.gP
    refine wpAny_builtinsFor (m := X.mg) (by rw [J.ok.glob]; exact glh) b1 b2 (kp _ _ b4 (J.bk _ _ b5)) b6 b7 b8 ?_
    refine ⟨z1.heap.objs.size, [z1.heap.objs.size], [z1.heap.objs.size], a.cps.size, SignAt a, St, (fun _ => true), (fun i y => ∃ cc, a.cps[i]? = some cc ∧ y = .bool (pb cc)), rfl, W, ?_, ?_, nl2.extBut ex neS, ?_, ?_, ?_⟩
    · refine (W X.A hr.hd).frame _ _ _ w0 fun b hb u e => ex b u (fun eq => ?_) e
      rw [List.mem_singleton.mp hb] at eq
      exact Nat.ne_of_lt ltP eq.symm
    · intro b hb
      rw [List.mem_singleton.mp hb]
      show z1.heap.objs.size < hh.objs.size
      omega
    · exact fun m => Nat.ne_of_lt ltS (List.mem_singleton.mp m)
    · intro hf keep
      refine ⟨fun A' E' i v z2 m2 _ _ _ _ _ => ?_, fun A' E' i v z2 m2 _ hv _ hn hm hk => ?_⟩
      · simp only [List.forIn_nil]
        exact wpAny_pure ⟨rfl, keeps_refl _⟩
      · obtain ⟨cc, u, hcc, rfl⟩ := hv
        have ngl : z2.heap.Ns mainGlobals X.mg := by
          have lt1 : mainGlobals < z1.heap.objs.size := gl1.lt
          obtain ⟨og, es, ep, e1, er⟩ := glh
          exact ⟨og, es, ep, hk mainGlobals (List.mem_range.mpr (Heap.lt_size e1)) (fun m => Nat.ne_of_lt lt1 (List.mem_singleton.mp m)) og (keep _ _ e1), er⟩
        exact wpAny_mono (hel _ A' E' cc u z2 m2 rfl J.ok.glob ngl hn hm) (fun y z3 r => ⟨⟨cc, hcc, r.1⟩, r.2⟩) fun _ _ e => e
    · intro g h5 tk5 gs bare lt5 sz5 k5 W5 at5
      simp only [GxR.passing_true, List.length_range] at W5
      refine hZ a H1 g _ q ⟨_, _, _, _, _, W5.in4_1, at5, ?_, fun z' mv => ?_⟩
      · intro j y sj Qj Ej hy hQj
        obtain ⟨i, hij, cc, hcc, rfl⟩ := hy
        obtain ⟨lj, ej⟩ := List.getElem?_eq_some_iff.mp hij
        rw [List.getElem_range] at ej
        subst ej
        have e9 : a.cps.toList[j]? = some cc := by rw [Array.getElem?_toList]; exact hcc
        have hQ2 : Qj (trF pb a.cps.toList j) sj := hQj
        rw [trF_some e9] at hQ2
        exact wpAny_truthy_bool hQ2
      · obtain ⟨more, em⟩ := mr
        have out : ∀ b u, z1.heap.get? b = some u → b ∉ hh.objs.size :: [z1.heap.objs.size] := fun b u e hb => by
          have lt := Heap.lt_size e
          rcases List.mem_cons.mp hb with y | y
          · rw [y] at lt
            have lt' : (hh.objs.size : Nat) < z1.heap.objs.size := lt
            omega
          · rw [List.mem_singleton.mp y] at lt
            exact Nat.lt_irrefl _ lt
        have J2 := inv_tab (more := more) (h' := z'.heap) (g' := z'.gens) (d' := z'.drawn) (t' := z'.toks) J hP
          (fun b u hb e => mv.heap b u (out b u e) (k5 b u (kp b u hb e)))
          (by rw [← em]; exact mv.heap P _ (out P _ gP) (k5 P _ gq))
          (AllBare.movedS (J.bare.push bare) mv)
        rw [sh_eta z1 z' mv.os] at J2
        exact ⟨upd H1 P (.tbl (ps ++ more)), ⟨⟨ps ++ more, upd_same, by rw [← em]; exact tq⟩, fun b hb => upd_ne hb⟩, J2⟩
  refine ⟨nl2, ?_⟩
  cases hf : codeAmong gp ps.toList with
  | none =>
    refine wpAny_genexprCodeX hco (hd2.code gP2 ht) (hd2.tab gP2) hf fun c' h' tk ex ge lt hc' _ tab' _ => ?_
    obtain ⟨_, _, _, _, _, _, _, _, _, _, _, _, _, _, _, _, _, _, _, tr, _⟩ := hc'
    exact go _ h' tk _ ex (Nat.le_trans ge (Nat.le_of_lt lt)) tab'.2 ⟨_, rfl⟩ tr
  | some cv =>
    refine wpAny_genexprCode_hit hco (hd2.code gP2 ht) hf ?_
    exact go cv (z1.heap.push it) z1.toks ps (Heap.ExtBut.refl _ _) (Nat.le_refl _) gP2 ⟨#[], by simp⟩ ht
theorem pe_allG {c P : Addr} {elt src : Expr} {x : Str} {px p pos gp : Pos} {sco : Scope} {pb : Nat → Bool} {te : TE} {k : Nat}
    (hr : Room k X.A) (hg : Gl X "all") (hm : X.mg "all" = none) (hb : bootBuiltins "all" = some (.builtin "all")) (TB : TabB X.base X.mg c P) (hco : X.env.code = .ref c) (S : GenS X.env sco x) (hi : PE X src te) (hel : EltG X.prog X.w X.mg sco x elt pb)
    (hs : ∀ v, genFold src X.env v = pure v)
    (he : starEach [.GeneratorExp elt [⟨.Name x px, src, [], 0⟩] sco gp] X.env = (false, eval (.GeneratorExp elt [⟨.Name x px, src, [], 0⟩] sco gp) X.env) :: starEach [] X.env := by rfl) :
    PE X (.Call (.Name "all" p) [.GeneratorExp elt [⟨.Name x px, src, [], 0⟩] sco gp] [] pos) (tAllS P pb te) := by
  refine ⟨fun pins z σ H Q I h => ?_⟩
  refine wpAny_Call_Name_kw (ld_blt I hg hm hb (PyProof.Rows.callWith_builtin1 ?_ he (by rfl)))
  rw [he]
  show wpAny _ _ (spliced ((false, eval (.GeneratorExp elt [⟨.Name x px, src, [], 0⟩] sco gp) X.env) :: backTo pos (starEach [] X.env))) _ _ z
  refine Calls.spliced_cons (gen_signs (R := fun a H1 => ∀ H2, Tabbed P H1 H2 → Q (.bl (a.cps.toList.all pb)) H2) hr TB hco S hi hel hs I h fun a H1 g z5 hR hG => ?_)
  obtain ⟨fp, wr, G, F, St, W, st0, tru, fin⟩ := hG
  refine Calls.spliced_nil (call_all_walkS (W.self 0 _ _ _ st0 ⟨g, fp, wr, G, _, F, St, _, rfl, W, st0, tru, fun z' mv => ?_⟩))
  obtain ⟨H2, tb, J⟩ := fin z' mv
  refine ⟨.bl _, H2, J, rfl, ?_⟩
  rw [all_signs a pb]
  exact hR H2 tb
/-- a table may grow -/
theorem kp_tabbed {P : Addr} {H H' : Hp} (h : TabG H P) (t : Tabbed P H H') : Kp H H' := by
  obtain ⟨ps, hP, _⟩ := h
  obtain ⟨⟨qs, hQ, tq⟩, e⟩ := t
  refine ⟨fun b o n hb => ?_, fun b hb => ?_, fun b hb => ?_⟩
  · have ne : b ≠ P := fun z => by
      rw [z, hP] at hb
      cases hb
      cases n
    rw [e b ne]
    exact hb
  · by_cases z : b = P
    · rw [z]
      exact ⟨qs, hQ, tq⟩
    · obtain ⟨rs, h1, h2⟩ := hb
      exact ⟨rs, by rw [e b z]; exact h1, h2⟩
  · by_cases z : b = P
    · rw [z, hQ] at hb
      cases hb
    · rw [e b z] at hb
      exact hb
end

/-! ### a def whose code object is known, a method that may raise in a try, the end with a table -/
structure FunC (K : PySem.W.Frag) (x qual : Str) (st : Stmt) (f : Addr) (fd : FuncData) (c : Addr) : Prop where
  ex : ∃ (oc : Value) (od : Option Addr) (kV doc pm : Value) (an : Option Addr) (ct : Value) (osl : Array (Option Value)),
    fd = PySem.W.fnOf x qual (defArgs st) (defBody st) (defScope st) .none kV doc pm an (.ref c) ct ∧ K.lookup f = some ⟨oc, od, .func fd, osl⟩ ∧ PySem.W.codeIn K (.ref c) qual = true
theorem FunC.ok {P : Program} {w : World} {K : PySem.W.Frag} {mg : Str → Option Value} {base : Heap} {x qual : Str} {st : Stmt} {f c : Addr} {fd : FuncData} {N ps : List Str} {k : Nat} {sp : Sp} (F : FunC K x qual st f fd c) (S : FnScope N ps (defScope st)) (len : ∀ vs H Q E, sp vs H Q E → vs.length = ps.length)
    (body : ∀ (A : Around) (outer : List Env) (s : Shared) (H : Hp) (vs : List V) (Q : VK) (E : XK), Room k (A.deeper (envOfC qual (defScope st) s.heap.objs.size f (.ref c))) → sp vs H Q E →
      ∃ t, PSs (cxOf CX0 P w K mg base N qual (defScope st) f (.ref c) A outer s H E).nox (defBody st) t ∧ t { nx := fun _ H' => Q .non H', rt := Q } (start N vs) H) : FnOk P w K mg base CX0 (k + 1) f fd ps sp := by
  obtain ⟨oc, od, kV, doc, pm, an, ct, osl, rfl, lk, cd⟩ := F.ex
  refine fn_of lk cd S len fun A outer s H vs Q E hr hs => ?_
  obtain ⟨t, h, q⟩ := body A outer s H vs Q E hr hs
  exact ⟨t, h.nox, q⟩
theorem noFree {names : List (Str × NameKind)} {cells : List (Str × Addr)} (h : names.all (fun y => decide (y.2 ≠ .free)) = true) : ∀ y ∈ names, y.2 = .free → ∃ c, cells.lookup y.1 = some c := fun y hy e =>
  absurd e (of_decide_eq_true (List.all_eq_true.mp h y hy))
theorem noCell {names : List (Str × NameKind)} (h : names.all (fun y => decide (y.2 ≠ .cell)) = true) : ∀ y ∈ names, y.2 ≠ .cell := fun y hy => of_decide_eq_true (List.all_eq_true.mp h y hy)
section
variable {X : Cx} {CX : CXT} {k : Nat} {C f : Addr} {fd : FuncData} {ps : List Str} {sp : Sp} {m : Str} {o e : Expr} {es : List Expr} {ta : TE} {t : TA} {E : L2.St → XK} {apos pos : Pos}
def tMethE (C : Addr) (m : Str) (sp : Sp) (E : L2.St → XK) (ta : TE) (t : TA) : TE := fun σ H Q => ta σ H fun x H1 => ∃ a dx fs, x = .ref a ∧ H1 a = some (.ins C dx fs) ∧ fs.lookup m = none ∧ t σ H1 fun vs H2 => sp (.ref a :: vs) H2 Q (E σ)
theorem pe_methE {pl : Sem Bool} (he : PE X o ta) (c : Cls X.K C) (hm : Meth X.K C m f) (F : FnOk X.prog X.w X.K X.mg X.base CX k f fd ps sp) (hr : Room k X.A) (hb : Binds X.K fd ps []) (hx : ∀ σ, PassesAt CX X σ (E σ)) (ha : PA X (e :: es) t)
    (s1 : starEach (e :: es) X.env = (false, eval e X.env) :: starEach es X.env := by rfl) (s2 : (backTo pos (starEach es X.env)).any (·.1) = false := by rfl)
    (ht : eval (.Call (.Attribute o m apos) (e :: es) [] pos) X.env = (do
      let v ← eval o X.env
      standAt apos.atName
      let (g, fst) ← holding [v] (getMethod v m pl)
      callWith pos g fst (backTo pos (starEach (e :: es) X.env)) (backToKw pos (keywordEach [] X.env))) := by rfl) :
    PE X (.Call (.Attribute o m apos) (e :: es) [] pos) (tMethE C m sp E ta t) := by
  refine ⟨fun pins z σ H Q I h => ?_⟩
  refine PySem.W.methodCall_KW (pl := pl) (thn (he.run pins z σ H _ I h) fun u z1 ⟨x, H1, J, rx, a, dx, fs, ex, ea, l, q⟩ => ?_) ht
  subst ex
  obtain rfl : u = Value.ref a := rx
  refine getmeth_ok J ea c hm l ?_
  refine PySem.W.callWith_K (first := [.ref a]) (h₀ := X.base) I.ok.mod.kin hm.kp (thn (ha.run pos pins z1 σ H1 _ J q) fun us z2 ⟨vs, H2, J2, r, q2⟩ => ⟨J2.kIn, ?_⟩) s1 s2
  exact run_fnS (us := .ref a :: us) (vs := .ref a :: vs) F hr hb (hx σ) J2 (.cons rfl r) q2
end
theorem walk_tab {l : PySem.W.OpenLaw} {n k : Nat} {q : Program} {loose : List Str} {XP : (Str → Option Value) → Heap → Prop} {YP : World → Heap → Prop} {d : DefRec} {K : Params → PySem.W.Frag} {CX : World → CXT} {x : Str} (nms : List Str)
    (hn : l.most = some n) (hz : n ≤ sizeLine) (hdf : d.params.defaults = []) (hr : Room k callerA) (hrec : nms.all (fun y => (recsOf q).any fun e => e.name == y) = true) (hY : ∀ (w : World) (h : Heap), YP w h → (K w.params).In h)
    (F : ∀ (w : World) (mg : Str → Option Value) (fa : Addr) (h : Heap), (K w.params).In h → h.Ns mainGlobals mg → mg d.name = some (.ref fa) → (∀ y ∈ nms, ∀ f, mg y = some (.ref f) → LamX.OwnTab (K w.params) f h) → LamX.LawAtS l w (K w.params) (CX w) k n x mg fa h)
    (hCX : ∀ (w : World) (H : Hp) (s : Shared) (e : Value) (s' : Shared), CX w [] H s (fun _ _ _ => False) e s' → False) :
    PySem.W.WalkO q loose XP YP l.row.toRowW d [] (fun f vs => PySem.call f vs) := by
  refine Att.attach_callB hn hdf fun w s0 s1 mg mb fa o pm cd doc a vs ns G Y ho hd hcd hmg hob hin hlen hbits hg => ?_
  have KX := hY w _ Y
  have own : ∀ y ∈ nms, ∀ f, mg y = some (.ref f) → LamX.OwnTab (K w.params) f s1.heap := fun y hy f hf c P o1 fd1 e dd us sl k1 k2 k3 k4 k5 => by
    obtain ⟨dl, hm, he⟩ := List.any_eq_true.mp (List.all_eq_true.mp hrec y hy)
    have en : dl.name = y := beq_iff_eq.mp he
    obtain ⟨a', o', fd', c', P', t1, t2, t3, t4, t5, t6⟩ := G.T.tab dl hm
    rw [en, hf] at t1
    cases t1
    rw [KX _ _ k1] at t2
    cases t2
    rw [k2] at t3
    cases t3
    rw [k3] at t4
    cases t4
    obtain ⟨⟨oc, vc, u1, _, u3, u4⟩, hP⟩ := t6
    rw [KX _ _ k4] at u1
    cases u1
    cases u3
    rw [k5] at u4
    cases u4
    exact hP
  obtain ⟨fd, cs, sp, hT, nT, C, hb, hsp, hF⟩ := F w mg fa _ KX G.T.g hmg own
  exact LamX.law_callTs KX G.T.g G.T.b G.T.builtins G.T.nolimit hg hT nT C G.T.bmain hob hin (Nat.le_trans hlen hz) hr hF hb (fun H hH hS => hsp H a ns hlen hbits hH hS) fun H e s' => hCX w H s1 e s'
theorem codeHd_mk {K : PySem.W.Frag} {h : Heap} {c P : Addr} {dd : Option Addr} {vs : Array Value} {sl : Array (Option Value)} {fl : Str} {tf tg tt : Tok} {fg tx : Int} {b : Bool} (X : K.In h) (l : K.lookup c = some ⟨.type "code", dd, .fields vs, sl⟩) (h11 : vs[11]? = some (.ref P)) (h18 : vs.getD 18 .none = .str fl tf)
    (h7 : vs.getD 7 .none = .int fg tg) (h9 : vs.getD 9 .none = .bool b) (h10 : vs.getD 10 .none = .int tx tt) (ne : c ≠ P) : PySem.W.CodeHd h c P :=
  ⟨_, vs, fl, tf, fg, tg, b, tx, tt, X _ _ l, rfl, rfl, h11, by rw [Array.getD_eq_getD_getElem?, h11]; rfl, h18, h7, h9, h10, ne⟩

/-! ### name, *rest = a list -/
theorem walks_from1 {prog : Program} {w : World} {A : Around} (hh : A.handled = none) (I ax : Addr) (hne : ax ≠ I) (items : Array Value) (h1 : 1 ≤ items.size) :
    Walks prog w A I [I, ax] [I] (items.size - 1) (fun i v => items[i + 1]? = some v) (fun i h => h.IsListIter I ax (i + 1) ∧ h.IsList ax items) := by
  have W := Walks.list (prog := prog) (w := w) hh I ax hne items
  have e : items.size - 1 + 1 = items.size := by omega
  refine ⟨W.sub, fun i h h' st hk => W.frame (i + 1) h h' st hk, fun i s Q E hi st hQ => W.item (i + 1) s Q E (by omega) st hQ, fun s Q E st hQ => W.done s Q E ?_ hQ, fun i s Q E st hQ => W.self (i + 1) s Q E st hQ⟩
  have st2 : s.heap.IsListIter I ax (items.size - 1 + 1) ∧ s.heap.IsList ax items := st
  rw [e] at st2
  exact st2
theorem itemsOf_drop {items acc : Array Value} (h : ItemsOf (fun i v => items[i + 1]? = some v) acc (items.size - 1)) : acc.toList = items.toList.drop 1 := by
  apply List.ext_getElem?
  intro i
  rw [List.getElem?_drop, Array.getElem?_toList, Array.getElem?_toList, Nat.add_comm 1 i]
  by_cases c : i < acc.size
  · have e := h.2 i acc[i] (Array.getElem?_eq_getElem c)
    rw [Array.getElem?_eq_getElem c]
    exact e.symm
  · have := h.1
    rw [Array.getElem?_eq_none (by omega), Array.getElem?_eq_none (by omega)]
def gStar1 (K : PySem.W.Frag) (t : TGs) : TG := fun v σ H Q => ∃ a x r, v = .ref a ∧ SqL K H a (x :: r) ∧ ∀ p, H p = none → t [x, .ref p] σ (upd H p (.lst r)) Q
theorem pg_star1 {X : Cx} {e1 e2 : Expr} {p2 pos : Pos} {k : Nat} {t : TGs} (hc : X.calm = true) (h : PGs X [e1, e2] t)
    (hl : (assignEach [e1, .Starred e2 p2] X.env).length = 2 := by rfl) (hm : (assignEach [e1, .Starred e2 p2] X.env).map (·.2) = (assignEach [e1, e2] X.env).map (·.2) := by rfl)
    (hst : (assignEach [e1, .Starred e2 p2] X.env).findIdx? (·.1) = some 1 := by rfl) : PG X (.Tuple [e1, .Starred e2 p2] k pos) (gStar1 X.K t) := by
  refine ⟨fun pins s σ H v u Q I r hw => ?_⟩
  obtain ⟨a, x, rr, e, hq, hw⟩ := hw
  subst e
  cases r
  obtain ⟨its, rv, pl, hz⟩ := I.list hq
  have hlst := pl.isList
  have hlt : a ≠ s.heap.objs.size := by obtain ⟨o, ho, _⟩ := id hlst; exact Nat.ne_of_lt (Heap.lt_size ho)
  have hlen := rv.length
  cases rv with
  | @cons _ u1 _ ur r1 rs =>
  rw [assign_Tuple]
  refine wpAny_bind (wpAny_standAt ?_)
  unfold unpack
  rw [hl, hst, hm]
  refine wpAny_bind (wpAny_holding ?_)
  unfold unpackItems
  refine wpAny_bind ?_
  unfold notIterableAtAll
  refine wpAny_bind (wpAny_specialOf hlst.typeIs slot_list_iter.lookup ?_)
  refine wpAny_pure ?_
  simp only [Bool.false_eq_true, if_false]
  refine wpAny_bind (wpAny_holding (wpAny_pyIter_list hlst ?_))
  refine wpAny_bind (wpAny_holding (PySem.W.kun_draw hlt 1 0 _ _ ⟨_, Heap.get?_push_size _ rfl, rfl, rfl⟩ (hlst.push _) (by simp) fun h₁ hit₁ hs₁ => ?_))
  have hl₁ : h₁.IsList a (u1 :: ur).toArray := (hlst.push _).extBut hs₁.extBut hlt
  rw [show List.take 1 (List.drop 0 (u1 :: ur).toArray.toList) = [u1] from rfl]
  rw [if_neg (by simp)]
  have hsz : (u1 :: ur).toArray.size - 1 ≤ sizeLine := by simp at hlen ⊢; simp at hz; omega
  have hi1 : s.heap.objs.size < h₁.objs.size := by obtain ⟨o, ho, _⟩ := id hit₁; exact Heap.lt_size ho
  have ha1 : a < h₁.objs.size := by obtain ⟨o, ho, _⟩ := id hl₁; exact Heap.lt_size ho
  refine wpAny_bind (wpAny_holding (wpAny_collect_iter (.inr (.inr (.inl rfl))) (walks_from1 (A := X.A.in1) (I.ok.hd hc) s.heap.objs.size a hlt (u1 :: ur).toArray (by simp)).toS (fun _ _ st => st.1.typeIs) ⟨hit₁, hl₁⟩ ?_ (by simp) (fun s2 acc hm2 ha => ?_) hsz))
  · intro b hb
    rcases List.mem_cons.mp hb with rfl | hb
    · exact hi1
    · rw [List.mem_singleton.mp hb]
      exact ha1
  have hacc : acc.toList = ur := (itemsOf_drop ha).trans rfl
  rw [hacc]
  obtain ⟨hp2, g2, d2, tk2, os2⟩ := s2
  obtain ⟨m1, m2, m3, m4, _⟩ := hm2
  simp only at m2 m3 m4
  subst m2 m3 m4
  rw [if_neg (by simp)]
  have keep : ∀ b o, s.heap.get? b = some o → hp2.get? b = some o := fun b o hb => by
    have hb' : b ≠ s.heap.objs.size := Nat.ne_of_lt (Heap.lt_size hb)
    exact m1 b o (by simpa using hb') (hs₁.extBut b o hb' (Heap.get?_push_of_some _ hb))
  have I1 : Inv X pins σ H { s with heap := hp2, toks := tk2 } := I.kept (t' := tk2) keep
  refine wpAny_bind (wpAny_newList ?_ (by simp at hlen ⊢; simp at hz; omega))
  refine wpAny_pure ?_
  have I2 := I1.laid (t' := tk2) (h' := hp2.push { cls := .type "list", data := .seq (ur.take (ur.length - (2 - 1 - 1))).toArray }) (a := hp2.objs.size) (o := .lst rr) (fun b ob q => Heap.get?_push_of_some _ q) (Nat.le_refl _)
    ⟨by simp at hz; omega, ur, 0, rs, by
      rw [show ur.take (ur.length - (2 - 1 - 1)) = ur from by simp]
      exact Heap.get?_push_size _ rfl⟩
  have hv : [u1] ++ [Value.ref hp2.objs.size] ++ ur.drop (ur.length - (2 - 1 - 1)) = [u1, .ref hp2.objs.size] := by simp
  rw [hv]
  exact h.run pins _ σ _ [x, .ref hp2.objs.size] [u1, .ref hp2.objs.size] Q I2 (.cons r1 (.cons rfl .nil)) (hw _ (I1.hok.fresh (Nat.le_refl _)))
/-! ### tuple * int, of any size -/
theorem tuple_mul0 (l : Addr) (items : Array Value) (n : Nat) (dd : Option Addr) (sl : Array (Option Value)) (x : Int) (u : Tok) (c0 : (decide (x < -(2 ^ 63)) || decide (x ≥ 2 ^ 63)) = false) (c1 : (items.isEmpty || x == 1) = false) (c2 : (decide (x ≤ 0) || items.isEmpty) = true) :
    Meets (Builtin.«tuple.__mul__» ⟨[.ref l, .int x u], []⟩) (fun _ R s => s.heap.get? l = some { cls := .type "tuple", dict := dd, data := .seq items n, slots := sl } ∧
      R (.ok (.ret (Value.ref s.heap.objs.size))) { s with heap := s.heap.push { cls := Value.type "tuple", data := Data.seq #[] }, toks := s.toks }) :=
  .of_wp fun prog w A R s h => by
    obtain ⟨hp, g, d, tk, os⟩ := s
    obtain ⟨hl, h⟩ := h
    have f1 := AutoSeq1.idx_int
    wp_walk using AutoSeq1.wpAny_loadPart' hl
    repeat (first
      | (refine wpAny_ite_false (decide_eq_false (by rw [c0]; exact Bool.false_ne_true)) ?_; wp_walk using AutoSeq1.wpAny_loadPart' hl)
      | (refine wpAny_ite_false (decide_eq_false (by rw [c1]; exact Bool.false_ne_true)) ?_; wp_walk using AutoSeq1.wpAny_loadPart' hl)
      | (refine wpAny_ite_true (decide_eq_true c2) ?_; wp_walk using AutoSeq1.wpAny_loadPart' hl))
    exact ⟨_, rfl, h⟩
theorem tuple_mul1 (l : Addr) (items : Array Value) (n : Nat) (dd : Option Addr) (sl : Array (Option Value)) (x : Int) (u : Tok) (c0 : (decide (x < -(2 ^ 63)) || decide (x ≥ 2 ^ 63)) = false) (c1 : (items.isEmpty || x == 1) = true) :
    Meets (Builtin.«tuple.__mul__» ⟨[.ref l, .int x u], []⟩) (fun _ R s => s.heap.get? l = some { cls := .type "tuple", dict := dd, data := .seq items n, slots := sl } ∧ R (.ok (.ret (Value.ref l))) s) :=
  .of_wp fun prog w A R s h => by
    obtain ⟨hp, g, d, tk, os⟩ := s
    obtain ⟨hl, h⟩ := h
    have f1 := AutoSeq1.idx_int
    wp_walk using AutoSeq1.wpAny_loadPart' hl
    repeat (first
      | (refine wpAny_ite_false (decide_eq_false (by rw [c0]; exact Bool.false_ne_true)) ?_; wp_walk using AutoSeq1.wpAny_loadPart' hl)
      | (refine wpAny_ite_true (decide_eq_true c1) ?_; wp_walk using AutoSeq1.wpAny_loadPart' hl))
    exact ⟨_, rfl, h⟩
/-- a tuple that is not empty, times an int from nought -/
def rRepA (K : PySem.W.Frag) : R2 := fun x y H Q => ∃ l k xs, x = .ref l ∧ y = .int k ∧ SqT K H l xs ∧ xs ≠ [] ∧ 0 ≤ k ∧ k ≤ 1000 ∧ xs.length ≤ 1000 ∧ (k = 1 → Q (.ref l) H) ∧ (k ≠ 1 → ∀ p, H p = none → Q (.ref p) (upd H p (.tup (List.replicate k.toNat xs).flatten)))
theorem op_repA {X : Cx} : OpR X (binaryOp .Mult) (rRepA X.K) := by
  intro pins s σ H x y v u Q I rx ry h
  obtain ⟨l, k, xs, rfl, rfl, hT, hne, h1, h2, hz, q1, q2⟩ := h
  by_cases b2 : 2 ≤ k
  · exact op_repT pins s σ H _ _ v u Q I rx ry ⟨l, k, xs, rfl, rfl, hT, hne, b2, h2, hz, q2 (by omega)⟩
  cases rx
  obtain ⟨t, rfl⟩ := ry
  obtain ⟨its, r, ⟨⟨cls, dd, data, sl⟩, ho, hc, n, hd⟩, hs⟩ := I.tuple hT
  simp only at hc hd
  subst hc hd
  have hle : its.length = xs.length := r.length.symm
  have hn : its ≠ [] := fun e => hne (by
    rw [e] at hle
    exact List.eq_nil_of_length_eq_zero hle.symm)
  have hi : its.toArray.isEmpty = false := by
    cases its with
    | nil => exact absurd rfl hn
    | cons a b => rfl
  have c0 : (decide (k < -(2 ^ 63)) || decide (k ≥ 2 ^ 63)) = false := by
    rw [decide_eq_false (by omega), decide_eq_false (by omega)] <;> rfl
  by_cases b1 : k = 1
  · have c1 : (its.toArray.isEmpty || k == 1) = true := by
      rw [hi, b1]
      rfl
    exact wpAny_binaryOp_repeat_ref (T := "tuple") (U := "int") (by decide) ⟨_, ho, rfl⟩ (fun s' => typeIs_int s' k t) noFill_tuple_mul F.fills_int_mul F.slot_int_rmul repeat_tuple F.slot_int_index.lookup
      (call_meets F.slot_int_rmul (typeIs_int s k t) F.entry_int_rmul (F.args_int_rmul_2 _ _) (int_rmul_tuple k t l its.toArray n dd sl)
        ⟨ho, rfl, ⟨_, ho, rfl⟩, call_meets F.slot_tuple_mul ⟨_, ho, rfl⟩ F.entry_tuple_mul (F.args_tuple_mul_2 _ _) (tuple_mul1 l its.toArray n dd sl k t c0 c1) ⟨ho, ⟨.ref l, H, I, rfl, q1 b1⟩⟩⟩)
  · have c1 : (its.toArray.isEmpty || k == 1) = false := by
      rw [hi, Bool.false_or]
      exact beq_eq_false_iff_ne.mpr b1
    have c2 : (decide (k ≤ 0) || its.toArray.isEmpty) = true := by
      rw [decide_eq_true (by omega)]
      rfl
    refine wpAny_binaryOp_repeat_ref (T := "tuple") (U := "int") (by decide) ⟨_, ho, rfl⟩ (fun s' => typeIs_int s' k t) noFill_tuple_mul F.fills_int_mul F.slot_int_rmul repeat_tuple F.slot_int_index.lookup
      (call_meets F.slot_int_rmul (typeIs_int s k t) F.entry_int_rmul (F.args_int_rmul_2 _ _) (int_rmul_tuple k t l its.toArray n dd sl)
        ⟨ho, rfl, ⟨_, ho, rfl⟩, call_meets F.slot_tuple_mul ⟨_, ho, rfl⟩ F.entry_tuple_mul (F.args_tuple_mul_2 _ _) (tuple_mul0 l its.toArray n dd sl k t c0 c1 c2) ⟨ho, ?_⟩⟩)
    have q := q2 b1
    rw [show k.toNat = 0 by omega] at q
    refine ⟨.ref s.heap.objs.size, _, I.laid (t' := s.toks) (o := .tup []) (fun b ob q => Heap.get?_push_of_some _ q) (Nat.le_refl _) ?_, rfl, q _ (I.hok.fresh (Nat.le_refl _))⟩
    exact ⟨Nat.zero_le _, _, .nil, IsTup.new _ _⟩
/-! ### str of an int or a text -/
def rStrA : List V → Hp → VK → Prop := fun xs H Q => (∃ i : Int, xs = [.int i] ∧ i.natAbs.log2 < 1920 ∧ Q (.str (toString i)) H) ∨ ∃ a, xs = [.str a] ∧ Q (.str a) H
theorem call_strA {X : Cx} : CallR X (.type "str") rStrA := by
  intro pins s σ H xs us Q I rs h
  rcases h with h | h
  · exact call_str_int pins s σ H xs us Q I rs h
  · exact SkE.call_str_str pins s σ H xs us Q I rs h
/-! ### written tuples and a written dict of tuples -/
def KTup (K : PySem.W.Frag) (a : Addr) (ks : List Str) : Prop := ∃ (o : Obj) (its : Array Value) (n : Nat), K.lookup a = some o ∧ o.cls = .type "tuple" ∧ o.data = .seq its n ∧ its.size ≤ sizeLine ∧ Vals (ks.map V.str) its.toList
theorem KTup.sq {K : PySem.W.Frag} {H : Hp} {a : Addr} {ks : List Str} (h : KTup K a ks) : SqT K H a (ks.map V.str) := .inr h
def PartK (K : PySem.W.Frag) (a : Addr) (name : Str) (ks : List Str) : Prop := ∃ p, PySem.W.nsIn K a name = some (some (.ref p)) ∧ KTup K p ks

/-! ### zip of a tuple and a list: the two steps of a zip over any two iterators, then these two -/
section
variable {prog : Program} {w : World}
/-- the iterator's next step gives x, and leads from S to S' -/
def Gv (prog : Program) (w : World) (it : Addr) (x : Value) (S S' : Heap → Prop) : Prop := ∀ (A : Around) (s : Shared) (E : Value → Shared → Prop) (Q : Value → Shared → Prop), S s.heap →
  (∀ h', S' h' → Heap.SameBut it s.heap h' → Q x { s with heap := h' }) → wpAny (model prog w) A (Builtin.SmallTypes.nextOf (.ref it)) Q E s
/-- it has come to its end -/
def En (prog : Program) (w : World) (it : Addr) (S : Heap → Prop) : Prop := ∀ (A : Around) (s : Shared) (E : Value → Shared → Prop) (Q : Value → Shared → Prop), A.handled = none → S s.heap →
  (∀ h' e, Heap.ExtBut it s.heap h' → (∃ o, h'.get? e = some o ∧ o.cls = .type "StopIteration") → E (.ref e) { s with heap := h' }) → wpAny (model prog w) A (Builtin.SmallTypes.nextOf (.ref it)) Q E s
/-- S speaks of two objects alone -/
def Two (it l : Addr) (S : Heap → Prop) : Prop := ∀ h h' : Heap, S h → (∀ o, h.get? it = some o → h'.get? it = some o) → (∀ o, h.get? l = some o → h'.get? l = some o) → S h'
theorem Two.ext {it l c : Addr} {S : Heap → Prop} {h h' : Heap} (t : Two it l S) (q : S h) (e : Heap.ExtBut c h h') (n1 : it ≠ c) (n2 : l ≠ c) : S h' := t h h' q (fun o g => e _ o n1 g) (fun o g => e _ o n2 g)
section
variable {A : Around} {E : Value → Shared → Prop} {s : Shared} {z TI TO i1 i2 l1 l2 : Addr} {x y a b : Value} {S1 S1' S2 S2' : Heap → Prop}
theorem zm_item {Q : Value → Shared → Prop} (D : ZipApart z TI TO i1 i2 l1 l2) (t1 : Two i1 l1 S1) (t1' : Two i1 l1 S1') (t2 : Two i2 l2 S2) (t2' : Two i2 l2 S2') (g1 : Gv prog w i1 x S1 S1') (g2 : Gv prog w i2 y S2 S2')
    (hz : IsZip s.heap z TI TO .none) (hTI : IsPair s.heap TI (.ref i1) (.ref i2)) (hTO : IsPair s.heap TO a b) (q1 : S1 s.heap) (q2 : S2 s.heap)
    (k : ∀ h', IsZip h' z TI TO (rawInt s.heap.objs.size) → IsPair h' TO x y → S1' h' → S2' h' → IsPair h' s.heap.objs.size x y → h'.objs.size = s.heap.objs.size + 1 →
      (∀ c o, c ≠ z → c ≠ TO → c ≠ i1 → c ≠ i2 → s.heap.get? c = some o → h'.get? c = some o) → Q (.ref s.heap.objs.size) { s with heap := h' }) :
    wpAny (model prog w) A (Builtin.«zip.__next__» ⟨[.ref z], []⟩) (fun fin s' => ∃ v, fin = .done (.ret v) ∧ Q v s') E s := by
  show wpAny _ _ (field (.ref z) 2 >>= _) _ _ _
  refine wpAny_bind (wpAny_field hz rfl (x := .bool false) rfl ?_)
  show wpAny _ _ (field (.ref z) 3 >>= _) _ _ _
  refine wpAny_bind (wpAny_field hz rfl (x := .ref TI) rfl (wpAny_bind (wpAny_seqItems hTI rfl ?_)))
  show wpAny _ _ (Builtin.SmallTypes.ownedTupleIsFree (.ref z) >>= _) _ _ _
  refine wpAny_bind ?_
  unfold Builtin.SmallTypes.ownedTupleIsFree
  refine wpAny_bind (wpAny_field hz rfl (x := .none) rfl (wpAny_pure ?_))
  simp only [if_true]
  refine wpAny_bind (wpAny_rule (wpAny_bind (wpAny_field hz rfl (x := .ref TO) rfl (wpAny_bind (wpAny_setField_rec hz (by simp) fun ha za ea => ?_)))))
  replace za : IsZip ha z TI TO .ellipsis := za
  refine wpAny_bind ?_
  simp only [List.zipIdx_cons, List.zipIdx_nil, List.forIn_cons, List.forIn_nil]
  -- the first
  refine wpAny_bind (wpAny_bind (wpAny_onRaise ?_))
  show wpAny _ _ (Builtin.SmallTypes.nextOf (.ref i1) >>= _) _ _ _
  refine wpAny_bind (g1 _ _ _ _ (t1.ext q1 ea.extBut D.i1z D.l1z) fun hb sb eb => wpAny_pure ?_)
  have pb : IsPair hb TO a b := eb.extBut _ _ D.TOi1 (ea.extBut _ _ D.TOz hTO)
  refine wpAny_bind (wpAny_seqItems pb rfl (wpAny_bind (wpAny_updateSeq_pair pb fun hc pc ec => ?_)))
  replace pc : IsPair hc TO x b := pc
  refine wpAny_bind (wpAny_letGo (wpAny_pure ?_))
  -- the second
  refine wpAny_bind (wpAny_bind (wpAny_onRaise ?_))
  show wpAny _ _ (Builtin.SmallTypes.nextOf (.ref i2) >>= _) _ _ _
  have q2c : S2 hc := t2.ext (t2.ext (t2.ext q2 ea.extBut D.i2z D.l2z) eb.extBut D.i12.symm D.l2i1) ec.extBut D.TOi2.symm D.l2TO
  refine wpAny_bind (g2 _ _ _ _ q2c fun hd sd ed => wpAny_pure ?_)
  have pd : IsPair hd TO x b := ed.extBut _ _ D.TOi2 pc
  refine wpAny_bind (wpAny_seqItems pd rfl (wpAny_bind (wpAny_updateSeq_pair pd fun he pe ee => ?_)))
  replace pe : IsPair he TO x y := pe
  refine wpAny_bind (wpAny_letGo (wpAny_pure (wpAny_pure ?_)))
  -- the pair
  refine wpAny_bind (wpAny_seqItems pe rfl (wpAny_bind (wpAny_newTuple ?_)))
  have same : he.objs.size = s.heap.objs.size := by rw [ee.1, ed.1, ec.1, eb.1, ea.1]
  have ze : IsZip he z TI TO .ellipsis := ee.extBut _ _ D.TOz.symm (ed.extBut _ _ D.i2z.symm (ec.extBut _ _ D.TOz.symm (eb.extBut _ _ D.i1z.symm za)))
  have q1e : S1' he := t1'.ext (t1'.ext (t1'.ext sb ec.extBut D.TOi1.symm D.l1TO) ed.extBut D.i12 D.l1i2) ee.extBut D.TOi1.symm D.l1TO
  have q2e : S2' he := t2'.ext sd ee.extBut D.TOi2.symm D.l2TO
  have ke : ∀ c o, c ≠ z → c ≠ TO → c ≠ i1 → c ≠ i2 → s.heap.get? c = some o → he.get? c = some o := fun c o c1 c2 c3 c4 e =>
    ee.extBut _ _ c2 (ed.extBut _ _ c4 (ec.extBut _ _ c2 (eb.extBut _ _ c3 (ea.extBut _ _ c1 e))))
  have zlt : z < he.objs.size := Heap.lt_size ze
  show wpAny _ _ (Builtin.SmallTypes.ownedTupleHandOut (.ref z) (.ref he.objs.size) >>= _) _ _ _
  refine wpAny_bind ?_
  unfold Builtin.SmallTypes.ownedTupleHandOut
  have zf : IsZip (he.push { cls := .type "tuple", data := .seq #[x, y] }) z TI TO .ellipsis := Heap.get?_push_of_some _ ze
  refine wpAny_bind (wpAny_setField_rec zf (by simp) fun hg zg eg => ?_)
  replace zg : IsZip hg z TI TO (rawInt he.objs.size) := zg
  refine wpAny_setField_rec zg (by simp) fun hh zh eh => ?_
  replace zh : IsZip hh z TI TO (rawInt he.objs.size) := zh
  have up : ∀ c o, c ≠ z → he.get? c = some o → hh.get? c = some o := fun c o c1 e => eh.extBut _ _ c1 (eg.extBut _ _ c1 (Heap.get?_push_of_some _ e))
  have pt : IsPair hh he.objs.size x y := eh.extBut _ _ (Nat.ne_of_gt zlt) (eg.extBut _ _ (Nat.ne_of_gt zlt) (Heap.get?_push_size _ rfl))
  have sz : hh.objs.size = he.objs.size + 1 := by rw [eh.1, eg.1, Heap.size_push]
  rw [same] at zh pt sz
  refine wpAny_pure ⟨_, rfl, ?_⟩
  show Q (.ref he.objs.size) _
  rw [same]
  exact k hh zh (up _ _ D.TOz pe) (t1' _ _ q1e (fun o e => up _ o D.i1z e) fun o e => up _ o D.l1z e) (t2' _ _ q2e (fun o e => up _ o D.i2z e) fun o e => up _ o D.l2z e) pt sz fun c o c1 c2 c3 c4 e => up c o c1 (ke c o c1 c2 c3 c4 e)
/-- where both end at once: the first says so -/
theorem zm_end {Q : Fin → Shared → Prop} (hh : A.handled = none) (D : ZipApart z TI TO i1 i2 l1 l2) (t1 : Two i1 l1 S1) (n1 : En prog w i1 S1)
    (hz : IsZip s.heap z TI TO .none) (hTI : IsPair s.heap TI (.ref i1) (.ref i2)) (hTO : IsPair s.heap TO a b) (q1 : S1 s.heap)
    (k : ∀ h' e, (∀ c o, c ≠ z → c ≠ TO → c ≠ i1 → c ≠ i2 → s.heap.get? c = some o → h'.get? c = some o) → (∃ o, h'.get? e = some o ∧ o.cls = .type "StopIteration") → E (.ref e) { s with heap := h' }) :
    wpAny (model prog w) A (Builtin.«zip.__next__» ⟨[.ref z], []⟩) Q E s := by
  show wpAny _ _ (field (.ref z) 2 >>= _) _ _ _
  refine wpAny_bind (wpAny_field hz rfl (x := .bool false) rfl ?_)
  show wpAny _ _ (field (.ref z) 3 >>= _) _ _ _
  refine wpAny_bind (wpAny_field hz rfl (x := .ref TI) rfl (wpAny_bind (wpAny_seqItems hTI rfl ?_)))
  show wpAny _ _ (Builtin.SmallTypes.ownedTupleIsFree (.ref z) >>= _) _ _ _
  refine wpAny_bind ?_
  unfold Builtin.SmallTypes.ownedTupleIsFree
  refine wpAny_bind (wpAny_field hz rfl (x := .none) rfl (wpAny_pure ?_))
  simp only [if_true]
  refine wpAny_bind (wpAny_rule (wpAny_bind (wpAny_field hz rfl (x := .ref TO) rfl (wpAny_bind (wpAny_setField_rec hz (by simp) fun ha za ea => ?_)))))
  replace za : IsZip ha z TI TO .ellipsis := za
  refine wpAny_bind ?_
  simp only [List.zipIdx_cons, List.zipIdx_nil, List.forIn_cons, List.forIn_nil]
  refine wpAny_bind (wpAny_bind (wpAny_onRaise ?_))
  show wpAny _ _ (Builtin.SmallTypes.nextOf (.ref i1) >>= _) _ _ _
  refine wpAny_bind (n1 _ _ _ _ hh (t1.ext q1 ea.extBut D.i1z D.l1z) fun hb e eb he => ?_)
  obtain ⟨oe, hoe, hce⟩ := he
  have zb : IsZip hb z TI TO .ellipsis := eb _ _ D.i1z.symm za
  have ez : e ≠ z := fun q => by
    subst q
    rw [zb] at hoe
    cases hoe
    simp at hce
  exact wpAny_setField_rec zb (by simp) fun hc _ ec => k hc e (fun c o c1 _ c3 _ g => ec.extBut _ _ c1 (eb _ _ c3 (ea.extBut _ _ c1 g))) ⟨oe, ec.extBut _ _ ez hoe, hce⟩
theorem zm_next {Q : Option Value → Shared → Prop} (D : ZipApart z TI TO i1 i2 l1 l2) (t1 : Two i1 l1 S1) (t1' : Two i1 l1 S1') (t2 : Two i2 l2 S2) (t2' : Two i2 l2 S2') (g1 : Gv prog w i1 x S1 S1') (g2 : Gv prog w i2 y S2 S2')
    (hz : IsZip s.heap z TI TO .none) (hTI : IsPair s.heap TI (.ref i1) (.ref i2)) (hTO : IsPair s.heap TO a b) (q1 : S1 s.heap) (q2 : S2 s.heap)
    (k : ∀ h', IsZip h' z TI TO (rawInt s.heap.objs.size) → IsPair h' TO x y → S1' h' → S2' h' → IsPair h' s.heap.objs.size x y → h'.objs.size = s.heap.objs.size + 1 →
      (∀ c o, c ≠ z → c ≠ TO → c ≠ i1 → c ≠ i2 → s.heap.get? c = some o → h'.get? c = some o) → Q (some (.ref s.heap.objs.size)) { s with heap := h' }) : wpAny (model prog w) A (pyNext (.ref z)) Q E s := by
  have hT : s.TypeIs (.ref z) "zip" := ⟨_, hz, rfl⟩
  unfold pyNext
  exact wpAny_bind (wpAny_attempt (wpAny_callSpecial?_slot (name := Str.ofString "__next__") hT F.slot_zip_next (wpAny_call_entry F.slot_zip_next hT F.entry_zip_next
    (zm_item D t1 t1' t2 t2' g1 g2 hz hTI hTO q1 q2 fun h' b1 b2 b3 b4 b5 b6 b7 => wpAny_pure (k h' b1 b2 b3 b4 b5 b6 b7)) (F.args_zip_next_1 _))))
theorem zm_stop {Q : Option Value → Shared → Prop} (hh : A.handled = none) (D : ZipApart z TI TO i1 i2 l1 l2) (t1 : Two i1 l1 S1) (n1 : En prog w i1 S1)
    (hz : IsZip s.heap z TI TO .none) (hTI : IsPair s.heap TI (.ref i1) (.ref i2)) (hTO : IsPair s.heap TO a b) (q1 : S1 s.heap)
    (k : ∀ h', (∀ c o, c ≠ z → c ≠ TO → c ≠ i1 → c ≠ i2 → s.heap.get? c = some o → h'.get? c = some o) → Q none { s with heap := h' }) : wpAny (model prog w) A (pyNext (.ref z)) Q E s := by
  have hT : s.TypeIs (.ref z) "zip" := ⟨_, hz, rfl⟩
  unfold pyNext
  refine wpAny_bind (wpAny_attempt (wpAny_callSpecial?_slot (name := Str.ofString "__next__") hT F.slot_zip_next (wpAny_call_entry F.slot_zip_next hT F.entry_zip_next
    (zm_end hh D t1 n1 hz hTI hTO q1 fun h' e hk he => ?_) (F.args_zip_next_1 _))))
  obtain ⟨o, ho, hc⟩ := he
  exact wpAny_bind (wpAny_isInstance (T := "StopIteration") (b := true) ⟨o, ho, hc⟩ isSubtype_stop (wpAny_pure (k _ hk)))
end
/-- a tuple's iterator, a list's -/
def ST (it l : Addr) (vs : Array Value) (i : Nat) : Heap → Prop := fun h => h.IsTupleIter it l i ∧ h.IsTuple l vs
def SL (it l : Addr) (vs : Array Value) (i : Nat) : Heap → Prop := fun h => h.IsListIter it l i ∧ h.IsList l vs
theorem two_ST {it l : Addr} {vs : Array Value} {i : Nat} : Two it l (ST it l vs i) := fun h h' q e1 e2 => ⟨q.1.at e1, let ⟨o, ho, r⟩ := q.2; ⟨o, e2 o ho, r⟩⟩
theorem two_SL {it l : Addr} {vs : Array Value} {i : Nat} : Two it l (SL it l vs i) := fun h h' q e1 e2 => ⟨q.1.at e1, let ⟨o, ho, r⟩ := q.2; ⟨o, e2 o ho, r⟩⟩
theorem gv_ST {it l : Addr} {vs : Array Value} {i : Nat} {x : Value} (hn : l ≠ it) (hx : vs[i]? = some x) : Gv prog w it x (ST it l vs i) (ST it l vs (i + 1)) := fun A s E Q q k =>
  RZ.nextOf_tuple_item q.1 q.2 hx fun h' g e => k h' ⟨g, q.2.extBut e.extBut hn⟩ e
theorem gv_SL {it l : Addr} {vs : Array Value} {i : Nat} {x : Value} (hn : l ≠ it) (hx : vs[i]? = some x) : Gv prog w it x (SL it l vs i) (SL it l vs (i + 1)) := fun A s E Q q k =>
  wpAny_nextOf_list_item q.1 q.2 hx fun h' g e => k h' ⟨g, q.2.extBut e.extBut hn⟩ e
theorem en_ST {it l : Addr} {vs : Array Value} {i : Nat} (hx : vs[i]? = none) : En prog w it (ST it l vs i) := fun A s E Q hh q k => RZ.nextOf_tuple_end hh q.1 q.2 hx k
end
abbrev zm1 (h : Heap) (l1 : Addr) : Heap := h.push { cls := .type "tuple_iterator", data := .fields #[.ref l1, .int 0 0] }
abbrev zm2 (h : Heap) (l1 l2 : Addr) : Heap := (zm1 h l1).push { cls := .type "list_iterator", data := .fields #[.ref l2, .int 0 0] }
abbrev zm3 (h : Heap) (l1 l2 : Addr) : Heap := (zm2 h l1 l2).push { cls := .type "tuple", data := .seq #[.ref h.objs.size, .ref (zm1 h l1).objs.size] }
abbrev zm4 (h : Heap) (l1 l2 : Addr) : Heap := (zm3 h l1 l2).push { cls := .type "tuple", data := .seq #[.none, .none] }
abbrev zm5 (h : Heap) (l1 l2 : Addr) : Heap := (zm4 h l1 l2).push { cls := .type "zip", data := .fields #[.none, .bool false, .bool false, .ref (zm2 h l1 l2).objs.size, .ref (zm3 h l1 l2).objs.size] }
theorem zm_made (l1 l2 : Addr) (xs ys : Array Value) :
    Meets (Builtin.«zip.__new__» ⟨[.type "zip", .ref l1, .ref l2], []⟩) (fun _ R s => s.heap.IsTuple l1 xs ∧ s.heap.IsList l2 ys ∧ R (.ok (.ret (.ref (zm4 s.heap l1 l2).objs.size))) { s with heap := zm5 s.heap l1 l2 }) :=
  .of_wp fun prog w A R s h => by
    obtain ⟨hp, g, d, tk, os⟩ := s
    obtain ⟨hl1, hl2, h⟩ := h
    have hsub := sub_zip
    have hL1 : Heap.IsTuple (Shared.heap ⟨hp, g, d, tk, os⟩) l1 xs := hl1
    have hL2 : Heap.IsList (Shared.heap ⟨hp.push { cls := .type "tuple_iterator", data := .fields #[.ref l1, .int 0 0] }, g, d, tk, os⟩) l2 ys := Heap.IsList.push hl2 _
    wp_walk using wpAny_pyIter_tuple hL1, wpAny_pyIter_list hL2
    exact ⟨_, rfl, h⟩
theorem zm_call {prog : Program} {w : World} {A : Around} {E : Value → Shared → Prop} {s : Shared} {l1 l2 : Addr} {xs ys : Array Value} {Q : Value → Shared → Prop} (hl1 : s.heap.IsTuple l1 xs) (hl2 : s.heap.IsList l2 ys)
    (h : ∀ h', IsZip h' (s.heap.objs.size + 4) (s.heap.objs.size + 2) (s.heap.objs.size + 3) .none → IsPair h' (s.heap.objs.size + 2) (.ref s.heap.objs.size) (.ref (s.heap.objs.size + 1)) →
      IsPair h' (s.heap.objs.size + 3) .none .none → h'.IsTupleIter s.heap.objs.size l1 0 → h'.IsListIter (s.heap.objs.size + 1) l2 0 →
      (∀ c o, s.heap.get? c = some o → h'.get? c = some o) → Q (.ref (s.heap.objs.size + 4)) { s with heap := h' }) :
    wpAny (model prog w) A (call (.type "zip") [.ref l1, .ref l2]) Q E s := by
  refine callType_new F.called_zip (by decide) (F.typeCall_zip_2 _ _) (F.newCall_zip_2 _ _) (fun obj => F.args_object_init_3 obj _ _) F.entry_zip_new (zm_made l1 l2 xs ys) ⟨hl1, hl2, ?_⟩
  have n1 : (zm1 s.heap l1).objs.size = s.heap.objs.size + 1 := Heap.size_push ..
  have n2 : (zm2 s.heap l1 l2).objs.size = s.heap.objs.size + 2 := by rw [Heap.size_push, n1]
  have n3 : (zm3 s.heap l1 l2).objs.size = s.heap.objs.size + 3 := by rw [Heap.size_push, n2]
  have n4 : (zm4 s.heap l1 l2).objs.size = s.heap.objs.size + 4 := by rw [Heap.size_push, n3]
  have up4 : ∀ c o, (zm4 s.heap l1 l2).get? c = some o → (zm5 s.heap l1 l2).get? c = some o := fun c o e => Heap.get?_push_of_some _ e
  have up3 : ∀ c o, (zm3 s.heap l1 l2).get? c = some o → (zm5 s.heap l1 l2).get? c = some o := fun c o e => up4 _ _ (Heap.get?_push_of_some _ e)
  have up2 : ∀ c o, (zm2 s.heap l1 l2).get? c = some o → (zm5 s.heap l1 l2).get? c = some o := fun c o e => up3 _ _ (Heap.get?_push_of_some _ e)
  have up1 : ∀ c o, (zm1 s.heap l1).get? c = some o → (zm5 s.heap l1 l2).get? c = some o := fun c o e => up2 _ _ (Heap.get?_push_of_some _ e)
  have g5 : (zm5 s.heap l1 l2).get? (zm4 s.heap l1 l2).objs.size = some _ := Heap.get?_push_size _ rfl
  have g4 : (zm5 s.heap l1 l2).get? (zm3 s.heap l1 l2).objs.size = some _ := up4 _ _ (Heap.get?_push_size _ rfl)
  have g3 : (zm5 s.heap l1 l2).get? (zm2 s.heap l1 l2).objs.size = some _ := up3 _ _ (Heap.get?_push_size _ rfl)
  have g2 : (zm5 s.heap l1 l2).get? (zm1 s.heap l1).objs.size = some _ := up2 _ _ (Heap.get?_push_size _ rfl)
  have g1 : (zm5 s.heap l1 l2).get? s.heap.objs.size = some _ := up1 _ _ (Heap.get?_push_size _ rfl)
  show _ ∧ _
  rw [n2, n3, n4] at g5
  rw [n1, n2] at g3
  rw [n3] at g4
  rw [n1] at g2
  rw [n4]
  exact ⟨⟨_, g5, rfl⟩, h _ g5 g3 g4 ⟨_, g1, rfl, rfl⟩ ⟨_, g2, rfl, rfl⟩ fun c o e => up1 _ _ (Heap.get?_push_of_some _ e)⟩
/-- the tuple at a and the list at b, the items in new pairs -/
def Itm (K : PySem.W.Frag) (a b : Addr) : It :=
  ⟨fun i H => ∃ (xs ys : List V) (x y : V), SqT K H a xs ∧ SqL K H b ys ∧ xs[i]? = some x ∧ ys[i]? = some y,
    fun i H v H' => ∃ T x y, v = .ref T ∧ H T = none ∧ H' = upd H T (.tup [x, y]) ∧ (∀ xs, SqT K H a xs → xs[i]? = some x) ∧ ∀ ys, SqL K H b ys → ys[i]? = some y,
    fun i H => ∃ xs : List V, SqT K H a xs ∧ xs.length ≤ i⟩
theorem five {c z TI TO i1 i2 : Addr} (h : c ∈ [z, TI, TO, i1, i2]) : c = z ∨ c = TI ∨ c = TO ∨ c = i1 ∨ c = i2 := by simpa using h
theorem turn_mix {P : Program} {w : World} {K : PySem.W.Frag} {elts : List Expr} {kk : Nat} {tpos : Pos} {a b z TI TO i1 i2 : Addr} (D : ZipApart z TI TO i1 i2 a b) :
    Turn P w K (.Tuple elts kk tpos) (Itm K a b) [z, TI, TO, i1, i2] z (fun i h => IsZip h z TI TO .none ∧ IsPair h TI (.ref i1) (.ref i2) ∧ (∃ x y, IsPair h TO x y) ∧ h.IsTupleIter i1 a i ∧ h.IsListIter i2 b i) where
  mem := by simp
  obj := fun i h st c hc => by
    obtain ⟨hz, hTI, ⟨x, y, hTO⟩, ⟨o1, e1, _, d1⟩, ⟨o2, e2, _, d2⟩⟩ := st
    rcases five hc with q | q | q | q | q <;> rw [q]
    · exact ⟨_, hz, fun v q => nomatch q⟩
    · exact ⟨_, hTI, fun v q => nomatch q⟩
    · exact ⟨_, hTO, fun v q => nomatch q⟩
    · exact ⟨o1, e1, fun v q => by rw [d1] at q; cases q⟩
    · exact ⟨o2, e2, fun v q => by rw [d2] at q; cases q⟩
  keep := fun i h h' st k => by
    obtain ⟨hz, hTI, ⟨x, y, hTO⟩, h1, h2⟩ := st
    exact ⟨k z (by simp) _ hz, k TI (by simp) _ hTI, ⟨x, y, k TO (by simp) _ hTO⟩, h1.at fun o q => k i1 (by simp) o q, h2.at fun o q => k i2 (by simp) o q⟩
  item := by
    intro X hP hw hK hc i pins s σ H E I hf st hg
    subst hP hw hK
    obtain ⟨hz, hTI, ⟨x0, y0, hTO⟩, h1, h2⟩ := st
    obtain ⟨xs, ys, x, y, hqx, hqy, hx, hy⟩ := hg
    obtain ⟨its, rv, p, _⟩ := I.tuple hqx
    obtain ⟨its2, rv2, p2, _⟩ := I.list hqy
    obtain ⟨u, hu, ru⟩ := rv.get hx
    obtain ⟨u2, hu2, ru2⟩ := rv2.get hy
    have pT : s.heap.IsTuple a its.toArray := p
    have hzl : z < s.heap.objs.size := Heap.lt_size hz
    refine zm_next D two_ST two_ST two_SL two_SL (gv_ST D.l1i1 (vs := its.toArray) (i := i) (x := u) (by simpa using hu)) (gv_SL D.l2i2 (vs := its2.toArray) (i := i) (x := u2) (by simpa using hu2)) hz hTI hTO ⟨h1, pT⟩ ⟨h2, p2.isList⟩ fun h' z' TO' h1' h2' hT hsz hk => ?_
    refine ⟨_, rfl, wpAny_letOwnedTupleGo_zip (s := { s with heap := h' }) z' fun h'' z'' sb => ?_⟩
    have out : ∀ c o, c ∉ [z, TI, TO, i1, i2] → s.heap.get? c = some o → h''.get? c = some o := fun c o hb q =>
      (sb.2 c fun e => hb (by simp [e])).trans (hk c o (fun e => hb (by simp [e])) (fun e => hb (by simp [e])) (fun e => hb (by simp [e])) (fun e => hb (by simp [e])) q)
    have hT2 : h''.get? s.heap.objs.size = some { cls := .type "tuple", data := .seq #[u, u2] } := (sb.2 _ (Nat.ne_of_gt hzl)).trans hT
    have new : ObjOk X.prog X.w (upd H s.heap.objs.size (.tup [x, y])) h'' s.heap.objs.size (.tup [x, y]) := ⟨by show 2 ≤ sizeLine; decide, [u, u2], .cons ru (.cons ru2 .nil), ⟨_, hT2, rfl, _, rfl⟩⟩
    have I1 : Inv X pins σ (upd H s.heap.objs.size (.tup [x, y])) { s with heap := h'' } := I.turnedNew (t' := s.toks) (ch := [z, TI, TO, i1, i2]) out hf (Nat.le_refl _) new
    refine ⟨.ref s.heap.objs.size, _, I1, rfl, ⟨_, x, y, rfl, I.hok.fresh (Nat.le_refl _), rfl, fun l hl => by rw [I.tuple_inj hl hqx]; exact hx, fun l hl => by rw [I.list_inj hl hqy]; exact hy⟩, ⟨z'', ?_, ⟨u, u2, ?_⟩, ?_, ?_⟩, fun c hcm => ?_⟩
    · exact (sb.2 _ D.TIz).trans (hk _ _ D.TIz D.TITO D.TIi1 D.TIi2 hTI)
    · exact (sb.2 _ D.TOz).trans TO'
    · exact h1'.1.at fun o q => (sb.2 _ D.i1z).trans q
    · exact h2'.1.at fun o q => (sb.2 _ D.i2z).trans q
    · have hlt : c < s.heap.objs.size := by
        rcases five hcm with q | q | q | q | q <;> rw [q]
        · exact hzl
        · exact Heap.lt_size hTI
        · exact Heap.lt_size hTO
        · obtain ⟨_, e1, _⟩ := h1; exact Heap.lt_size e1
        · obtain ⟨_, e2, _⟩ := h2; exact Heap.lt_size e2
      rw [upd_ne (Nat.ne_of_lt hlt)]
      exact (hf c hcm).1
  done := by
    intro X hP hw hK hc i pins s σ H E I hf st hg
    subst hP hw hK
    obtain ⟨hz, hTI, ⟨x0, y0, hTO⟩, h1, h2⟩ := st
    obtain ⟨xs, hqx, hend⟩ := hg
    obtain ⟨its, rv, p, _⟩ := I.tuple hqx
    have l1 := rv.length
    have pT : s.heap.IsTuple a its.toArray := p
    exact zm_stop (I.ok.hd hc) D two_ST (en_ST (vs := its.toArray) (i := i) (by simp; omega)) hz hTI hTO ⟨h1, pT⟩ fun h' hk => ⟨rfl, I.turnedL (t' := s.toks) (ch := [z, TI, TO, i1, i2]) (fun c o hb q =>
      hk c o (fun e => hb (by simp [e])) (fun e => hb (by simp [e])) (fun e => hb (by simp [e])) (fun e => hb (by simp [e])) q) hf⟩
  self := fun A i s Q E st h => wpAny_pyIter_zip st.1 h
def iZipM (K : PySem.W.Frag) (ta : TA) : TI := fun σ H R => ta σ H fun vs H1 => ∃ a b xs ys, vs = [.ref a, .ref b] ∧ SqT K H1 a xs ∧ SqL K H1 b ys ∧ R (Itm K a b) H1
theorem pi_zipM {X : Cx} {e e2 : Expr} {ta : TA} {p pos tpos : Pos} {elts : List Expr} {kk : Nat} (hg : Gl X "zip") (hm : X.mg "zip" = none) (ha : PA X [e, e2] ta)
    (hs : starEach [e, e2] X.env = (false, eval e X.env) :: starEach [e2] X.env := by rfl) (hpl : (backTo pos (starEach [e2] X.env)).any (·.1) = false := by rfl) :
    PI X (.Tuple elts kk tpos) (.Call (.Name "zip" p) [e, e2] [] pos) (iZipM X.K ta) := by
  refine ⟨fun pins s σ H R I h => ?_⟩
  refine Call_ (ld_blt I hg hm PyProof.Rows.boot_zip (PyProof.Rows.callWith_type1 (thn (ha.run pos pins s σ H _ I h) fun us s1 ⟨vs, H1, I1, r1, q1⟩ => ?_) hs hpl))
  obtain ⟨a, b, xs, ys, ex, hqx, hqy, q⟩ := q1
  subst ex
  cases r1 with
  | cons r rr =>
    cases rr with
    | cons r' rr =>
      cases rr
      cases r
      cases r'
      have fresh5 : ∀ c, c ∈ [s1.heap.objs.size + 4, s1.heap.objs.size + 2, s1.heap.objs.size + 3, s1.heap.objs.size, s1.heap.objs.size + 1] → FpOk X pins H1 c := fun c hcm => by
        have hle : s1.heap.objs.size ≤ c := by
          rcases five hcm with z | z | z | z | z <;> rw [z] <;> first | exact Nat.le_add_right _ _ | exact Nat.le_refl _
        exact I1.fpOk hle (I1.hok.fresh hle)
      obtain ⟨its, rv, p1, _⟩ := I1.tuple hqx
      obtain ⟨its2, rv2, p2, _⟩ := I1.list hqy
      obtain ⟨o1, ho1, _⟩ := id p1
      refine zm_call (show s1.heap.IsTuple a its.toArray from p1) p2.isList fun h' hz hTI hTO h1 h2 hk => wpAny_pyIter_zip hz ?_
      have I2 : Inv X pins σ H1 { s1 with heap := h' } := I1.kept (t' := s1.toks) hk
      exact ⟨s1.heap.objs.size + 4, [s1.heap.objs.size + 4, s1.heap.objs.size + 2, s1.heap.objs.size + 3, s1.heap.objs.size, s1.heap.objs.size + 1], _, _, H1, rfl, I2, turn_mix (PySem.W.ktu_apart s1.heap.objs.size a b (Heap.lt_size ho1) p2.lt), ⟨hz, hTI, ⟨_, _, hTO⟩, h1, h2⟩, fresh5, q⟩
theorem walk_mix {K : PySem.W.Frag} {a b : Addr} {xs ys : List V} (hl : xs.length = ys.length) : Walk (Itm K a b) xs.length (fun H => SqT K H a xs ∧ SqL K H b ys) (YPair (fun i => xs[i]?) (fun i => ys[i]?)) := by
  refine ⟨fun i _ hi q => ?_, fun _ q => ⟨xs, q.1, Nat.le_refl _⟩, fun i H v H' _ q y => ?_⟩
  · have h2 : i < ys.length := by omega
    exact ⟨xs, ys, xs[i], ys[i], q.1, q.2, by simp [hi], by simp [h2]⟩
  · obtain ⟨T, x, z, h1, h2, h3, h4, h5⟩ := y
    exact ⟨T, x, z, h1, h2, h3, h4 xs q.1, h5 ys q.2⟩

def top (i : Nat) : Stmt := PySem.Challenge.pw_mastword_k44_deeds_written.main.body.getD i (.Pass ⟨0, 0, 0, 0⟩)
abbrev s_p_is_word : Stmt := top 6
theorem sc_p_is_word : FnScope ["text", "letter"] ["text"] (defScope s_p_is_word) := ⟨rfl, rfl, rfl, by decide +kernel, rfl, by decide +kernel, by decide +kernel⟩
abbrev s_p_is_number : Stmt := top 14
theorem sc_p_is_number : FnScope ["text", "plain", "figure"] ["text"] (defScope s_p_is_number) := ⟨rfl, rfl, rfl, by decide +kernel, rfl, by decide +kernel, by decide +kernel⟩
abbrev s_p_read_part : Stmt := top 15
theorem sc_p_read_part : FnScope ["kind", "text"] ["kind", "text"] (defScope s_p_read_part) := ⟨rfl, rfl, rfl, by decide +kernel, rfl, by decide +kernel, by decide +kernel⟩
abbrev s_p_read_parts : Stmt := top 16
theorem sc_p_read_parts : FnScope ["kinds", "texts", "kind", "text"] ["kinds", "texts"] (defScope s_p_read_parts) := ⟨rfl, rfl, rfl, by decide +kernel, rfl, by decide +kernel, by decide +kernel⟩
abbrev s_p_read_deed : Stmt := top 17
theorem sc_p_read_deed : FnScope ["text", "name", "texts", "kinds", "parts"] ["text"] (defScope s_p_read_deed) := ⟨rfl, rfl, rfl, by decide +kernel, rfl, by decide +kernel, by decide +kernel⟩
abbrev s_p_deed_text : Stmt := top 18
theorem sc_p_deed_text : FnScope ["deed", "part"] ["deed"] (defScope s_p_deed_text) := ⟨rfl, rfl, rfl, by decide +kernel, rfl, by decide +kernel, by decide +kernel⟩
abbrev s_l_cell : Stmt := top 20
theorem sc_l_cell : FnScope ["_law_script", "_law_at"] ["_law_script", "_law_at"] (defScope s_l_cell) := ⟨rfl, rfl, rfl, by decide +kernel, rfl, by decide +kernel, by decide +kernel⟩
abbrev s_l_row : Stmt := top 21
theorem sc_l_row : FnScope ["_law_cell_here", "_law_many", "_law_size", "_law_row_here", "_law_rest", "_law_k", "_law_seed", "_law_mixed"] ["_law_cell_here", "_law_many", "_law_size"] (defScope s_l_row) := ⟨rfl, rfl, rfl, by decide +kernel, rfl, by decide +kernel, by decide +kernel⟩
abbrev s_l_like : Stmt := top 22
theorem sc_l_like : FnScope ["_law_found", "_law_due", "_law_k"] ["_law_found", "_law_due"] (defScope s_l_like) := ⟨rfl, rfl, rfl, by decide +kernel, rfl, by decide +kernel, by decide +kernel⟩
abbrev s_l_word : Stmt := top 23
theorem sc_l_word : FnScope ["_law_cell_here", "_law_nums", "_law_some", "_law_num", "_law_size"] ["_law_cell_here"] (defScope s_l_word) := ⟨rfl, rfl, rfl, by decide +kernel, rfl, by decide +kernel, by decide +kernel⟩
abbrev s_l_any_deed : Stmt := top 24
theorem sc_l_any_deed : FnScope ["_law_cell_here", "_law_nums", "_law_kinds", "_law_kind", "_law_some", "_law_num", "_law_way"] ["_law_cell_here"] (defScope s_l_any_deed) := ⟨rfl, rfl, rfl, by decide +kernel, rfl, by decide +kernel, by decide +kernel⟩
abbrev s_law : Stmt := top 25
theorem sc_law : FnScope ["_law_script", "_law_some", "_law_deed", "_law_text", "_law_part"] ["_law_script"] (defScope s_law) := ⟨rfl, rfl, rfl, by decide +kernel, rfl, by decide +kernel, by decide +kernel⟩
structure Txt (K : PySem.W.Frag) (mg : Str → Option Value) where
  a_MastError : Addr
  a_BadLine : Addr
  g_MastError : mg "MastError" = some (.ref a_MastError)
  x_MastError : PySem.W.excIn K a_MastError [.type "ValueError", .type "Exception", .type "BaseException", .type "object"] "ValueError.__new__" = true
  k_MastError : PySem.W.keepIn K (.ref a_MastError) = true
  b_MastError : PySem.W.subIn K (.ref a_MastError) (.type "BaseException") = some true
  t_MastError : PySem.W.typeIn K (.ref a_MastError) = some (.type "type")
  i_MastError : PySem.W.isClsIn K a_MastError = true
  h_MastError : PySem.W.hasDictIn K a_MastError = true
  ga_MastError : PySem.W.findIn K (.ref a_MastError) "__getattribute__" = some (some (.builtin "BaseException.__getattribute__"))
  gg_MastError : PySem.W.findIn K (.ref a_MastError) "__getattr__" = some none
  cl_MastError : PySem.W.findIn K (.ref a_MastError) "__class__" = some (some (.builtin "object.__class__"))
  mo_MastError : PySem.W.mroIn K a_MastError (.type "object") = some true
  v_MastError : PySem.W.subIn K (.ref a_MastError) (.type "ValueError") = some true
  s_MastError_MastError : PySem.W.subIn K (.ref a_MastError) (.ref a_MastError) = some true
  g_BadLine : mg "BadLine" = some (.ref a_BadLine)
  x_BadLine : PySem.W.excIn K a_BadLine [.type "ValueError", .type "Exception", .type "BaseException", .type "object"] "ValueError.__new__" = true
  k_BadLine : PySem.W.keepIn K (.ref a_BadLine) = true
  b_BadLine : PySem.W.subIn K (.ref a_BadLine) (.type "BaseException") = some true
  t_BadLine : PySem.W.typeIn K (.ref a_BadLine) = some (.type "type")
  i_BadLine : PySem.W.isClsIn K a_BadLine = true
  h_BadLine : PySem.W.hasDictIn K a_BadLine = true
  ga_BadLine : PySem.W.findIn K (.ref a_BadLine) "__getattribute__" = some (some (.builtin "BaseException.__getattribute__"))
  gg_BadLine : PySem.W.findIn K (.ref a_BadLine) "__getattr__" = some none
  cl_BadLine : PySem.W.findIn K (.ref a_BadLine) "__class__" = some (some (.builtin "object.__class__"))
  mo_BadLine : PySem.W.mroIn K a_BadLine (.type "object") = some true
  v_BadLine : PySem.W.subIn K (.ref a_BadLine) (.type "ValueError") = some true
  s_BadLine_MastError : PySem.W.subIn K (.ref a_BadLine) (.ref a_MastError) = some true
  f_p_is_word : Addr
  d_p_is_word : FuncData
  c_tab : Addr
  P_tab : Addr
  W_p_is_word : FunC K "is_word" "is_word" s_p_is_word f_p_is_word d_p_is_word c_tab
  F_p_is_word : Fun K "is_word" "is_word" s_p_is_word f_p_is_word d_p_is_word
  b_p_is_word : Binds K d_p_is_word ["text"] []
  g_p_is_word : mg "is_word" = some (.ref f_p_is_word)
  f_p_is_number : Addr
  d_p_is_number : FuncData
  c_tabN : Addr
  P_tabN : Addr
  W_p_is_number : FunC K "is_number" "is_number" s_p_is_number f_p_is_number d_p_is_number c_tabN
  F_p_is_number : Fun K "is_number" "is_number" s_p_is_number f_p_is_number d_p_is_number
  b_p_is_number : Binds K d_p_is_number ["text"] []
  g_p_is_number : mg "is_number" = some (.ref f_p_is_number)
  f_p_read_part : Addr
  d_p_read_part : FuncData
  F_p_read_part : Fun K "read_part" "read_part" s_p_read_part f_p_read_part d_p_read_part
  b_p_read_part : Binds K d_p_read_part ["kind", "text"] []
  g_p_read_part : mg "read_part" = some (.ref f_p_read_part)
  f_p_read_parts : Addr
  d_p_read_parts : FuncData
  F_p_read_parts : Fun K "read_parts" "read_parts" s_p_read_parts f_p_read_parts d_p_read_parts
  b_p_read_parts : Binds K d_p_read_parts ["kinds", "texts"] []
  g_p_read_parts : mg "read_parts" = some (.ref f_p_read_parts)
  f_p_read_deed : Addr
  d_p_read_deed : FuncData
  F_p_read_deed : Fun K "read_deed" "read_deed" s_p_read_deed f_p_read_deed d_p_read_deed
  b_p_read_deed : Binds K d_p_read_deed ["text"] []
  g_p_read_deed : mg "read_deed" = some (.ref f_p_read_deed)
  f_p_deed_text : Addr
  d_p_deed_text : FuncData
  F_p_deed_text : Fun K "deed_text" "deed_text" s_p_deed_text f_p_deed_text d_p_deed_text
  b_p_deed_text : Binds K d_p_deed_text ["deed"] []
  g_p_deed_text : mg "deed_text" = some (.ref f_p_deed_text)
  f_l_cell : Addr
  d_l_cell : FuncData
  F_l_cell : Fun K "_law_cell" "_law_cell" s_l_cell f_l_cell d_l_cell
  b_l_cell : Binds K d_l_cell ["_law_script", "_law_at"] []
  g_l_cell : mg "_law_cell" = some (.ref f_l_cell)
  f_l_row : Addr
  d_l_row : FuncData
  F_l_row : Fun K "_law_row" "_law_row" s_l_row f_l_row d_l_row
  b_l_row : Binds K d_l_row ["_law_cell_here", "_law_many", "_law_size"] []
  g_l_row : mg "_law_row" = some (.ref f_l_row)
  f_l_like : Addr
  d_l_like : FuncData
  F_l_like : Fun K "_law_like" "_law_like" s_l_like f_l_like d_l_like
  b_l_like : Binds K d_l_like ["_law_found", "_law_due"] []
  g_l_like : mg "_law_like" = some (.ref f_l_like)
  f_l_word : Addr
  d_l_word : FuncData
  F_l_word : Fun K "_law_word" "_law_word" s_l_word f_l_word d_l_word
  b_l_word : Binds K d_l_word ["_law_cell_here"] []
  g_l_word : mg "_law_word" = some (.ref f_l_word)
  f_l_any_deed : Addr
  d_l_any_deed : FuncData
  F_l_any_deed : Fun K "_law_any_deed" "_law_any_deed" s_l_any_deed f_l_any_deed d_l_any_deed
  b_l_any_deed : Binds K d_l_any_deed ["_law_cell_here"] []
  g_l_any_deed : mg "_law_any_deed" = some (.ref f_l_any_deed)
  u_LETTERS : Value
  c_LETTERS : mg "LETTERS" = some u_LETTERS
  r_LETTERS : RelV (.str "abcdefghijklmnopqrstuvwxyz") u_LETTERS
  u_LONGEST_WORD : Value
  c_LONGEST_WORD : mg "LONGEST_WORD" = some u_LONGEST_WORD
  r_LONGEST_WORD : RelV (.int 12) u_LONGEST_WORD
  u_UP : Value
  c_UP : mg "UP" = some u_UP
  r_UP : RelV (.str "up") u_UP
  u_DOWN : Value
  c_DOWN : mg "DOWN" = some u_DOWN
  r_DOWN : RelV (.str "down") u_DOWN
  u_FIGURES : Value
  c_FIGURES : mg "FIGURES" = some u_FIGURES
  r_FIGURES : RelV (.str "0123456789") u_FIGURES
  u_MOST_FIGURES : Value
  c_MOST_FIGURES : mg "MOST_FIGURES" = some u_MOST_FIGURES
  r_MOST_FIGURES : RelV (.int 6) u_MOST_FIGURES
  a_PARTS : Addr
  c_PARTS : mg "PARTS" = some (.ref a_PARTS)
  es_PARTS : Array DictEntry
  n_PARTS : Nat
  at_PARTS : K.lookup a_PARTS = some ⟨.type "dict", none, .dict es_PARTS n_PARTS, #[]⟩
  pk_PARTS_send : PartK K a_PARTS "send" ["way", "number"]
  pk_PARTS_express : PartK K a_PARTS "express" ["way", "number"]
  pk_PARTS_say : PartK K a_PARTS "say" ["way", "word"]
  pk_PARTS_recall : PartK K a_PARTS "recall" ["way"]
  pk_PARTS_act : PartK K a_PARTS "act" ["number"]
  pk_PARTS_slip : PartK K a_PARTS "slip" ["number", "number", "number"]
  pk_PARTS_doze : PartK K a_PARTS "doze" ["number"]
  pk_PARTS_wake : PartK K a_PARTS "wake" ["number"]
  pk_PARTS_fog : PartK K a_PARTS "fog" ["number"]
  pk_PARTS_lift : PartK K a_PARTS "lift" ["number"]
  pk_PARTS_beat : PartK K a_PARTS "beat" []
  pk_PARTS_settle : PartK K a_PARTS "settle" []
  pk_PARTS_turn : PartK K a_PARTS "turn" []
  pk_PARTS_lose : PartK K a_PARTS "lose" ["way", "number", "number"]
  pk_PARTS_burn : PartK K a_PARTS "burn" ["number"]
  pk_PARTS_ask : PartK K a_PARTS "ask" ["way", "number", "number"]
  pk_PARTS_enter : PartK K a_PARTS "enter" ["number", "number", "word"]
  pk_PARTS_strike : PartK K a_PARTS "strike" ["number", "number"]
  a_WITH_LISTS : Addr
  c_WITH_LISTS : mg "WITH_LISTS" = some (.ref a_WITH_LISTS)
  t_WITH_LISTS : KTup K a_WITH_LISTS ["send", "express", "say"]
  m_all : mg "all" = none
  m_len : mg "len" = none
  m_int : mg "int" = none
  m_zip : mg "zip" = none
  m_str : mg "str" = none
  m_range : mg "range" = none
  m_isinstance : mg "isinstance" = none
  m_bool : mg "bool" = none
  m_list : mg "list" = none
  m_tuple : mg "tuple" = none
section
variable {P : Program} {w : World} {K : PySem.W.Frag} {mg : Str → Option Value} {base : Heap}
/-! ### _law_cell: an int of the script -/
def cellV (ns : List Int) (j : Nat) : Int :=
  if j < ns.length then ns.getD j 0 else if ns.length = 0 then 29 * (j : Int) + 5 else ns.getD (j % ns.length) 0 % 1000003 + 103 * (j : Int)
def sp_l_cell (K : PySem.W.Frag) : Sp := fun vs H Q _ => ∃ (l : Addr) (ns : List Int) (j : Nat), vs = [.ref l, .int j] ∧ SqL K H l (ns.map V.int) ∧ j ≤ 100000 ∧ Q (.int (cellV ns j)) H
theorem getD_at {ns : List Int} {j : Nat} (h : j < ns.length) : atI (ns.map V.int) (j : Int) = some (.int (ns.getD j 0)) := by
  rw [at_int h, List.getD_eq_getElem?_getD, List.getElem?_eq_getElem h]
  rfl
theorem ok_l_cell (T : Txt K mg) : FnOk P w K mg base CX0 1 T.f_l_cell T.d_l_cell ["_law_script", "_law_at"] (sp_l_cell K) := by
  refine T.F_l_cell.ok sc_l_cell (fun vs H Q E h => ?_) (fun cdv A outer s H vs Q E hr h => ?_)
  · obtain ⟨l, ns, j, rfl, _⟩ := h
    rfl
  · obtain ⟨l, ns, j, rfl, hS, hj, k⟩ := h
    have hlen : ((ns.map V.int).length : Int) = (ns.length : Int) := by rw [List.length_map]
    refine ⟨_, (pss_cons (ps_if (pt_cmpR op_lt (pv 1) (pe_callB call_len_seq (by rfl) T.m_len PySem.boot_len (pa_cons (pv 0) pa_nil)) (nomark _))
      (pss_one (ps_ret (pe_ix ix_list (pv 0) (pv 1) (fun _ _ => rfl))))
      pss_nil)
      (pss_cons (ps_if (pt_cmpR op_eq (pe_callB call_len_seq (by rfl) T.m_len PySem.boot_len (pa_cons (pv 0) pa_nil)) pe_int (nomark _))
      (pss_one (ps_ret (pe_op op_add (pe_op op_mul pe_int (pv 1)) pe_int)))
      pss_nil)
      (pss_one (ps_ret (pe_op op_add (pe_op op_mod (pe_ix ix_list (pv 0) (pe_op op_mod (pv 1) (pe_callB call_len_seq (by rfl) T.m_len PySem.boot_len (pa_cons (pv 0) pa_nil))) (fun _ _ => rfl)) pe_int) (pe_op op_mul pe_int (pv 1))))))), ?_⟩
    refine ⟨_, rfl, _, rfl, l, _, rfl, .inl hS, _, _, rfl, rfl, _, rfl, iteD (fun c => ?_) (fun c => ?_)⟩
    · rw [hlen] at c
      refine ⟨_, rfl, _, rfl, l, _, _, _, rfl, rfl, hS, getD_at (show j < ns.length by omega), ?_⟩
      have e : cellV ns j = ns.getD j 0 := if_pos (by omega)
      rw [e] at k
      exact k
    · rw [hlen] at c
      refine ⟨_, rfl, l, _, rfl, .inl hS, rfl, _, rfl, iteD (fun c2 => ?_) (fun c2 => ?_)⟩
      · have c3 : (ns.length : Int) = 0 := by
          have z := V.int.inj c2
          rw [hlen] at z
          exact z
        have e : cellV ns j = 29 * (j : Int) + 5 := by
          unfold cellV
          rw [if_neg (by omega), if_pos (by omega)]
        rw [e] at k
        exact ⟨_, rfl, _, _, rfl, rfl, .inl ⟨by decide, by decide⟩, _, _, rfl, rfl, k⟩
      · have c3 : ns.length ≠ 0 := fun z => c2 (by rw [hlen, z]; rfl)
        have hm : j % ns.length < ns.length := Nat.mod_lt _ (by omega)
        have e : cellV ns j = ns.getD (j % ns.length) 0 % 1000003 + 103 * (j : Int) := by
          unfold cellV
          rw [if_neg (by omega), if_neg c3]
        rw [e] at k
        have ea : atI (ns.map V.int) ((j : Int) % ((ns.map V.int).length : Int)) = some (.int (ns.getD (j % ns.length) 0)) := by
          rw [hlen, ← Int.natCast_emod]
          exact getD_at hm
        exact ⟨_, rfl, _, rfl, _, rfl, l, _, rfl, .inl hS, _, _, rfl, rfl, (by show (0 : Int) < ((ns.map V.int).length : Int); rw [hlen]; omega), l, _, _, _, rfl, rfl, hS, ea, _, _, rfl, rfl, (by show (0 : Int) < 1000003; decide), _, rfl, _, _, rfl, rfl, .inl ⟨by decide, by decide⟩, _, _, rfl, rfl, k⟩
/-! ### _law_like of one datum with itself -/
inductive Dn : Nat → PyData → Prop
  | non (n : Nat) : Dn (n + 1) .none
  | bl (n : Nat) (b : Bool) : Dn (n + 1) (.bool b)
  | int (n : Nat) (i : Int) : Dn (n + 1) (.int i)
  | str (n : Nat) (x : Str) : Dn (n + 1) (.str x)
  | lst {n : Nat} {ds : List PyData} : (∀ d ∈ ds, Dn n d) → ds.length ≤ 10000 → Dn (n + 1) (.list ds)
  | tup {n : Nat} {ds : List PyData} : (∀ d ∈ ds, Dn n d) → ds.length ≤ 10000 → Dn (n + 1) (.tuple ds)
def tyN : PyData → String
  | .none => "NoneType" | .bool _ => "bool" | .int _ => "int" | .str _ => "str" | .list _ => "list" | .tuple _ => "tuple" | .dict _ => "dict"
theorem ty_of {K : PySem.W.Frag} {H : Hp} {v : V} {d : PyData} (h : Dp K H v d) : TyX K H v (.type (tyN d)) := by
  cases h with
  | non => exact .base .non
  | bl b => exact .base (.bl b)
  | int i => exact .base (.int i)
  | str x => exact .base (.str x)
  | lst h _ =>
    rcases h with (h | ⟨o, h⟩) | ⟨o, its, n, e, c, _⟩
    · exact .base (.lst h)
    · exact .base (.frz h)
    · exact .kList e c
  | tup h _ =>
    rcases h with (h | ⟨o, h⟩) | ⟨o, its, n, e, c, _⟩
    · exact .base (.tup h)
    · exact .fTuple h
    · exact .kTuple e c
def sp_l_like (K : PySem.W.Frag) (n : Nat) : Sp := fun vs H Q _ => ∃ (u v : V) (d : PyData), vs = [u, v] ∧ Dp K H u d ∧ Dp K H v d ∧ Dn n d ∧ ∀ H', Kp H H' → Q (.bl true) H'
theorem fn_none {P : Program} {w : World} {K : PySem.W.Frag} {mg : Str → Option Value} {base : Heap} {f : Addr} {fd : FuncData} {ps : List Str} {sp : Sp} {k : Nat} (h : ∀ vs H Q E, ¬ sp vs H Q E) : FnOk P w K mg base CX0 k f fd ps sp :=
  ⟨fun vs H Q E q => (h vs H Q E q).elim, fun _ _ _ H _ _ vs Q E _ _ _ _ q => (h vs H Q E q).elim⟩
theorem bl_all {n : Nat} : ((List.replicate n true).map V.bl) = List.replicate n (V.bl true) := List.map_replicate
theorem all_rep (n : Nat) : (List.replicate n true).all id = true := by
  rw [List.all_eq_true]
  intro x hx
  rw [List.eq_of_mem_replicate hx]
  rfl
theorem k_bb : kitB "bool" "bool" = some true := by decide +kernel
theorem k_bi : kitB "bool" "int" = some true := by decide +kernel
theorem k_bs : kitB "bool" "str" = some false := by decide +kernel
theorem k_bl : kitB "bool" "list" = some false := by decide +kernel
theorem k_bt : kitB "bool" "tuple" = some false := by decide +kernel
theorem k_ib : kitB "int" "bool" = some false := by decide +kernel
theorem k_ii : kitB "int" "int" = some true := by decide +kernel
theorem k_is : kitB "int" "str" = some false := by decide +kernel
theorem k_il : kitB "int" "list" = some false := by decide +kernel
theorem k_it : kitB "int" "tuple" = some false := by decide +kernel
theorem k_sb : kitB "str" "bool" = some false := by decide +kernel
theorem k_si : kitB "str" "int" = some false := by decide +kernel
theorem k_ss : kitB "str" "str" = some true := by decide +kernel
theorem k_sl : kitB "str" "list" = some false := by decide +kernel
theorem k_st : kitB "str" "tuple" = some false := by decide +kernel
theorem k_lb : kitB "list" "bool" = some false := by decide +kernel
theorem k_li : kitB "list" "int" = some false := by decide +kernel
theorem k_ls : kitB "list" "str" = some false := by decide +kernel
theorem k_ll : kitB "list" "list" = some true := by decide +kernel
theorem k_lt : kitB "list" "tuple" = some false := by decide +kernel
theorem k_tb : kitB "tuple" "bool" = some false := by decide +kernel
theorem k_ti : kitB "tuple" "int" = some false := by decide +kernel
theorem k_ts : kitB "tuple" "str" = some false := by decide +kernel
theorem k_tl : kitB "tuple" "list" = some false := by decide +kernel
theorem k_tt : kitB "tuple" "tuple" = some true := by decide +kernel
theorem dec_self {x : V} : decide (x = x) = true := decide_eq_true rfl
theorem ok_l_like (T : Txt K mg) : ∀ n : Nat, FnOk P w K mg base CX0 n T.f_l_like T.d_l_like ["_law_found", "_law_due"] (sp_l_like K n)
  | 0 => fn_none fun vs H Q E ⟨u, v, d, _, _, _, h, _⟩ => nomatch h
  | n + 1 => by
    have IH := ok_l_like T n
    refine T.F_l_like.ok sc_l_like (fun vs H Q E h => ?_) (fun cdv A outer s H vs Q E hr h => ?_)
    · obtain ⟨u, v, d, rfl, _⟩ := h
      rfl
    · obtain ⟨u, v, d, rfl, hu, hv, hn, k⟩ := h
      have tu := ty_of hu
      have tv := ty_of hv
      refine ⟨_, (pss_cons (ps_if (pt_cmpR op_isN (pv 1) pe_non (nomark _))
      (pss_one (ps_ret (pe_cmpR op_isN (pv 0) pe_non (nomark _))))
      pss_nil)
      (pss_cons (ps_if (pt_val (pe_callB call_isi (by rfl) T.m_isinstance (by decide +kernel) (pa_cons (pv 1) (pa_cons (pe_bltn (v := .ty "bool") (by rfl) T.m_bool (by decide +kernel) rfl) pa_nil))))
      (pss_one (ps_ret (pe_and (pe_callB call_isi (by rfl) T.m_isinstance (by decide +kernel) (pa_cons (pv 0) (pa_cons (pe_bltn (v := .ty "bool") (by rfl) T.m_bool (by decide +kernel) rfl) pa_nil))) (pe_one (pe_cmpR op_eq (pv 0) (pv 1) (nomark _))))))
      pss_nil)
      (pss_cons (ps_if (pt_val (pe_callB call_isi (by rfl) T.m_isinstance (by decide +kernel) (pa_cons (pv 1) (pa_cons (pe_bltn (v := .ty "int") (by rfl) T.m_int (by decide +kernel) rfl) pa_nil))))
      (pss_one (ps_ret (pe_and (pe_callB call_isi (by rfl) T.m_isinstance (by decide +kernel) (pa_cons (pv 0) (pa_cons (pe_bltn (v := .ty "int") (by rfl) T.m_int (by decide +kernel) rfl) pa_nil))) (pe_and (pe_not (pe_callB call_isi (by rfl) T.m_isinstance (by decide +kernel) (pa_cons (pv 0) (pa_cons (pe_bltn (v := .ty "bool") (by rfl) T.m_bool (by decide +kernel) rfl) pa_nil)))) (pe_one (pe_cmpR op_eq (pv 0) (pv 1) (nomark _)))))))
      pss_nil)
      (pss_cons (ps_if (pt_val (pe_callB call_isi (by rfl) T.m_isinstance (by decide +kernel) (pa_cons (pv 1) (pa_cons (pe_bltn (v := .ty "str") (by rfl) T.m_str (by decide +kernel) rfl) pa_nil))))
      (pss_one (ps_ret (pe_and (pe_callB call_isi (by rfl) T.m_isinstance (by decide +kernel) (pa_cons (pv 0) (pa_cons (pe_bltn (v := .ty "str") (by rfl) T.m_str (by decide +kernel) rfl) pa_nil))) (pe_one (pe_cmpR op_eq (pv 0) (pv 1) (nomark _))))))
      pss_nil)
      (pss_cons (ps_if (PW.pt (pw_or (pt_cmpR op_ne (pe_callB call_isi (by rfl) T.m_isinstance (by decide +kernel) (pa_cons (pv 1) (pa_cons (pe_bltn (v := .ty "list") (by rfl) T.m_list (by decide +kernel) rfl) pa_nil))) (pe_callB call_isi (by rfl) T.m_isinstance (by decide +kernel) (pa_cons (pv 0) (pa_cons (pe_bltn (v := .ty "list") (by rfl) T.m_list (by decide +kernel) rfl) pa_nil))) (nomark _)) (pw_or1 (pt_cmpR op_ne (pe_callB call_isi (by rfl) T.m_isinstance (by decide +kernel) (pa_cons (pv 1) (pa_cons (pe_bltn (v := .ty "tuple") (by rfl) T.m_tuple (by decide +kernel) rfl) pa_nil))) (pe_callB call_isi (by rfl) T.m_isinstance (by decide +kernel) (pa_cons (pv 0) (pa_cons (pe_bltn (v := .ty "tuple") (by rfl) T.m_tuple (by decide +kernel) rfl) pa_nil))) (nomark _)))))
      (pss_one (ps_ret pe_bl))
      pss_nil)
      (pss_one (ps_ret (pe_and (pe_cmpR op_eq (pe_callB call_len (by rfl) T.m_len PySem.boot_len (pa_cons (pv 0) pa_nil)) (pe_callB call_len (by rfl) T.m_len PySem.boot_len (pa_cons (pv 1) pa_nil)) (nomark _)) (pe_one (pe_callB (cr_all rfl) (by rfl) T.m_all (by decide +kernel) (pa_cons (pe_lc (own := [("_law_k", 2)]) (g := gName 2) (tt := tYes) (by rfl) sc_l_like.nd (pi_range1 (by rfl) T.m_range (pa_cons (pe_callB call_len (by rfl) T.m_len PySem.boot_len (pa_cons (pv 1) pa_nil)) pa_nil)) (blkOk_by (own := [("_law_k", 2)]) (N := ["_law_found", "_law_due", "_law_k"]) (sc := defScope s_l_like) (by decide +kernel)) (fun _ _ _ _ _ => (pg_name (i := 2) sc_l_like.nd rfl (by first | exact Or.inl rfl | exact Or.inr rfl))) (fun _ _ _ _ _ => pts_nil) (fun _ _ _ _ _ => (pe_call IH hr rfl T.g_l_like T.F_l_like.kp T.b_l_like .nil pass0 (pa_cons (pe_ix (ix_seqK K rfl) (pv 0) (pv 2) (fun _ _ => rfl)) (pa_cons (pe_ix (ix_seqK K rfl) (pv 1) (pv 2) (fun _ _ => rfl)) pa_nil))))) pa_nil))))))))))), ?_⟩
      cases hn with
      | non n =>
        cases hu
        cases hv
        refine ⟨_, rfl, rfl, _, rfl, iteTo dec_self ?_⟩
        exact ⟨_, rfl, rfl, k _ (.refl _)⟩
      | bl n b =>
        cases hu
        cases hv
        refine ⟨_, rfl, rfl, _, rfl, iteFo rfl ?_⟩
        refine ⟨_, rfl, _, _, _, _, true, rfl, .ty _, tv, kit_ty k_bb, _, rfl, iteTo rfl ?_⟩
        refine ⟨_, rfl, _, _, _, _, true, rfl, .ty _, tu, kit_ty k_bb, _, rfl, iteTo rfl ?_⟩
        refine ⟨_, rfl, _, rfl, rfl, ?_⟩
        rw [dec_self]
        exact k _ (.refl _)
      | int n i =>
        cases hu
        cases hv
        refine ⟨_, rfl, rfl, _, rfl, iteFo rfl ?_⟩
        refine ⟨_, rfl, _, _, _, _, false, rfl, .ty _, tv, kit_ty k_ib, _, rfl, iteFo rfl ?_⟩
        refine ⟨_, rfl, _, _, _, _, true, rfl, .ty _, tv, kit_ty k_ii, _, rfl, iteTo rfl ?_⟩
        refine ⟨_, rfl, _, _, _, _, true, rfl, .ty _, tu, kit_ty k_ii, _, rfl, iteTo rfl ?_⟩
        refine ⟨_, rfl, _, _, _, _, false, rfl, .ty _, tu, kit_ty k_ib, _, rfl, _, rfl, iteTo rfl ?_⟩
        refine ⟨_, rfl, _, rfl, rfl, ?_⟩
        rw [dec_self]
        exact k _ (.refl _)
      | str n x =>
        cases hu
        cases hv
        refine ⟨_, rfl, rfl, _, rfl, iteFo rfl ?_⟩
        refine ⟨_, rfl, _, _, _, _, false, rfl, .ty _, tv, kit_ty k_sb, _, rfl, iteFo rfl ?_⟩
        refine ⟨_, rfl, _, _, _, _, false, rfl, .ty _, tv, kit_ty k_si, _, rfl, iteFo rfl ?_⟩
        refine ⟨_, rfl, _, _, _, _, true, rfl, .ty _, tv, kit_ty k_ss, _, rfl, iteTo rfl ?_⟩
        refine ⟨_, rfl, _, _, _, _, true, rfl, .ty _, tu, kit_ty k_ss, _, rfl, iteTo rfl ?_⟩
        refine ⟨_, rfl, _, rfl, rfl, ?_⟩
        rw [dec_self]
        exact k _ (.refl _)
      | lst hd hl =>
        rename_i ds
        cases hu with | lst hsu hau =>
        cases hv with | lst hsv hav =>
        rename_i a xs b ys
        have lx := DpAll.len hau
        have ly := DpAll.len hav
        refine ⟨_, rfl, rfl, _, rfl, iteFo rfl ?_⟩
        refine ⟨_, rfl, _, _, _, _, false, rfl, .ty _, tv, kit_ty k_lb, _, rfl, iteFo rfl ?_⟩
        refine ⟨_, rfl, _, _, _, _, false, rfl, .ty _, tv, kit_ty k_li, _, rfl, iteFo rfl ?_⟩
        refine ⟨_, rfl, _, _, _, _, false, rfl, .ty _, tv, kit_ty k_ls, _, rfl, iteFo rfl ?_⟩
        refine ⟨_, rfl, _, _, _, _, true, rfl, .ty _, tv, kit_ty k_ll, _, rfl, _, _, _, _, true, rfl, .ty _, tu, kit_ty k_ll, rfl, _, rfl, iteFo rfl ?_⟩
        refine ⟨_, rfl, _, _, _, _, false, rfl, .ty _, tv, kit_ty k_lt, _, rfl, _, _, _, _, false, rfl, .ty _, tu, kit_ty k_lt, rfl, _, rfl, iteFo rfl ?_⟩
        refine ⟨_, rfl, _, _, rfl, .inl ⟨_, hsu, rfl⟩, _, rfl, _, _, rfl, .inl ⟨_, hsv, rfl⟩, rfl, _, rfl, iteTo (decide_eq_true (congrArg (fun z : Nat => V.int (z : Int)) (lx.trans ly.symm))) ?_⟩
        refine ⟨_, rfl, _, _, rfl, .inl ⟨_, hsv, rfl⟩, _, rfl, by omega, by omega, fun D hD => ?_⟩
        rw [Int.toNat_natCast]
        refine lc_range (lo := 0) (n := ys.length) (fun i H' => Kp H H' ∧ H' D = some (.lst (List.replicate i (V.bl true)))) ⟨Kp.new hD, upd_same⟩ (fun i H' hi ⟨kp, hDl⟩ => ?_) (fun H' ⟨kp, hDl⟩ => ?_)
        · have e0 : (0 : Int) + (i : Int) = (i : Int) := Int.zero_add _
          obtain ⟨d, hdi⟩ : ∃ d, ds[i]? = some d := ⟨_, List.getElem?_eq_getElem (by omega)⟩
          obtain ⟨x, hx, dx⟩ := DpAll.get hau hdi
          obtain ⟨y, hy, dy⟩ := DpAll.get hav hdi
          refine ⟨rfl, ?_⟩
          refine ⟨_, rfl, _, rfl, .inl ⟨_, _, _, x, rfl, rfl, kp.sqL hsu, by rw [e0]; exact atI_nat hx, _, rfl, _, rfl, .inl ⟨_, _, _, y, rfl, rfl, kp.sqL hsv, by rw [e0]; exact atI_nat hy, ?_⟩⟩⟩
          refine ⟨x, y, d, rfl, kp.dp dx, kp.dp dy, hd d (List.mem_of_getElem? hdi), fun H2 k2 => ⟨_, k2.same _ _ rfl hDl, szt (by rw [List.length_replicate]; omega), ?_⟩⟩
          exact ⟨(kp.trans k2).mut hD, by rw [upd_same, List.replicate_succ']⟩
        · refine ⟨D, List.replicate ys.length true, rfl, .inl (.inl (by rw [bl_all]; exact hDl)), ?_⟩
          rw [all_rep]
          exact k _ kp
      | tup hd hl =>
        rename_i ds
        cases hu with | tup hsu hau =>
        cases hv with | tup hsv hav =>
        rename_i a xs b ys
        have lx := DpAll.len hau
        have ly := DpAll.len hav
        refine ⟨_, rfl, rfl, _, rfl, iteFo rfl ?_⟩
        refine ⟨_, rfl, _, _, _, _, false, rfl, .ty _, tv, kit_ty k_tb, _, rfl, iteFo rfl ?_⟩
        refine ⟨_, rfl, _, _, _, _, false, rfl, .ty _, tv, kit_ty k_ti, _, rfl, iteFo rfl ?_⟩
        refine ⟨_, rfl, _, _, _, _, false, rfl, .ty _, tv, kit_ty k_ts, _, rfl, iteFo rfl ?_⟩
        refine ⟨_, rfl, _, _, _, _, false, rfl, .ty _, tv, kit_ty k_tl, _, rfl, _, _, _, _, false, rfl, .ty _, tu, kit_ty k_tl, rfl, _, rfl, iteFo rfl ?_⟩
        refine ⟨_, rfl, _, _, _, _, true, rfl, .ty _, tv, kit_ty k_tt, _, rfl, _, _, _, _, true, rfl, .ty _, tu, kit_ty k_tt, rfl, _, rfl, iteFo rfl ?_⟩
        refine ⟨_, rfl, _, _, rfl, .inr ⟨_, hsu, rfl⟩, _, rfl, _, _, rfl, .inr ⟨_, hsv, rfl⟩, rfl, _, rfl, iteTo (decide_eq_true (congrArg (fun z : Nat => V.int (z : Int)) (lx.trans ly.symm))) ?_⟩
        refine ⟨_, rfl, _, _, rfl, .inr ⟨_, hsv, rfl⟩, _, rfl, by omega, by omega, fun D hD => ?_⟩
        rw [Int.toNat_natCast]
        refine lc_range (lo := 0) (n := ys.length) (fun i H' => Kp H H' ∧ H' D = some (.lst (List.replicate i (V.bl true)))) ⟨Kp.new hD, upd_same⟩ (fun i H' hi ⟨kp, hDl⟩ => ?_) (fun H' ⟨kp, hDl⟩ => ?_)
        · have e0 : (0 : Int) + (i : Int) = (i : Int) := Int.zero_add _
          obtain ⟨d, hdi⟩ : ∃ d, ds[i]? = some d := ⟨_, List.getElem?_eq_getElem (by omega)⟩
          obtain ⟨x, hx, dx⟩ := DpAll.get hau hdi
          obtain ⟨y, hy, dy⟩ := DpAll.get hav hdi
          refine ⟨rfl, ?_⟩
          refine ⟨_, rfl, _, rfl, .inr (.inl ⟨_, _, _, x, rfl, rfl, kp.sqT hsu, by rw [e0]; exact atI_nat hx, _, rfl, _, rfl, .inr (.inl ⟨_, _, _, y, rfl, rfl, kp.sqT hsv, by rw [e0]; exact atI_nat hy, ?_⟩)⟩)⟩
          refine ⟨x, y, d, rfl, kp.dp dx, kp.dp dy, hd d (List.mem_of_getElem? hdi), fun H2 k2 => ⟨_, k2.same _ _ rfl hDl, szt (by rw [List.length_replicate]; omega), ?_⟩⟩
          exact ⟨(kp.trans k2).mut hD, by rw [upd_same, List.replicate_succ']⟩
        · refine ⟨D, List.replicate ys.length true, rfl, .inl (.inl (by rw [bl_all]; exact hDl)), ?_⟩
          rw [all_rep]
          exact k _ kp
/-! ### _law_row: so many ints from nought to below a size -/
def Drawn0 (many size : Int) (xs : List Int) : Prop := (xs.length : Int) = many ∧ ∀ x ∈ xs, 0 ≤ x ∧ x < size
def sp_l_row : Sp := fun vs H Q _ => ∃ (c many size : Int), vs = [.int c, .int many, .int size] ∧ 0 ≤ many ∧ many ≤ 1000 ∧ 0 < size ∧ size < 1073741824 ∧
  ∀ (xs : List Int) (p : Addr) (H' : Hp), H p = none → Kp H H' → H' p = some (.lst (xs.map V.int)) → Drawn0 many size xs → Q (.ref p) H'
theorem snoc_in {size z : Int} {xs : List Int} (hs : 0 < size) (h : ∀ x ∈ xs, 0 ≤ x ∧ x < size) : ∀ x ∈ xs ++ [z % size], 0 ≤ x ∧ x < size := by
  intro x hx
  rcases List.mem_append.mp hx with hx | hx
  · exact h x hx
  · rw [List.mem_singleton.mp hx]
    exact ⟨Int.emod_nonneg _ (by omega), Int.emod_lt_of_pos _ hs⟩
theorem ok_l_row (T : Txt K mg) : FnOk P w K mg base CX0 1 T.f_l_row T.d_l_row ["_law_cell_here", "_law_many", "_law_size"] sp_l_row := by
  refine T.F_l_row.ok sc_l_row (fun vs H Q E h => ?_) (fun cdv A outer s H vs Q E hr h => ?_)
  · obtain ⟨c, many, size, rfl, _⟩ := h
    rfl
  · obtain ⟨c, many, size, rfl, hm0, hm1, hs0, hs1, k⟩ := h
    refine ⟨_, (pss_cons (ps_set (i := 3) sc_l_row.nd rfl (by first | exact Or.inl rfl | exact Or.inr rfl) (pe_lst pa_nil))
      (pss_cons (ps_if (pt_cmpR op_ge (pv 0) (pe_op op_pow pe_int pe_int) (nomark _))
      (pss_cons (ps_set (i := 4) sc_l_row.nd rfl (by first | exact Or.inl rfl | exact Or.inr rfl) (pe_op op_sub (pv 0) (pe_op op_pow pe_int pe_int)))
      (pss_cons (ps_for PassesOwn.never rfl (pi_range1 (by rfl) T.m_range (pa_cons (pv 1) pa_nil)) (pg_name (i := 5) sc_l_row.nd rfl (by first | exact Or.inl rfl | exact Or.inr rfl))
      (pss_cons (ps_expr (pe_bm PySem.F.plainAttrs_list PySem.F.slot_list_append PySem.F.type_list_append mt_append (pv 3) (pa_cons (pe_op op_mod (pv 4) (pv 2)) pa_nil)))
      (pss_one (ps_set (i := 4) sc_l_row.nd rfl (by first | exact Or.inl rfl | exact Or.inr rfl) (pe_op op_fdiv (pv 4) (pv 2))))))
      (pss_one (ps_ret (pv 3)))))
      pss_nil)
      (pss_cons (ps_set (i := 6) sc_l_row.nd rfl (by first | exact Or.inl rfl | exact Or.inr rfl) (pe_op op_mod (pv 0) pe_int))
      (pss_cons (ps_for PassesOwn.never rfl (pi_range1 (by rfl) T.m_range (pa_cons (pv 1) pa_nil)) (pg_name (i := 5) sc_l_row.nd rfl (by first | exact Or.inl rfl | exact Or.inr rfl))
      (pss_cons (ps_set (i := 6) sc_l_row.nd rfl (by first | exact Or.inl rfl | exact Or.inr rfl) (pe_op op_mod (pe_op op_add (pe_op op_add (pe_op op_mul (pv 6) pe_int) pe_int) (pv 5)) pe_int))
      (pss_cons (ps_set (i := 7) sc_l_row.nd rfl (by first | exact Or.inl rfl | exact Or.inr rfl) (pe_op op_mod (pe_op op_fdiv (pe_op op_mul (pv 6) (pe_op op_add (pe_op op_mod (pv 6) pe_int) pe_int)) pe_int) pe_int))
      (pss_one (ps_expr (pe_bm PySem.F.plainAttrs_list PySem.F.slot_list_append PySem.F.type_list_append mt_append (pv 3) (pa_cons (pe_op op_mod (pv 7) (pv 2)) pa_nil)))))))
      (pss_one (ps_ret (pv 3))))))), ?_⟩
    refine ⟨Nat.zero_le _, fun p np => ?_⟩
    generalize h_H1 : upd H p _ = H1
    have k_H1 : Kp H H1 := by rw [← h_H1]; exact .new np
    have q_H1 := (congrFun h_H1 p).symm.trans upd_same
    clear h_H1
    refine ⟨_, rfl, _, _, rfl, rfl, ⟨by decide, by decide, by decide⟩, _, _, rfl, rfl, _, rfl, iteD (fun c1 => ?_) (fun c1 => ?_)⟩
    · refine ⟨_, rfl, _, _, rfl, rfl, ⟨by decide, by decide, by decide⟩, _, _, rfl, rfl, ?_⟩
      refine ⟨_, rfl, many, rfl, by omega, by omega, ?_⟩
      refine for_range (lo := 0) (n := many.toNat) (fun i σ H' => ∃ (xs : List Int) (r : Int) (y : Option V), σ = [some (.int c), some (.int many), some (.int size), some (.ref p), some (.int r), y, none, none] ∧ Kp H H' ∧ H' p = some (.lst (xs.map V.int)) ∧ xs.length = i ∧ ∀ x ∈ xs, 0 ≤ x ∧ x < size)
        ⟨[], _, none, rfl, k_H1, q_H1, rfl, by simp⟩ ?_ ?_
      · rintro i σ H' hi ⟨xs, r, y, rfl, kp, hp, hl, hb⟩
        refine ⟨_, rfl, .inl ⟨rfl, _, SqL.of hp⟩, _, rfl, _, rfl, _, _, rfl, rfl, hs0, p, _, _, rfl, rfl, hp, szt (by rw [List.length_map]; omega), ?_⟩
        refine ⟨_, rfl, _, rfl, _, _, rfl, rfl, ⟨hs0, hs1⟩, ?_⟩
        refine ⟨xs ++ [r % size], _, _, rfl, kp.mut np, ?_, by rw [List.length_append, hl]; rfl, snoc_in hs0 hb⟩
        rw [upd_same, List.map_append]
        rfl
      · rintro σ H' ⟨xs, r, y, rfl, kp, hp, hl, hb⟩
        exact ⟨_, rfl, k xs p H' np kp hp ⟨by omega, hb⟩⟩
    · refine ⟨_, rfl, _, _, rfl, rfl, (by show (0 : Int) < 2147483647; decide), ?_⟩
      refine ⟨_, rfl, many, rfl, by omega, by omega, ?_⟩
      refine for_range (lo := 0) (n := many.toNat) (fun i σ H' => ∃ (xs : List Int) (r : Int) (y y2 : Option V), σ = [some (.int c), some (.int many), some (.int size), some (.ref p), none, y, some (.int r), y2] ∧ Kp H H' ∧ H' p = some (.lst (xs.map V.int)) ∧ xs.length = i ∧ ∀ x ∈ xs, 0 ≤ x ∧ x < size)
        ⟨[], _, none, none, rfl, k_H1, q_H1, rfl, by simp⟩ ?_ ?_
      · rintro i σ H' hi ⟨xs, r, y, y2, rfl, kp, hp, hl, hb⟩
        refine ⟨_, rfl, _, _, rfl, rfl, .inr ⟨by decide, by decide⟩, _, _, rfl, rfl, _, rfl, _, _, rfl, rfl, _, _, rfl, rfl, (by show (0 : Int) < 2147483647; decide), ?_⟩
        generalize hr2 : (fun (i j : Int) => V.int (i % j)) _ _ = sv
        obtain ⟨r2, rfl⟩ : ∃ r2 : Int, sv = .int r2 := ⟨_, hr2.symm⟩
        clear hr2
        have b0 : 0 ≤ r2 % 65521 := Int.emod_nonneg _ (by decide)
        have b1 : r2 % 65521 < 65521 := Int.emod_lt_of_pos _ (by decide)
        refine ⟨_, rfl, _, rfl, _, _, rfl, rfl, (by show (0 : Int) < 65521; decide), _, _, rfl, rfl, _, _, rfl, rfl, .inr ⟨by omega, by omega⟩, _, _, rfl, rfl, ⟨by decide, by decide⟩, _, _, rfl, rfl, (by show (0 : Int) < 1000003; decide), ?_⟩
        refine ⟨_, rfl, .inl ⟨rfl, _, SqL.of hp⟩, _, rfl, _, rfl, _, _, rfl, rfl, hs0, p, _, _, rfl, rfl, hp, szt (by rw [List.length_map]; omega), ?_⟩
        refine ⟨xs ++ [r2 * (r2 % 65521 + 3) / 1009 % 1000003 % size], r2, _, _, rfl, kp.mut np, ?_, by rw [List.length_append, hl]; rfl, snoc_in hs0 hb⟩
        rw [upd_same, List.map_append]
        rfl
      · rintro σ H' ⟨xs, r, y, y2, rfl, kp, hp, hl, hb⟩
        exact ⟨_, rfl, k xs p H' np kp hp ⟨by omega, hb⟩⟩
/-! ### words -/
def abcW : Str := "abcdefghijklmnopqrstuvwxyz"
def isW (t : Str) : Bool := decide (1 ≤ (t.length : Int)) && (decide ((t.length : Int) ≤ 12) && t.cps.toList.all fun c => decide (c ∈ abcW.cps.toList))
def sp_p_is_word (P : Addr) : Sp := fun vs H Q _ => ∃ t : Str, vs = [.str t] ∧ t.length ≤ 1000 ∧ GxR.TabG H P ∧ ∀ H', Kp H H' → Q (.bl (isW t)) H'
theorem ok_p_is_word (T : Txt K mg) (TB : GxR.TabB base mg T.c_tab T.P_tab) : FnOk P w K mg base CX0 2 T.f_p_is_word T.d_p_is_word ["text"] (sp_p_is_word T.P_tab) := by
  obtain ⟨tl, hu⟩ := T.r_LETTERS
  have hL : mg "LETTERS" = some (.str abcW tl) := by rw [T.c_LETTERS, hu]; rfl
  refine T.W_p_is_word.ok sc_p_is_word (fun vs H Q E h => ?_) (fun A outer s H vs Q E hr h => ?_)
  · obtain ⟨t, rfl, _⟩ := h
    rfl
  · obtain ⟨t, rfl, hl, hT, k⟩ := h
    refine ⟨_, (pss_one (ps_ret (pe_and (pe_chain op_le op_le pe_int (pe_callB call_len_str (by rfl) T.m_len PySem.boot_len (pa_cons (pv 0) pa_nil)) (pe_glob rfl T.c_LONGEST_WORD T.r_LONGEST_WORD)) (pe_one (pe_allG hr (by rfl) T.m_all (by decide +kernel) TB rfl ⟨rfl, rfl, noCell (by decide +kernel), rfl, rfl, noFree (by decide +kernel)⟩ (pv 0) (elt_inG rfl rfl rfl hL) (fun _ => rfl)))))), ?_⟩
    refine ⟨_, rfl, t, rfl, szl (by omega), _, _, rfl, rfl, _, rfl, ?_⟩
    unfold isW at k
    by_cases c1 : 1 ≤ (t.length : Int)
    · rw [decide_eq_true c1] at k
      refine iteTo (decide_eq_true c1) ⟨_, _, rfl, rfl, _, rfl, ?_⟩
      by_cases c2 : (t.length : Int) ≤ 12
      · rw [decide_eq_true c2] at k
        exact iteTo (decide_eq_true c2) ⟨_, rfl, t, rfl, hT, fun H2 t2 => k _ (kp_tabbed hT t2)⟩
      · rw [decide_eq_false c2] at k
        exact iteFo (decide_eq_false c2) (k _ (.refl _))
    · rw [decide_eq_false c1] at k
      exact iteFo (decide_eq_false c1) ⟨_, rfl, iteF (k _ (.refl _))⟩
def let1 (c : Nat) : Int := 41 + ((c - 97 : Nat) : Int)
def letS (w : Str) : List Int := w.cps.toList.map let1
theorem isW_len {t : Str} (h : isW t = true) : 1 ≤ t.length ∧ t.length ≤ 12 := by
  unfold isW at h
  simp only [Bool.and_eq_true, decide_eq_true_eq] at h
  omega
theorem abcW_mem {c : Nat} : c ∈ abcW.cps.toList ↔ 97 ≤ c ∧ c < 123 := by
  have e : abcW.cps.toList = (List.range 26).map (97 + ·) := by decide +kernel
  rw [e]
  constructor
  · intro h
    obtain ⟨j, hj, rfl⟩ := List.mem_map.mp h
    have := List.mem_range.mp hj
    omega
  · intro h
    exact List.mem_map.mpr ⟨c - 97, List.mem_range.mpr (by omega), by omega⟩
theorem isW_signs {t : Str} (h : isW t = true) : ∀ c ∈ t.cps.toList, 97 ≤ c ∧ c < 123 := by
  unfold isW at h
  simp only [Bool.and_eq_true] at h
  intro c hc
  exact abcW_mem.mp (of_decide_eq_true (List.all_eq_true.mp h.2.2 c hc))
/-! ### letter_of and sign_of -/
def abc : Str := "abcdefghijklmnopqrstuvwxyz"
theorem abc_len : abc.length = 26 := by decide +kernel
theorem abc_at {j : Nat} (h : j < 26) : atI abc.cps.toList (j : Int) = some (97 + j) := by
  have e : abc.cps.toList = (List.range 26).map (97 + ·) := by decide +kernel
  rw [e]
  exact atI_nat (by rw [List.getElem?_map, List.getElem?_range h]; rfl)
theorem abc_ix : ∀ j, j < 26 → ∃ rest, Builtin.Str.occurrences abc ⟨#[97 + j]⟩ 0 abc.length 1 = j :: rest := by
  have h : ∀ j : Fin 26, (Builtin.Str.occurrences abc ⟨#[97 + j.val]⟩ 0 abc.length 1) = [j.val] := by decide +kernel
  exact fun j hj => ⟨[], h ⟨j, hj⟩⟩
/-! ### a method of a text inside a comprehension -/
theorem tbmK {X : Cx} (K : PySem.W.Frag) {e : Expr} {to : TE} {t : TA} {T : String} {r : V → List V → Hp → VK → Prop} (h : X.K = K) (p : PE X e (tBM X.K T r to t)) : PE X e (tBM K T r to t) := h ▸ p
/-! ### _law_word: a drawn word -/
theorem joinL_nil : ∀ zs : List (List Nat), TL.joinL [] zs = zs.flatten
  | [] => rfl
  | [z] => by show z = _; simp
  | z :: z2 :: r => by
    show z ++ ([] ++ TL.joinL [] (z2 :: r)) = _
    rw [joinL_nil (z2 :: r), List.nil_append]
    rfl
def one (c : Nat) : Str := ⟨#[c]⟩
theorem join_ones (cs : List Nat) : (Txt.join "" (cs.map one)).cps.toList = cs := by
  have e : TL.tl (Txt.join "" (cs.map one)) = TL.joinL (TL.tl "") ((cs.map one).map TL.tl) := by rw [TL.join_eq, TL.tl_join]
  have e0 : TL.tl "" = [] := by decide +kernel
  rw [e0, joinL_nil, List.map_map] at e
  have e2 : (cs.map (TL.tl ∘ one)).flatten = cs := by
    clear e
    induction cs with
    | nil => rfl
    | cons c r ih =>
      rw [List.map_cons, List.flatten_cons, ih]
      rfl
  rw [e2] at e
  exact e
theorem sum_ones (cs : List Nat) : ((cs.map one).map (·.length)).sum = cs.length := by
  induction cs with
  | nil => rfl
  | cons c r ih =>
    rw [List.map_cons, List.map_cons, List.sum_cons, ih, List.length_cons]
    show 1 + r.length = r.length + 1
    omega
theorem isW_of {t : Str} (h1 : 1 ≤ t.cps.toList.length) (h2 : t.cps.toList.length ≤ 12) (h : ∀ c ∈ t.cps.toList, c ∈ abcW.cps.toList) : isW t = true := by
  have et : t.length = t.cps.toList.length := by simp [Str.length]
  unfold isW
  rw [et, decide_eq_true (show 1 ≤ (t.cps.toList.length : Int) by omega), decide_eq_true (show (t.cps.toList.length : Int) ≤ 12 by omega)]
  show (t.cps.toList.all fun c => decide (c ∈ abcW.cps.toList)) = true
  exact List.all_eq_true.mpr fun c hc => decide_eq_true (h c hc)
theorem isW_cut {t : Str} {z : Int} (hl : t.cps.toList.length = 12) (h : ∀ c ∈ t.cps.toList, c ∈ abcW.cps.toList) (h1 : 1 ≤ z) (h2 : z ≤ 12) : isW (cutS t none (some z)) = true := by
  have et : t.length = 12 := by simpa [Str.length] using hl
  have e1 : HT.sIx t.length 0 none = 0 := rfl
  have e2 : HT.sIx t.length t.length (some z) = z.toNat := by
    rw [et]
    obtain ⟨n, rfl⟩ : ∃ n : Nat, z = (n : Int) := ⟨z.toNat, by omega⟩
    have hn : n ≤ 12 := by omega
    rw [Int.toNat_natCast]
    have key : ∀ n : Fin 13, HT.sIx 12 12 (some ((n.val : Nat) : Int)) = n.val := by decide +kernel
    exact key ⟨n, by omega⟩
  have e : (cutS t none (some z)).cps.toList = t.cps.toList.take z.toNat := by
    unfold cutS
    rw [e1, e2]
    simp
  refine isW_of ?_ ?_ ?_
  · rw [e, List.length_take]
    omega
  · rw [e, List.length_take]
    omega
  · rw [e]
    intro c hc
    exact h c (List.mem_of_mem_take hc)
def W7 : List Str := ["tide", "tides", "out", "aaaaaaaaaaaa", "a", "b", "zaaaaaaaaaaa"]
theorem isW_7 : ∀ t ∈ W7, isW t = true := by decide +kernel
theorem at_7 (n : Int) : ∃ t ∈ W7, atI (W7.map V.str) (n % 7) = some (.str t) := by
  have h0 : 0 ≤ n % 7 := Int.emod_nonneg _ (by decide)
  have h1 : n % 7 < 7 := Int.emod_lt_of_pos _ (by decide)
  have hj : (n % 7).toNat < W7.length := by
    show (n % 7).toNat < 7
    omega
  refine ⟨W7[(n % 7).toNat], List.getElem_mem _, ?_⟩
  have e := atI_nat (xs := W7.map V.str) (j := (n % 7).toNat) (v := .str W7[(n % 7).toNat]) (by rw [List.getElem?_map, List.getElem?_eq_getElem hj]; rfl)
  rw [Int.toNat_of_nonneg h0] at e
  exact e
theorem at_abc (m : Int) : ∃ c ∈ abcW.cps.toList, atI abcW.cps.toList (m % 26) = some c := by
  have h0 : 0 ≤ m % 26 := Int.emod_nonneg _ (by decide)
  have h1 : m % 26 < 26 := Int.emod_lt_of_pos _ (by decide)
  have hl : abcW.cps.toList.length = 26 := by decide +kernel
  have hj : (m % 26).toNat < abcW.cps.toList.length := by omega
  refine ⟨abcW.cps.toList[(m % 26).toNat], List.getElem_mem _, ?_⟩
  have e := atI_nat (List.getElem?_eq_getElem hj)
  rw [Int.toNat_of_nonneg h0] at e
  exact e
theorem cut1 {ns : List Int} : cutV (ns.map V.int) (some 1) none = (ns.drop 1).map V.int := by
  unfold cutV
  rw [List.length_map]
  cases ns with
  | nil => rfl
  | cons n r =>
    have e1 : HT.sIx (n :: r).length 0 (some 1) = 1 := by
      show HT.sIx (r.length + 1) 0 (some 1) = 1
      unfold HT.sIx
      simp
      try omega
    have e2 : HT.sIx (n :: r).length (n :: r).length none = (n :: r).length := rfl
    rw [e1, e2, List.drop_succ_cons, List.drop_zero, List.map_cons, List.drop_succ_cons, List.drop_zero, List.length_cons]
    rw [List.take_of_length_le (by rw [List.length_map]; omega)]
def sp_l_word : Sp := fun vs H Q _ => ∃ c : Int, vs = [.int c] ∧ ∀ (t : Str) (H' : Hp), isW t = true → Kp H H' → Q (.str t) H'
theorem ok_l_word (T : Txt K mg) : FnOk P w K mg base CX0 2 T.f_l_word T.d_l_word ["_law_cell_here"] sp_l_word := by
  refine T.F_l_word.ok sc_l_word (fun vs H Q E h => ?_) (fun cdv A outer s H vs Q E hr h => ?_)
  · obtain ⟨c, rfl, _⟩ := h
    rfl
  · obtain ⟨c, rfl, k⟩ := h
    refine ⟨_, (pss_cons (ps_set (i := 1) sc_l_word.nd rfl (by first | exact Or.inl rfl | exact Or.inr rfl) (pe_call (ok_l_row T) (hr.mono (by decide)) rfl T.g_l_row T.F_l_row.kp T.b_l_row .nil pass0 (pa_cons (pv 0) (pa_cons pe_int (pa_cons pe_int pa_nil)))))
      (pss_cons (ps_set (i := 2) sc_l_word.nd rfl (by first | exact Or.inl rfl | exact Or.inr rfl) (pe_join pe_str (pe_lc (own := [("_law_num", 3)]) (g := gName 3) (tt := tYes) (by rfl) sc_l_word.nd (pi_list (pe_slice sl_list (pv 1) (po_some pe_int) po_none)) (blkOk_by (own := [("_law_num", 3)]) (N := ["_law_cell_here", "_law_nums", "_law_some", "_law_num", "_law_size"]) (sc := defScope s_l_word) (by decide +kernel)) (fun _ _ _ _ _ => (pg_name (i := 3) sc_l_word.nd rfl (by first | exact Or.inl rfl | exact Or.inr rfl))) (fun _ _ _ _ _ => pts_nil) (fun _ _ _ _ _ => (pe_ix ix_str pe_str (pe_op op_mod (pv 3) pe_int) (fun _ _ => rfl))))))
      (pss_cons (ps_set (i := 4) sc_l_word.nd rfl (by first | exact Or.inl rfl | exact Or.inr rfl) (pe_op op_add pe_int (pe_op op_mod (pe_ix ix_list (pv 1) pe_int (fun _ _ => rfl)) pe_int)))
      (pss_cons (ps_if (pt_cmpR op_eq (pe_op op_mod (pe_op op_fdiv (pe_ix ix_list (pv 1) pe_int (fun _ _ => rfl)) pe_int) pe_int) pe_int (nomark _))
      (pss_one (ps_ret (pe_ix ix_tup (pe_tup (pa_cons pe_str (pa_cons pe_str (pa_cons pe_str (pa_cons pe_str (pa_cons pe_str (pa_cons pe_str (pa_cons pe_str pa_nil)))))))) (pe_op op_mod (pe_ix ix_list (pv 1) pe_int (fun _ _ => rfl)) pe_int) (fun _ _ => rfl))))
      pss_nil)
      (pss_one (ps_ret (pe_slice sl_str (pv 2) po_none (po_some (pv 4))))))))), ?_⟩
    refine ⟨_, rfl, _, _, _, rfl, by decide, by decide, by decide, by decide, fun nums p1 H1 n1 k1 q1 ⟨hl, hb⟩ => ?_⟩
    have h0 : 0 < nums.length := by omega
    have h1' : 1 < nums.length := by omega
    refine ⟨⟨_, rfl⟩, _, rfl, _, rfl, p1, _, rfl, .inl (.inl q1), fun p2 n2 => ?_⟩
    generalize h_H2 : upd H1 p2 _ = H2
    have k_H2 : Kp H1 H2 := by rw [← h_H2]; exact .new n2
    have q_H2 := (congrFun h_H2 p2).symm.trans upd_same
    clear h_H2
    have q2 : H2 p2 = some (.lst ((nums.drop 1).map V.int)) := by rw [← cut1]; exact q_H2
    refine ⟨p2, rfl, ⟨_, .inl (.inl q2)⟩, fun D hD => ?_⟩
    refine lc_list (K := K) (a := p2) (xs := (nums.drop 1).map V.int) (fun i H' => Kp H2 H' ∧ ∃ cs : List Nat, H' D = some (.lst ((cs.map one).map V.str)) ∧ cs.length = i ∧ ∀ y ∈ cs, y ∈ abcW.cps.toList) ⟨Kp.new hD, [], upd_same, rfl, by simp⟩ (fun i H' _ ⟨kp, _⟩ => kp.sqL (.inl (.inl q2))) (fun i x H' hi ⟨kp, ss, hs, hn, h1⟩ => ?_) (fun H' ⟨kp, ss, hs, hn, h1⟩ => ?_)
    · have hil : i < 12 := by
        have z := (List.getElem?_eq_some_iff.mp hi).1
        rw [List.length_map, List.length_drop] at z
        omega
      obtain ⟨z, _, rfl, _⟩ := mem_ints hi
      obtain ⟨c, hcm, hc⟩ := at_abc z
      refine ⟨rfl, ?_⟩
      refine ⟨_, rfl, _, _, rfl, rfl, (by show (0 : Int) < 26; decide), abcW, _, c, rfl, rfl, by decide +kernel, hc, (ss.map one).map V.str, hs, szt (by rw [List.length_map, List.length_map]; omega), kp.mut hD, ss ++ [c], ?_, by rw [List.length_append, hn]; rfl, fun y hy => ?_⟩
      · rw [upd_same, List.map_append, List.map_append]
        rfl
      · rcases List.mem_append.mp hy with hy | hy
        · exact h1 y hy
        · rw [List.mem_singleton.mp hy]
          exact hcm
    · rw [List.length_map, List.length_drop] at hn
      have hsum : ((ss.map one).map (·.length)).sum + (ss.map one).length * (Str.ofString "").length ≤ 16777216 := by
        have e2 : (Str.ofString "").length = 0 := by decide +kernel
        rw [sum_ones, e2]
        omega
      refine ⟨_, D, ss.map one, rfl, rfl, .inl (.inl (.inl hs)), hsum, ?_⟩
      have k3 := (k1.trans k_H2).trans kp
      have hp1 : H' p1 = some (.lst (nums.map V.int)) := kp.same _ _ rfl (k_H2.same _ _ rfl q1)
      have hj := join_ones ss
      generalize hJ : Txt.join _ (ss.map one) = J
      have hj : J.cps.toList = ss := by rw [← hJ]; exact hj
      clear hJ
      have z0 : 0 ≤ nums[0] % 12 := Int.emod_nonneg _ (by decide)
      have z1 : nums[0] % 12 < 12 := Int.emod_lt_of_pos _ (by decide)
      refine ⟨_, rfl, p1, _, _, _, rfl, rfl, .inl (.inl hp1), at_int (j := 0) h0, _, _, rfl, rfl, (by show (0 : Int) < 12; decide), _, _, rfl, rfl, ?_⟩
      refine ⟨_, rfl, p1, _, _, _, rfl, rfl, .inl (.inl hp1), at_int (j := 0) h0, _, _, rfl, rfl, ⟨by decide, by decide⟩, _, _, rfl, rfl, (by show (0 : Int) < 5; decide), rfl, _, rfl, iteD (fun c1 => ?_) (fun c1 => ?_)⟩
      · refine ⟨szl (by show 7 ≤ 100000; decide), fun p3 n3 => ?_⟩
        generalize h_H3 : upd H' p3 _ = H3
        have k_H3 : Kp H' H3 := by rw [← h_H3]; exact .new n3
        have q_H3 := (congrFun h_H3 p3).symm.trans upd_same
        clear h_H3
        obtain ⟨t, ht, hat⟩ := at_7 nums[1]
        refine ⟨_, rfl, p1, _, _, _, rfl, rfl, .inl (.inl (k_H3.same _ _ rfl hp1)), at_int (j := 1) h1', _, _, rfl, rfl, (by show (0 : Int) < 7; decide), p3, _, _, _, rfl, rfl, .inl (.inl q_H3), hat, k t H3 (isW_7 t ht) (k3.trans k_H3)⟩
      · refine ⟨_, rfl, _, rfl, _, rfl, J, rfl, ?_, ?_⟩
        · have e : J.length = J.cps.toList.length := by simp [Str.length]
          exact szl (by rw [e, hj]; omega)
        · exact k _ _ (isW_cut (by rw [hj]; omega) (by rw [hj]; exact h1) (by omega) (by omega)) k3
/-! ### _law_book: a phrasebook and its words -/
/-! ### numbers -/
def figW : Str := "0123456789"
def plB (t : Str) : Bool := decide (1 ≤ (t.length : Int)) && (decide ((t.length : Int) ≤ 6) && t.cps.toList.all fun c => decide (c ∈ figW.cps.toList))
def isN (t : Str) : Bool := plB t && (decide (V.str t = V.str "0") || !(Txt.startswith t "0"))
def sp_p_is_number (P : Addr) : Sp := fun vs H Q _ => ∃ t : Str, vs = [.str t] ∧ t.length ≤ 1000 ∧ GxR.TabG H P ∧ ∀ H', Kp H H' → Q (.bl (isN t)) H'
theorem ok_p_is_number (T : Txt K mg) (TBN : GxR.TabB base mg T.c_tabN T.P_tabN) : FnOk P w K mg base CX0 2 T.f_p_is_number T.d_p_is_number ["text"] (sp_p_is_number T.P_tabN) := by
  obtain ⟨tl, hu⟩ := T.r_FIGURES
  have hL : mg "FIGURES" = some (.str figW tl) := by rw [T.c_FIGURES, hu]; rfl
  refine T.W_p_is_number.ok sc_p_is_number (fun vs H Q E h => ?_) (fun A outer s H vs Q E hr h => ?_)
  · obtain ⟨t, rfl, _⟩ := h
    rfl
  · obtain ⟨t, rfl, hl, hT, k⟩ := h
    refine ⟨_, (Evl.pss_cut (ps_set (i := 1) sc_p_is_number.nd rfl (by first | exact Or.inl rfl | exact Or.inr rfl) (pe_and (pe_chain op_le op_le pe_int (pe_callB call_len_str (by rfl) T.m_len PySem.boot_len (pa_cons (pv 0) pa_nil)) (pe_glob rfl T.c_MOST_FIGURES T.r_MOST_FIGURES)) (pe_one (pe_allG hr (by rfl) T.m_all (by decide +kernel) TBN rfl ⟨rfl, rfl, noCell (by decide +kernel), rfl, rfl, noFree (by decide +kernel)⟩ (pv 0) (elt_inG rfl rfl rfl hL) (fun _ => rfl)))))
      (pss_one (ps_ret (pe_and (pv 1) (pe_one (pe_or (pe_cmpR op_eq (pv 0) pe_str (nomark _)) (pe_one (pe_not (pe_m1 PySem.F.slot_str_startswith PySem.F.type_str_startswith mt_startswith (pv 0) pe_str))))))))), ?_⟩
    refine ⟨fun σ H' => σ = [some (.str t), some (.bl (plB t)), none] ∧ Kp H H', ?_, ?_⟩
    · refine ⟨_, rfl, t, rfl, szl (by omega), _, _, rfl, rfl, _, rfl, ?_⟩
      unfold plB
      by_cases c1 : 1 ≤ (t.length : Int)
      · rw [decide_eq_true c1]
        refine iteTo rfl ⟨_, _, rfl, rfl, _, rfl, ?_⟩
        by_cases c2 : (t.length : Int) ≤ 6
        · rw [decide_eq_true c2]
          exact iteTo rfl ⟨_, rfl, t, rfl, hT, fun H2 t2 => ⟨rfl, kp_tabbed hT t2⟩⟩
        · rw [decide_eq_false c2]
          exact iteFo rfl ⟨rfl, .refl _⟩
      · rw [decide_eq_false c1]
        exact iteFo rfl ⟨_, rfl, iteF ⟨rfl, .refl _⟩⟩
    · rintro σ H' ⟨rfl, kp⟩
      unfold isN at k
      refine ⟨_, rfl, _, rfl, ?_⟩
      cases e : plB t with
      | false =>
        rw [e] at k
        exact iteFo rfl (k _ kp)
      | true =>
        rw [e] at k
        refine iteTo rfl ⟨_, rfl, rfl, _, rfl, iteD (fun c => ?_) (fun c => ?_)⟩
        · rw [decide_eq_true c] at k
          exact k _ kp
        · rw [decide_eq_false c] at k
          exact ⟨_, rfl, ⟨_, rfl⟩, t, _, rfl, rfl, _, rfl, k _ kp⟩
/-! ### parts -/
def tx : V → Str
  | .int i => Str.ofString (toString i)
  | .str t => t
  | _ => Str.empty
inductive Fit : Str → V → Prop
  | num (n : Nat) (h : n ≤ 999999) : Fit "number" (.int (n : Int))
  | way (t : Str) (h : t = "up" ∨ t = "down") : Fit "way" (.str t)
  | word (t : Str) (h : isW t = true) : Fit "word" (.str t)
theorem num_tl (n : Nat) : (Str.ofString (toString ((n : Nat) : Int))).cps.toList = TL.numL n := TL.tl_num n
theorem num_len (n : Nat) : (Str.ofString (toString ((n : Nat) : Int))).length = (TL.numL n).length := by
  rw [← num_tl]
  simp [Str.length]
theorem num_small {n : Nat} (h : n ≤ 999999) : 1 ≤ (TL.numL n).length ∧ (TL.numL n).length ≤ 6 := by
  refine ⟨?_, TL.numL_len (by decide) (by omega)⟩
  have := TL.numL_ne n
  cases e : TL.numL n with
  | nil => exact absurd e this
  | cons a r => simp
theorem num_head : ∀ n : Nat, 0 < n → ∃ c r, TL.numL n = c :: r ∧ c ≠ 48 := by
  intro n
  induction n using Nat.strongRecOn with
  | _ n ih =>
    intro h0
    by_cases h : n < 10
    · exact ⟨48 + n, [], TL.numL_lt h, by omega⟩
    · obtain ⟨c, r, e, hc⟩ := ih (n / 10) (by omega) (by omega)
      exact ⟨c, r ++ [48 + n % 10], by rw [TL.numL_step (by omega), e]; rfl, hc⟩
theorem fig_mem {c : Nat} (h : 48 ≤ c ∧ c ≤ 57) : c ∈ figW.cps.toList := by
  have e : figW.cps.toList = (List.range 10).map (48 + ·) := by decide +kernel
  rw [e]
  exact List.mem_map.mpr ⟨c - 48, List.mem_range.mpr (by omega), by omega⟩
theorem starts_no {t : Str} {c : Nat} {r : List Nat} (e : t.cps.toList = c :: r) (hc : c ≠ 48) : Txt.startswith t "0" = false := by
  obtain ⟨⟨l⟩⟩ := t
  obtain rfl : l = c :: r := e
  have e0 : (Str.ofString "0").cps = #[48] := by decide +kernel
  unfold Txt.startswith Builtin.Str.subAt
  have el : (Str.ofString "0").length = 1 := by decide +kernel
  rw [el, e0]
  have ex : (Array.extract (List.toArray (c :: r)) 0 (0 + 1)) = #[c] := by simp
  show (_ && (Array.extract (List.toArray (c :: r)) 0 (0 + 1) == #[48])) = false
  rw [ex]
  simp [hc]
theorem isN_num {n : Nat} (h : n ≤ 999999) : isN (Str.ofString (toString ((n : Nat) : Int))) = true := by
  obtain ⟨h1, h2⟩ := num_small h
  have hp : plB (Str.ofString (toString ((n : Nat) : Int))) = true := by
    unfold plB
    rw [num_len, num_tl, decide_eq_true (by omega), decide_eq_true (by omega), Bool.true_and, Bool.true_and, List.all_eq_true]
    intro c hc
    exact decide_eq_true (fig_mem (TL.numL_digits n c hc))
  unfold isN
  rw [hp, Bool.true_and]
  by_cases z : n = 0
  · subst z
    decide +kernel
  · obtain ⟨c, r, e, hc⟩ := num_head n (by omega)
    rw [starts_no (by rw [num_tl, e]) hc]
    simp
theorem log_ok {n : Nat} (h : n ≤ 999999) : ((n : Nat) : Int).natAbs.log2 < 1920 := by
  rw [Int.natAbs_natCast]
  by_cases z : n = 0
  · subst z
    decide
  · have := (Nat.log2_lt (k := 20) z).2 (by omega)
    omega
/-- what a part may be, and its text -/
def Part (x : V) : Prop := (∃ n : Nat, n ≤ 999999 ∧ x = .int (n : Int)) ∨ ∃ t : Str, x = .str t ∧ t.length ≤ 12
theorem Part.len {x : V} (h : Part x) : (tx x).length ≤ 12 := by
  rcases h with ⟨n, h, rfl⟩ | ⟨t, rfl, h⟩
  · show (Str.ofString (toString ((n : Nat) : Int))).length ≤ 12
    rw [num_len]
    have := num_small h
    omega
  · exact h
theorem Fit.part {k : Str} {x : V} (h : Fit k x) : Part x := by
  cases h with
  | num n h => exact .inl ⟨n, h, rfl⟩
  | way t h =>
    refine .inr ⟨t, rfl, ?_⟩
    rcases h with rfl | rfl <;> decide +kernel
  | word t h => exact .inr ⟨t, rfl, (isW_len h).2⟩
theorem Fit.free {k : Str} {x : V} (h : Fit k x) : 32 ∉ (tx x).cps.toList := by
  cases h with
  | num n h =>
    show 32 ∉ (Str.ofString (toString ((n : Nat) : Int))).cps.toList
    rw [num_tl]
    exact TL.numL_free (by omega)
  | way t h => rcases h with rfl | rfl <;> decide +kernel
  | word t h =>
    intro hm
    have := isW_signs h 32 hm
    omega
/-! ### a part read -/
def sp_p_read_part (P PN : Addr) : Sp := fun vs H Q _ => ∃ (k : Str) (x : V), vs = [.str k, .str (tx x)] ∧ Fit k x ∧ GxR.TabG H P ∧ GxR.TabG H PN ∧ ∀ H', Kp H H' → Q x H'
theorem ok_p_read_part (T : Txt K mg) (TB : GxR.TabB base mg T.c_tab T.P_tab) (TBN : GxR.TabB base mg T.c_tabN T.P_tabN) : FnOk P w K mg base (L2.CX P w) 4 T.f_p_read_part T.d_p_read_part ["kind", "text"] (sp_p_read_part T.P_tab T.P_tabN) := by
  refine T.F_p_read_part.okX sc_p_read_part (fun vs H Q E h => ?_) (fun cdv A outer s H vs Q E hr h => ?_)
  · obtain ⟨k, x, rfl, _⟩ := h
    rfl
  · obtain ⟨k, x, rfl, hf, hT, hN, q⟩ := h
    have hlen := hf.part.len
    refine ⟨_, (pss_cons (ps_if (PW.pt (pw_and (pt_cmpR op_eq (pv 0) pe_str (nomark _)) (pw_and1 (pt_val (pe_call (ok_p_is_number T TBN) (hr.mono (by decide)) rfl T.g_p_is_number T.F_p_is_number.kp T.b_p_is_number .nil pass0 (pa_cons (pv 1) pa_nil))))))
      (pss_one (ps_ret (pe_callTy call_int_str (by rfl) T.m_int (by decide +kernel) (pa_cons (pv 1) pa_nil))))
      pss_nil)
      (pss_cons (ps_if (PW.pt (pw_and (pt_cmpR op_eq (pv 0) pe_str (nomark _)) (pw_and1 (pt_cmpR op_in_seq (pv 1) (pe_tup (pa_cons (pe_glob rfl T.c_UP T.r_UP) (pa_cons (pe_glob rfl T.c_DOWN T.r_DOWN) pa_nil))) rfl))))
      (pss_one (ps_ret (pv 1)))
      pss_nil)
      (pss_cons (ps_if (PW.pt (pw_and (pt_cmpR op_eq (pv 0) pe_str (nomark _)) (pw_and1 (pt_val (pe_call (ok_p_is_word T TB) (hr.mono (by decide)) rfl T.g_p_is_word T.F_p_is_word.kp T.b_p_is_word .nil pass0 (pa_cons (pv 1) pa_nil))))))
      (pss_one (ps_ret (pv 1)))
      pss_nil)
      (pss_one (ps_raise rfl (takes_of rfl rfl rfl rfl) (pmk_own PySem.F.excBase_ValueError T.x_BadLine T.g_BadLine T.k_BadLine (raises_own T.b_BadLine T.t_BadLine) rfl)))))), ?_⟩
    cases hf with
    | num n h =>
      refine ⟨_, rfl, rfl, _, rfl, iteTo (decide_eq_true rfl) ⟨_, rfl, _, rfl, by omega, hN, fun H1 k1 => ⟨_, rfl, iteTo (isN_num h) ?_⟩⟩⟩
      have hs := num_small h
      exact ⟨_, rfl, _, _, rfl, TL.int_num (by omega), by omega, q H1 k1⟩
    | way t h =>
      refine ⟨_, rfl, rfl, _, rfl, iteFo (by decide +kernel) ⟨_, rfl, rfl, _, rfl, iteTo (decide_eq_true rfl) ?_⟩⟩
      refine ⟨_, rfl, szl (by show 2 ≤ 100000; decide), fun p1 n1 => ?_⟩
      generalize h_H1 : upd H p1 _ = H1
      have k_H1 : Kp H H1 := by rw [← h_H1]; exact .new n1
      have q_H1 := (congrFun h_H1 p1).symm.trans upd_same
      clear h_H1
      exact ⟨p1, _, rfl, .inr (.inl (.inl q_H1)), rfl, rfl, _, rfl, iteTo (by rcases h with rfl | rfl <;> decide +kernel) ⟨_, rfl, q H1 k_H1⟩⟩
    | word t h =>
      refine ⟨_, rfl, rfl, _, rfl, iteFo (by decide +kernel) ⟨_, rfl, rfl, _, rfl, iteFo (by decide +kernel) ⟨_, rfl, rfl, _, rfl, iteTo (decide_eq_true rfl) ⟨_, rfl, t, rfl, (by have z : t.length ≤ 12 := hlen; omega), hT, fun H1 k1 => ⟨_, rfl, iteTo h ?_⟩⟩⟩⟩⟩
      exact ⟨_, rfl, q H1 k1⟩
/-! ### a deed's text -/
theorem sum_parts : ∀ ys : List Str, (∀ y ∈ ys, y.length ≤ 12) → (ys.map (·.length)).sum ≤ 12 * ys.length
  | [], _ => by simp
  | y :: r, h => by
    have h1 := h y List.mem_cons_self
    have h2 := sum_parts r fun z hz => h z (List.mem_cons_of_mem _ hz)
    simp only [List.map_cons, List.sum_cons, List.length_cons]
    omega
theorem join_fits {xs : List V} (h : ∀ x ∈ xs, Part x) (hl : xs.length ≤ 20) : ((xs.map tx).map (·.length)).sum + (xs.map tx).length * (Str.ofString " ").length ≤ 16777216 := by
  have h1 := sum_parts (xs.map tx) fun y hy => by
    obtain ⟨x, hx, rfl⟩ := List.mem_map.mp hy
    exact (h x hx).len
  have e : (Str.ofString " ").length = 1 := by decide +kernel
  rw [e]
  rw [List.length_map] at *
  omega
def sp_p_deed_text (K : PySem.W.Frag) : Sp := fun vs H Q _ => ∃ (a : Addr) (xs : List V), vs = [.ref a] ∧ SqT K H a xs ∧ xs.length ≤ 20 ∧ (∀ x ∈ xs, Part x) ∧ ∀ H', Kp H H' → Q (.str (Txt.join " " (xs.map tx))) H'
theorem ok_p_deed_text (T : Txt K mg) : FnOk P w K mg base CX0 2 T.f_p_deed_text T.d_p_deed_text ["deed"] (sp_p_deed_text K) := by
  refine T.F_p_deed_text.ok sc_p_deed_text (fun vs H Q E h => ?_) (fun cdv A outer s H vs Q E hr h => ?_)
  · obtain ⟨a, xs, rfl, _⟩ := h
    rfl
  · obtain ⟨a, xs, rfl, hS, hl, hp, k⟩ := h
    refine ⟨_, (pss_one (ps_ret (pe_join pe_str (pe_lc (own := [("part", 1)]) (g := gName 1) (tt := tYes) (by rfl) sc_p_deed_text.nd (pi_tup (pv 0)) (blkOk_by (own := [("part", 1)]) (N := ["deed", "part"]) (sc := defScope s_p_deed_text) (by decide +kernel)) (fun _ _ _ _ _ => (pg_name (i := 1) sc_p_deed_text.nd rfl (by first | exact Or.inl rfl | exact Or.inr rfl))) (fun _ _ _ _ _ => pts_nil) (fun _ _ _ _ _ => (pe_callTy call_strA (by rfl) T.m_str (by decide +kernel) (pa_cons (pv 1) pa_nil))))))), ?_⟩
    refine ⟨⟨_, rfl⟩, _, rfl, a, rfl, ⟨_, hS⟩, fun D hD => ?_⟩
    refine lc_tup (K := K) (a := a) (xs := xs) (fun i H' => Kp H H' ∧ H' D = some (.lst (((xs.take i).map tx).map V.str))) ⟨Kp.new hD, upd_same⟩ (fun i H' _ ⟨kp, _⟩ => kp.sqT hS) (fun i x H' hi ⟨kp, hs⟩ => ?_) (fun H' ⟨kp, hs⟩ => ?_)
    · have hil := (List.getElem?_eq_some_iff.mp hi).1
      have hx := hp x (List.mem_of_getElem? hi)
      have acc : ∀ y : V, y = .str (tx x) → Kp H (upd H' D (.lst (((xs.take i).map tx).map V.str ++ [y]))) ∧ upd H' D (.lst (((xs.take i).map tx).map V.str ++ [y])) D = some (.lst (((xs.take (i + 1)).map tx).map V.str)) := by
        rintro y rfl
        refine ⟨kp.mut hD, ?_⟩
        rw [upd_same, List.take_add_one, hi]
        simp
      refine ⟨rfl, _, rfl, ?_⟩
      have hz : (((xs.take i).map tx).map V.str).length < sizeLine := szt (by rw [List.length_map, List.length_map, List.length_take]; omega)
      rcases hx with ⟨n, hn, rfl⟩ | ⟨t, rfl, ht⟩
      · exact .inl ⟨_, rfl, log_ok hn, _, hs, hz, acc _ rfl⟩
      · exact .inr ⟨_, rfl, _, hs, hz, acc _ rfl⟩
    · rw [List.take_length] at hs
      exact ⟨_, D, xs.map tx, rfl, rfl, .inl (.inl (.inl hs)), join_fits hp hl, k _ kp⟩
/-! ### the parts read -/
def FitAll (ks : List Str) (xs : List V) : Prop := ks.length = xs.length ∧ ∀ (i : Nat) (k : Str) (x : V), ks[i]? = some k → xs[i]? = some x → Fit k x
def sp_p_read_parts (K : PySem.W.Frag) (P PN : Addr) : Sp := fun vs H Q _ => ∃ (a b : Addr) (ks : List Str) (xs : List V), vs = [.ref a, .ref b] ∧ SqT K H a (ks.map V.str) ∧ SqL K H b ((xs.map tx).map V.str) ∧ FitAll ks xs ∧ xs.length ≤ 20 ∧
  GxR.TabG H P ∧ GxR.TabG H PN ∧ ∀ (r : Addr) (H' : Hp), H r = none → Kp H H' → H' r = some (.lst xs) → Q (.ref r) H'
theorem ok_p_read_parts (T : Txt K mg) (TB : GxR.TabB base mg T.c_tab T.P_tab) (TBN : GxR.TabB base mg T.c_tabN T.P_tabN) : FnOk P w K mg base (L2.CX P w) 5 T.f_p_read_parts T.d_p_read_parts ["kinds", "texts"] (sp_p_read_parts K T.P_tab T.P_tabN) := by
  refine T.F_p_read_parts.okX sc_p_read_parts (fun vs H Q E h => ?_) (fun cdv A outer s H vs Q E hr h => ?_)
  · obtain ⟨a, b, ks, xs, rfl, _⟩ := h
    rfl
  · obtain ⟨a, b, ks, xs, rfl, hA, hB, hF, hl, hT, hN, k⟩ := h
    refine ⟨_, (pss_cons (ps_if (pt_cmpR op_ne (pe_callB call_len_seq (by rfl) T.m_len PySem.boot_len (pa_cons (pv 1) pa_nil)) (pe_callB call_len_seq (by rfl) T.m_len PySem.boot_len (pa_cons (pv 0) pa_nil)) (nomark _))
      (pss_one (ps_raise rfl (takes_of rfl rfl rfl rfl) (pmk_own PySem.F.excBase_ValueError T.x_BadLine T.g_BadLine T.k_BadLine (raises_own T.b_BadLine T.t_BadLine) rfl)))
      pss_nil)
      (pss_one (ps_ret (pe_lc (own := [("kind", 2), ("text", 3)]) (tt := tYes) (by rfl) sc_p_read_parts.nd (pi_zipM (by rfl) T.m_zip (pa_cons (pv 0) (pa_cons (pv 1) pa_nil))) (blkOk_by (own := [("kind", 2), ("text", 3)]) (N := ["kinds", "texts", "kind", "text"]) (sc := defScope s_p_read_parts) (by decide +kernel)) (fun _ _ _ _ _ => (pgK K rfl (pg_tup (n := 2) rfl (pgs_cons (pg_name (i := 2) sc_p_read_parts.nd rfl (by first | exact Or.inl rfl | exact Or.inr rfl)) (pgs_cons (pg_name (i := 3) sc_p_read_parts.nd rfl (by first | exact Or.inl rfl | exact Or.inr rfl)) pgs_nil))))) (fun _ _ _ _ _ => pts_nil) (fun _ _ _ _ _ => (pe_call (ok_p_read_part T TB TBN) (hr.mono (by decide)) rfl T.g_p_read_part T.F_p_read_part.kp T.b_p_read_part .nil passL (pa_cons (pv 2) (pa_cons (pv 3) pa_nil)))))))), ?_⟩
    have hlen : (((xs.map tx).map V.str).length : Int) = ((ks.map V.str).length : Int) := by rw [List.length_map, List.length_map, List.length_map, hF.1]
    refine ⟨_, rfl, b, _, rfl, .inl hB, _, rfl, a, _, rfl, .inr hA, rfl, _, rfl, iteFo (by rw [hlen]; simp) ?_⟩
    refine ⟨_, rfl, _, rfl, a, b, _, _, rfl, hA, hB, fun D hD => ?_⟩
    refine lc_it (walk_mix (K := K) (a := a) (b := b) (xs := ks.map V.str) (ys := (xs.map tx).map V.str) (by rw [List.length_map, List.length_map, List.length_map, hF.1])) (fun i H' => Kp H H' ∧ H' D = some (.lst (xs.take i)))
      ⟨Kp.new hD, upd_same⟩ (fun i H' _ ⟨kp, _⟩ => ⟨kp.sqT hA, kp.sqL hB⟩) ?_ ?_
    · rintro i v H' H'' hi ⟨kp, hs⟩ ⟨t, u, z, rfl, nt, rfl, eu, ez⟩
      rw [List.length_map] at hi
      have eu : (ks.map V.str)[i]? = some u := eu
      have ez : ((xs.map tx).map V.str)[i]? = some z := ez
      have hi2 : i < xs.length := by rw [← hF.1]; exact hi
      have g1 : ks[i]? = some ks[i] := List.getElem?_eq_getElem hi
      have g2 : xs[i]? = some xs[i] := List.getElem?_eq_getElem hi2
      rw [List.getElem?_map, g1] at eu
      rw [List.getElem?_map, List.getElem?_map, g2] at ez
      cases Option.some.inj eu
      cases Option.some.inj ez
      have k1 : Kp H' (upd H' t (.tup [V.str ks[i], V.str (tx xs[i])])) := .new nt
      refine ⟨t, _, rfl, .inl (.inl upd_same), rfl, _, _, rfl, _, _, rfl, rfl, ?_⟩
      refine ⟨rfl, ?_⟩
      refine ⟨_, rfl, _, rfl, ks[i], xs[i], rfl, hF.2 i _ _ g1 g2, k1.tab _ (kp.tab _ hT), k1.tab _ (kp.tab _ hN), fun H3 k3 => ?_⟩
      refine ⟨xs.take i, k3.same _ _ rfl (k1.same _ _ rfl hs), szt (by rw [List.length_take]; omega), ((kp.trans k1).trans k3).mut hD, ?_⟩
      rw [upd_same, List.take_add_one, g2]
      rfl
    · rintro H' ⟨kp, hs⟩
      rw [List.length_map, hF.1, List.take_length] at hs
      exact k D H' hD kp hs
/-! ### a deed read -/
def WL : List Str := ["send", "express", "say"]
def DeedOk (K : PySem.W.Frag) (A : Addr) (name : Str) (xs : List V) : Prop := ∃ ks0 : List Str, PartK K A name ks0 ∧ 32 ∉ name.cps.toList ∧ name.length ≤ 12 ∧ xs.length ≤ 12 ∧
  ((inV (.str name) (WL.map V.str) = true ∧ ∃ k1 k2, ks0 = [k1, k2] ∧ 2 ≤ xs.length ∧ FitAll ([k1, k2] ++ List.replicate (xs.length - 2) k2) xs) ∨ (inV (.str name) (WL.map V.str) = false ∧ FitAll ks0 xs))
theorem FitAll.parts {ks : List Str} {xs : List V} (h : FitAll ks xs) : ∀ x ∈ xs, Part x ∧ 32 ∉ (tx x).cps.toList := by
  intro x hx
  obtain ⟨i, hi⟩ := List.getElem?_of_mem hx
  have hl := (List.getElem?_eq_some_iff.mp hi).1
  have := h.2 i (ks[i]'(by rw [h.1]; exact hl)) x (List.getElem?_eq_getElem _) hi
  exact ⟨this.part, this.free⟩
theorem DeedOk.parts {K : PySem.W.Frag} {A : Addr} {name : Str} {xs : List V} (h : DeedOk K A name xs) : ∀ x ∈ V.str name :: xs, Part x ∧ 32 ∉ (tx x).cps.toList := by
  obtain ⟨ks0, _, hb, hn, hl, h⟩ := h
  intro x hx
  rcases List.mem_cons.mp hx with rfl | hx
  · exact ⟨.inr ⟨name, rfl, hn⟩, hb⟩
  · rcases h with ⟨_, k1, k2, _, _, h⟩ | ⟨_, h⟩
    · exact h.parts x hx
    · exact h.parts x hx
theorem split_deed {K : PySem.W.Frag} {A : Addr} {name : Str} {xs : List V} (h : DeedOk K A name xs) : Txt.split (Txt.join " " ((V.str name :: xs).map tx)) " " = (V.str name :: xs).map tx := by
  refine TL.split_join (s := 32) (S := []) (by decide +kernel) (by decide +kernel) (by simp) fun p hp => ?_
  obtain ⟨x, hx, rfl⟩ := List.mem_map.mp hp
  exact (h.parts x hx).2
theorem join_short {K : PySem.W.Frag} {A : Addr} {name : Str} {xs : List V} (h : DeedOk K A name xs) : (Txt.join " " ((V.str name :: xs).map tx)).length + 2 ≤ sizeLine := by
  have hl : xs.length ≤ 12 := by obtain ⟨_, _, _, _, hl, _⟩ := h; exact hl
  have h1 := sum_parts ((V.str name :: xs).map tx) fun y hy => by
    obtain ⟨x, hx, rfl⟩ := List.mem_map.mp hy
    exact (h.parts x hx).1.len
  have h2 := StrLaws.join_length_le " " ((V.str name :: xs).map tx)
  have e : (Str.ofString " ").length = 1 := by decide +kernel
  rw [e] at h2
  rw [TL.join_eq]
  rw [List.length_map, List.length_cons] at *
  have : (Str.join " " ((V.str name :: xs).map tx)).length + 2 ≤ 100000 := by omega
  exact szl this
def sp_p_read_deed (K : PySem.W.Frag) (A P PN : Addr) : Sp := fun vs H Q _ => ∃ (name : Str) (xs : List V), vs = [.str (Txt.join " " ((V.str name :: xs).map tx))] ∧ DeedOk K A name xs ∧ GxR.TabG H P ∧ GxR.TabG H PN ∧
  ∀ (r : Addr) (H' : Hp), H r = none → Kp H H' → H' r = some (.tup (.str name :: xs)) → Q (.ref r) H'
theorem ok_p_read_deed (T : Txt K mg) (TB : GxR.TabB base mg T.c_tab T.P_tab) (TBN : GxR.TabB base mg T.c_tabN T.P_tabN) (D : KDict K w T.a_PARTS T.es_PARTS T.n_PARTS) : FnOk P w K mg base (L2.CX P w) 6 T.f_p_read_deed T.d_p_read_deed ["text"] (sp_p_read_deed K T.a_PARTS T.P_tab T.P_tabN) := by
  refine T.F_p_read_deed.okX sc_p_read_deed (fun vs H Q E h => ?_) (fun cdv A outer s H vs Q E hr h => ?_)
  · obtain ⟨name, xs, rfl, _⟩ := h
    rfl
  · obtain ⟨name, xs, rfl, hd, hT, hN, k⟩ := h
    refine ⟨_, (pss_cons (ps_asg (pe_split (pv 0) pe_str) (pg_star1 rfl (pgs_cons (pg_name (i := 1) sc_p_read_deed.nd rfl (by first | exact Or.inl rfl | exact Or.inr rfl)) (pgs_cons (pg_name (i := 2) sc_p_read_deed.nd rfl (by first | exact Or.inl rfl | exact Or.inr rfl)) pgs_nil))))
      (pss_cons (ps_if (pt_cmpR (op_notIn_kd D) (pv 1) (pe_glob (v := .ref T.a_PARTS) rfl T.c_PARTS rfl) rfl)
      (pss_one (ps_raise rfl (takes_of rfl rfl rfl rfl) (pmk_own PySem.F.excBase_ValueError T.x_BadLine T.g_BadLine T.k_BadLine (raises_own T.b_BadLine T.t_BadLine) rfl)))
      pss_nil)
      (pss_cons (ps_set (i := 3) sc_p_read_deed.nd rfl (by first | exact Or.inl rfl | exact Or.inr rfl) (pe_ix ix_kdict (pe_glob (v := .ref T.a_PARTS) rfl T.c_PARTS rfl) (pv 1) (fun _ _ => rfl)))
      (Evl.pss_cut (ps_if (pt_cmpR op_in_seq (pv 1) (pe_glob (v := .ref T.a_WITH_LISTS) rfl T.c_WITH_LISTS rfl) rfl)
      (pss_one (ps_set (i := 3) sc_p_read_deed.nd rfl (by first | exact Or.inl rfl | exact Or.inr rfl) (pe_op op_catT (pv 3) (pe_op op_repA (pe_slice sl_tup (pv 3) (po_some (pe_un un_neg pe_int)) po_none) (pe_op op_sub (pe_callB call_len_seq (by rfl) T.m_len PySem.boot_len (pa_cons (pv 2) pa_nil)) (pe_callB call_len_seq (by rfl) T.m_len PySem.boot_len (pa_cons (pv 3) pa_nil)))))))
      pss_nil)
      (pss_cons (ps_set (i := 4) sc_p_read_deed.nd rfl (by first | exact Or.inl rfl | exact Or.inr rfl) (pe_call (ok_p_read_parts T TB TBN) (hr.mono (by decide)) rfl T.g_p_read_parts T.F_p_read_parts.kp T.b_p_read_parts .nil (passes_call (takes_of rfl rfl rfl rfl) (fun _ _ _ _ z => z)) (pa_cons (pv 3) (pa_cons (pv 2) pa_nil))))
      (pss_one (ps_ret (pe_tup (pa_cons (pv 1) (StX.pa_star (pv 4) pa_nil)))))))))), ?_⟩
    have hsp := split_deed hd
    have hsh := join_short hd
    obtain ⟨ks0, ⟨pk, hns, hpk⟩, _, _, hl, hd⟩ := hd
    refine ⟨_, rfl, ⟨_, rfl⟩, _, _, rfl, rfl, by decide +kernel, hsh, fun p1 n1 => ?_⟩
    rw [hsp]
    generalize h_H1 : upd H p1 _ = H1
    have k_H1 : Kp H H1 := by rw [← h_H1]; exact .new n1
    have q_H1 := (congrFun h_H1 p1).symm.trans upd_same
    clear h_H1
    refine ⟨p1, .str name, (xs.map tx).map V.str, rfl, .inl (.inl q_H1), fun p2 n2 => ?_⟩
    generalize h_H2 : upd H1 p2 _ = H2
    have k_H2 : Kp H1 H2 := by rw [← h_H2]; exact .new n2
    have q_H2 := (congrFun h_H2 p2).symm.trans upd_same
    clear h_H2
    refine ⟨_, _, rfl, _, _, rfl, rfl, ?_⟩
    refine ⟨_, rfl, name, _, rfl, rfl, hns, _, rfl, iteFo rfl ?_⟩
    refine ⟨_, rfl, T.a_PARTS, name, .ref pk, rfl, rfl, ⟨_, _, _, D.at_, D.lit, hns, rfl⟩, ?_⟩
    have kp2 := k_H1.trans k_H2
    refine ⟨fun σ H' => ∃ (q : Addr) (ks : List Str), σ = [some (.str (Txt.join " " ((V.str name :: xs).map tx))), some (.str name), some (.ref p2), some (.ref q), none] ∧ Kp H2 H' ∧ SqT K H' q (ks.map V.str) ∧ FitAll ks xs, ?_, ?_⟩
    · refine ⟨_, rfl, T.a_WITH_LISTS, _, rfl, .inr T.t_WITH_LISTS.sq, rfl, rfl, _, rfl, iteB (fun c => ?_) (fun c => ?_)⟩
      · rcases hd with ⟨_, k1, k2, rfl, h2, hF⟩ | ⟨c', _⟩
        · refine ⟨_, rfl, _, rfl, _, rfl, _, rfl, pk, _, rfl, hpk.sq, fun z => absurd z.1 (by show ((-1 : Int) + 2).toNat ≠ 0; decide), fun p3 n3 => ?_⟩
          generalize h_H3 : upd H2 p3 _ = H3
          have k_H3 : Kp H2 H3 := by rw [← h_H3]; exact .new n3
          have q_H3 := (congrFun h_H3 p3).symm.trans upd_same
          clear h_H3
          have q3 : H3 p3 = some (.tup [V.str k2]) := q_H3
          have hkz : (((xs.map tx).map V.str).length : Int) - (([k1, k2].map V.str).length : Int) = ((xs.length - 2 : Nat) : Int) := by
            rw [List.length_map, List.length_map]
            show (xs.length : Int) - 2 = _
            omega
          have fin : ∀ (q : Addr) (H4 : Hp), Kp H2 H4 → SqT K H4 q (([k1, k2] ++ List.replicate (xs.length - 2) k2).map V.str) → ∃ (q' : Addr) (ks : List Str), [some (V.str (Txt.join " " ((V.str name :: xs).map tx))), some (.str name), some (.ref p2), some (.ref q), none] = [some (.str (Txt.join " " ((V.str name :: xs).map tx))), some (.str name), some (.ref p2), some (.ref q'), none] ∧ Kp H2 H4 ∧ SqT K H4 q' (ks.map V.str) ∧ FitAll ks xs :=
            fun q H4 k4 h4 => ⟨q, _, rfl, k4, h4, hF⟩
          refine ⟨_, rfl, p2, _, rfl, .inl (.inl (.inl (k_H3.same _ _ rfl q_H2))), _, rfl, pk, _, rfl, .inr hpk.sq, _, _, rfl, rfl, p3, _, _, rfl, rfl, .inl (.inl q3), by simp, ?_, ?_, by show 1 ≤ 1000; decide, fun e1 => ?_, fun e1 p4 n4 => ?_⟩
          · try dsimp only
            rw [hkz]
            omega
          · try dsimp only
            rw [hkz]
            omega
          · try dsimp only at e1
            rw [hkz] at e1
            have e2 : xs.length - 2 = 1 := by omega
            refine ⟨pk, p3, _, _, rfl, rfl, hpk.sq, .inl (.inl q3), by simp, szl (by show 3 ≤ 100000; decide), fun z => absurd z (by simp), fun _ p5 n5 => ?_⟩
            refine fin p5 _ (k_H3.mut (k_H3.free _ n5)) (.inl (.inl ?_))
            rw [upd_same, e2]
            rfl
          · dsimp only at e1 n4 ⊢
            rw [hkz] at e1
            rw [hkz, Int.toNat_natCast]
            generalize h_H4 : upd H3 p4 _ = H4
            have k_H4 : Kp H3 H4 := by rw [← h_H4]; exact .new n4
            have q_H4 := (congrFun h_H4 p4).symm.trans upd_same
            clear h_H4
            have er : ∀ n : Nat, (List.replicate n [V.str k2]).flatten = (List.replicate n k2).map V.str := fun n => by
              induction n with
              | zero => rfl
              | succ n ih => rw [List.replicate_succ, List.flatten_cons, ih]; rfl
            rw [er] at q_H4
            have k4 := k_H3.trans k_H4
            refine ⟨pk, p4, _, _, rfl, rfl, hpk.sq, .inl (.inl q_H4), by simp, szl (by rw [List.length_map, List.length_map, List.length_replicate]; show 2 + _ ≤ 100000; omega), fun z => ?_, fun _ p5 n5 => ?_⟩
            · have e2 : xs.length - 2 = 0 := by
                have := congrArg List.length z
                rw [List.length_map, List.length_replicate] at this
                exact this
              refine fin pk H4 k4 ?_
              rw [e2]
              exact hpk.sq
            · refine fin p5 _ (k4.mut (k4.free _ n5)) (.inl (.inl ?_))
              rw [upd_same, List.map_append]
        · exact absurd (c.symm.trans c') (by decide)
      · rcases hd with ⟨c', _⟩ | ⟨_, hF⟩
        · exact absurd (c.symm.trans c') (by decide)
        · exact ⟨pk, ks0, rfl, .refl _, hpk.sq, hF⟩
    · rintro σ H' ⟨q, ks, rfl, kp, hS, hF⟩
      refine ⟨_, rfl, _, rfl, q, p2, ks, xs, rfl, hS, .inl (.inl (kp.same _ _ rfl q_H2)), hF, by omega, kp.tab _ (kp2.tab _ hT), kp.tab _ (kp2.tab _ hN), fun r H3 nr k3 q3 => ?_⟩
      refine ⟨_, rfl, _, rfl, r, xs, rfl, .inr (.inl (.inl q3)), szl (by simp; omega), fun p4 n4 => ?_⟩
      have kp3 := (kp2.trans kp).trans k3
      refine k p4 _ (kp3.free _ n4) (kp3.mut (kp3.free _ n4)) ?_
      rw [upd_same, List.append_nil]
/-! ### any deed -/
theorem fit_nil : FitAll [] [] := ⟨rfl, fun i k x h => by simp at h⟩
theorem FitAll.cons {k : Str} {x : V} {ks : List Str} {xs : List V} (h : Fit k x) (hs : FitAll ks xs) : FitAll (k :: ks) (x :: xs) := by
  refine ⟨by simp [hs.1], fun i k' x' e1 e2 => ?_⟩
  cases i with
  | zero =>
    cases Option.some.inj e1
    cases Option.some.inj e2
    exact h
  | succ i => exact hs.2 i k' x' (by simpa using e1) (by simpa using e2)
theorem fit_int {z : Int} (h0 : 0 ≤ z) (h1 : z ≤ 999999) : Fit "number" (.int z) := by
  have := Fit.num z.toNat (by omega)
  rw [Int.toNat_of_nonneg h0] at this
  exact this
theorem fit_ints : ∀ zs : List Int, (∀ z ∈ zs, 0 ≤ z ∧ z ≤ 999999) → FitAll (List.replicate zs.length "number") (zs.map V.int)
  | [], _ => fit_nil
  | z :: r, h => .cons (fit_int (h z List.mem_cons_self).1 (h z List.mem_cons_self).2) (fit_ints r fun y hy => h y (List.mem_cons_of_mem _ hy))
theorem fit_words : ∀ ws : List Str, (∀ t ∈ ws, isW t = true) → FitAll (List.replicate ws.length "word") (ws.map V.str)
  | [], _ => fit_nil
  | t :: r, h => .cons (.word t (h t List.mem_cons_self)) (fit_words r fun y hy => h y (List.mem_cons_of_mem _ hy))
def W21 : List Str := ["send", "express", "say", "recall", "act", "slip", "doze", "wake", "fog", "lift", "beat", "settle", "turn", "lose", "burn", "ask", "enter", "strike", "send", "say", "slip"]
theorem at_21 (n : Int) : ∃ t ∈ W21, atI (W21.map V.str) (n % 21) = some (.str t) := by
  have h0 : 0 ≤ n % 21 := Int.emod_nonneg _ (by decide)
  have h1 : n % 21 < 21 := Int.emod_lt_of_pos _ (by decide)
  have hj : (n % 21).toNat < W21.length := by
    show (n % 21).toNat < 21
    omega
  refine ⟨W21[(n % 21).toNat], List.getElem_mem _, ?_⟩
  have e := atI_nat (xs := W21.map V.str) (j := (n % 21).toNat) (v := .str W21[(n % 21).toNat]) (by rw [List.getElem?_map, List.getElem?_eq_getElem hj]; rfl)
  rw [Int.toNat_of_nonneg h0] at e
  exact e
theorem at_2 (n : Int) : ∃ t : Str, (t = "up" ∨ t = "down") ∧ atI ([Str.ofString "up", Str.ofString "down"].map V.str) (n % 2) = some (.str t) := by
  have h0 : 0 ≤ n % 2 := Int.emod_nonneg _ (by decide)
  have h1 : n % 2 < 2 := Int.emod_lt_of_pos _ (by decide)
  have : n % 2 = 0 ∨ n % 2 = 1 := by omega
  rcases this with e | e
  · rw [e]
    exact ⟨"up", .inl rfl, rfl⟩
  · rw [e]
    exact ⟨"down", .inr rfl, rfl⟩
theorem at_6 {z : Int} (h0 : 0 ≤ z) (h1 : z < 9240) : ∃ v : Int, (0 ≤ v ∧ v ≤ 999999) ∧ atI [V.int (z % 100), V.int (z % 10), V.int (999999 - z), V.int (z * 108), V.int 0, V.int 999999] (z / 100 % 6) = some (.int v) := by
  have a0 : 0 ≤ z / 100 % 6 := Int.emod_nonneg _ (by decide)
  have a1 : z / 100 % 6 < 6 := Int.emod_lt_of_pos _ (by decide)
  have : z / 100 % 6 = 0 ∨ z / 100 % 6 = 1 ∨ z / 100 % 6 = 2 ∨ z / 100 % 6 = 3 ∨ z / 100 % 6 = 4 ∨ z / 100 % 6 = 5 := by omega
  rcases this with e | e | e | e | e | e <;> rw [e]
  · exact ⟨z % 100, by omega, rfl⟩
  · exact ⟨z % 10, by omega, rfl⟩
  · exact ⟨999999 - z, by omega, rfl⟩
  · exact ⟨z * 108, by omega, rfl⟩
  · exact ⟨0, by omega, rfl⟩
  · exact ⟨999999, by omega, rfl⟩
theorem name_ok : ∀ t ∈ W21, 32 ∉ t.cps.toList ∧ t.length ≤ 12 := by decide +kernel
theorem cut_mid {ns : List Int} {i j : Nat} (h : i ≤ j) (hj : j ≤ ns.length) : cutV (ns.map V.int) (some (i : Int)) (some (j : Int)) = ((ns.drop i).take (j - i)).map V.int := by
  unfold cutV
  rw [List.length_map, HT.sIx_nat, HT.sIx_nat, Nat.min_eq_left hj, Nat.min_eq_left (by omega), List.map_take, List.map_drop]
theorem cut_to {ns : List Int} {i : Nat} : cutV (ns.map V.int) none (some (i : Int)) = (ns.take i).map V.int := by
  unfold cutV
  rw [List.length_map]
  have e1 : HT.sIx ns.length 0 none = 0 := rfl
  rw [e1, HT.sIx_nat, List.drop_zero, Nat.sub_zero, List.map_take]
  by_cases c : i ≤ ns.length
  · rw [Nat.min_eq_left c]
  · rw [Nat.min_eq_right (by omega), List.take_of_length_le (by rw [List.length_map]; omega), List.take_of_length_le (by rw [List.length_map]; omega)]
theorem n_se : ∀ t ∈ W21, inV (.str t) [.str "send", .str "express"] = true → t = "send" ∨ t = "express" := by decide +kernel
theorem n_la : ∀ t ∈ W21, inV (.str t) [.str "lose", .str "ask"] = true → t = "lose" ∨ t = "ask" := by decide +kernel
theorem n_bst : ∀ t ∈ W21, inV (.str t) [.str "beat", .str "settle", .str "turn"] = true → t = "beat" ∨ t = "settle" ∨ t = "turn" := by decide +kernel
theorem n_rest : ∀ t ∈ W21, inV (.str t) [.str "send", .str "express"] = false → ¬ V.str t = V.str "say" → ¬ V.str t = V.str "recall" → inV (.str t) [.str "lose", .str "ask"] = false → ¬ V.str t = V.str "enter" → ¬ V.str t = V.str "strike" → ¬ V.str t = V.str "slip" →
    inV (.str t) [.str "beat", .str "settle", .str "turn"] = false → t = "act" ∨ t = "doze" ∨ t = "wake" ∨ t = "fog" ∨ t = "lift" ∨ t = "burn" := by decide +kernel
theorem fit_send {way : Str} (hw : way = "up" ∨ way = "down") : ∀ {zs : List Int}, 1 ≤ zs.length → (∀ z ∈ zs, 0 ≤ z ∧ z ≤ 999999) → FitAll ([Str.ofString "way", Str.ofString "number"] ++ List.replicate ((V.str way :: zs.map V.int).length - 2) (Str.ofString "number")) (V.str way :: zs.map V.int)
  | [], h, _ => absurd h (by simp)
  | z :: r, _, h => by
    have e : (V.str way :: (z :: r).map V.int).length - 2 = r.length := by simp
    rw [e]
    exact .cons (.way way hw) (.cons (fit_int (h z List.mem_cons_self).1 (h z List.mem_cons_self).2) (fit_ints r fun y hy => h y (List.mem_cons_of_mem _ hy)))
theorem fit_say {way : Str} (hw : way = "up" ∨ way = "down") : ∀ {ws : List Str}, 1 ≤ ws.length → (∀ t ∈ ws, isW t = true) → FitAll ([Str.ofString "way", Str.ofString "word"] ++ List.replicate ((V.str way :: ws.map V.str).length - 2) (Str.ofString "word")) (V.str way :: ws.map V.str)
  | [], h, _ => absurd h (by simp)
  | t :: r, _, h => by
    have e : (V.str way :: (t :: r).map V.str).length - 2 = r.length := by simp
    rw [e]
    exact .cons (.way way hw) (.cons (.word t (h t List.mem_cons_self)) (fit_words r fun y hy => h y (List.mem_cons_of_mem _ hy)))
theorem deed_plain {K : PySem.W.Frag} {A : Addr} {name : Str} {ks : List Str} {xs : List V} (hp : PartK K A name ks) (hn : name ∈ W21) (hl : xs.length ≤ 12) (hw : inV (.str name) (WL.map V.str) = false) (hf : FitAll ks xs) : DeedOk K A name xs :=
  ⟨ks, hp, (name_ok name hn).1, (name_ok name hn).2, hl, .inr ⟨hw, hf⟩⟩
def sp_l_any_deed (K : PySem.W.Frag) (A : Addr) : Sp := fun vs H Q _ => ∃ c : Int, vs = [.int c] ∧ ∀ (name : Str) (xs : List V) (r : Addr) (H' : Hp), H r = none → Kp H H' → H' r = some (.tup (.str name :: xs)) → DeedOk K A name xs → Q (.ref r) H'
theorem ok_l_any_deed (T : Txt K mg) : FnOk P w K mg base CX0 3 T.f_l_any_deed T.d_l_any_deed ["_law_cell_here"] (sp_l_any_deed K T.a_PARTS) := by
  refine T.F_l_any_deed.ok sc_l_any_deed (fun vs H Q E h => ?_) (fun cdv A outer s H vs Q E hr h => ?_)
  · obtain ⟨c, rfl, _⟩ := h
    rfl
  · obtain ⟨c, rfl, k⟩ := h
    refine ⟨_, (pss_cons (ps_set (i := 1) sc_l_any_deed.nd rfl (by first | exact Or.inl rfl | exact Or.inr rfl) (pe_call (ok_l_row T) (hr.mono (by decide)) rfl T.g_l_row T.F_l_row.kp T.b_l_row .nil pass0 (pa_cons (pv 0) (pa_cons pe_int (pa_cons pe_int pa_nil)))))
      (pss_cons (ps_set (i := 2) sc_l_any_deed.nd rfl (by first | exact Or.inl rfl | exact Or.inr rfl) (pe_lst (pa_cons pe_str (pa_cons pe_str (pa_cons pe_str (pa_cons pe_str (pa_cons pe_str (pa_cons pe_str (pa_cons pe_str (pa_cons pe_str (pa_cons pe_str (pa_cons pe_str (pa_cons pe_str (pa_cons pe_str pa_nil))))))))))))))
      (pss_cons (ps_set (i := 2) sc_l_any_deed.nd rfl (by first | exact Or.inl rfl | exact Or.inr rfl) (pe_op op_cat (pv 2) (pe_lst (pa_cons pe_str (pa_cons pe_str (pa_cons pe_str (pa_cons pe_str (pa_cons pe_str (pa_cons pe_str (pa_cons pe_str (pa_cons pe_str (pa_cons pe_str pa_nil))))))))))))
      (pss_cons (ps_set (i := 3) sc_l_any_deed.nd rfl (by first | exact Or.inl rfl | exact Or.inr rfl) (pe_ix ix_list (pv 2) (pe_op op_mod (pe_ix ix_list (pv 1) pe_int (fun _ _ => rfl)) pe_int) (fun _ _ => rfl)))
      (pss_cons (ps_set (i := 4) sc_l_any_deed.nd rfl (by first | exact Or.inl rfl | exact Or.inr rfl) (pe_lst pa_nil))
      (pss_cons (ps_for PassesOwn.never rfl (pi_list (pe_slice sl_list (pv 1) (po_some pe_int) (po_some pe_int))) (pg_name (i := 5) sc_l_any_deed.nd rfl (by first | exact Or.inl rfl | exact Or.inr rfl))
      (pss_one (ps_expr (pe_bm PySem.F.plainAttrs_list PySem.F.slot_list_append PySem.F.type_list_append mt_append (pv 4) (pa_cons (pe_ix ix_tup (pe_tup (pa_cons (pe_op op_mod (pv 5) pe_int) (pa_cons (pe_op op_mod (pv 5) pe_int) (pa_cons (pe_op op_sub pe_int (pv 5)) (pa_cons (pe_op op_mul (pv 5) pe_int) (pa_cons pe_int (pa_cons pe_int pa_nil))))))) (pe_op op_mod (pe_op op_fdiv (pv 5) pe_int) pe_int) (fun _ _ => rfl)) pa_nil)))))
      (Evl.pss_cut (ps_set (i := 6) sc_l_any_deed.nd rfl (by first | exact Or.inl rfl | exact Or.inr rfl) (pe_ix ix_tup (pe_tup (pa_cons pe_str (pa_cons pe_str pa_nil))) (pe_op op_mod (pe_ix ix_list (pv 1) pe_int (fun _ _ => rfl)) pe_int) (fun _ _ => rfl)))
      (pss_cons (ps_if (pt_cmpR op_in_seq (pv 3) (pe_tup (pa_cons pe_str (pa_cons pe_str pa_nil))) rfl)
      (pss_one (ps_ret (pe_op op_catT (pe_tup (pa_cons (pv 3) (pa_cons (pv 6) pa_nil))) (pe_callTy call_tuple_of (by rfl) T.m_tuple (by decide +kernel) (pa_cons (pe_slice sl_list (pv 4) po_none (po_some (pe_op op_add pe_int (pe_op op_mod (pe_ix ix_list (pv 1) pe_int (fun _ _ => rfl)) pe_int)))) pa_nil)))))
      pss_nil)
      (pss_cons (ps_if (pt_cmpR op_eq (pv 3) pe_str (nomark _))
      (pss_one (ps_ret (pe_op op_catT (pe_tup (pa_cons (pv 3) (pa_cons (pv 6) pa_nil))) (pe_callTy call_tuple_of (by rfl) T.m_tuple (by decide +kernel) (pa_cons (pe_lc (own := [("_law_num", 5)]) (g := gName 5) (tt := tYes) (by rfl) sc_l_any_deed.nd (pi_list (pe_slice sl_list (pv 1) (po_some pe_int) (po_some (pe_op op_add pe_int (pe_op op_mod (pe_ix ix_list (pv 1) pe_int (fun _ _ => rfl)) pe_int))))) (blkOk_by (own := [("_law_num", 5)]) (N := ["_law_cell_here", "_law_nums", "_law_kinds", "_law_kind", "_law_some", "_law_num", "_law_way"]) (sc := defScope s_l_any_deed) (by decide +kernel)) (fun _ _ _ _ _ => (pg_name (i := 5) sc_l_any_deed.nd rfl (by first | exact Or.inl rfl | exact Or.inr rfl))) (fun _ _ _ _ _ => pts_nil) (fun _ _ _ _ _ => (pe_call (ok_l_word T) (hr.mono (by decide)) rfl T.g_l_word T.F_l_word.kp T.b_l_word .nil pass0 (pa_cons (pv 5) pa_nil)))) pa_nil)))))
      pss_nil)
      (pss_cons (ps_if (pt_cmpR op_eq (pv 3) pe_str (nomark _))
      (pss_one (ps_ret (pe_tup (pa_cons (pv 3) (pa_cons (pv 6) pa_nil)))))
      pss_nil)
      (pss_cons (ps_if (pt_cmpR op_in_seq (pv 3) (pe_tup (pa_cons pe_str (pa_cons pe_str pa_nil))) rfl)
      (pss_one (ps_ret (pe_tup (pa_cons (pv 3) (pa_cons (pv 6) (pa_cons (pe_ix ix_list (pv 4) pe_int (fun _ _ => rfl)) (pa_cons (pe_ix ix_list (pv 4) pe_int (fun _ _ => rfl)) pa_nil)))))))
      pss_nil)
      (pss_cons (ps_if (pt_cmpR op_eq (pv 3) pe_str (nomark _))
      (pss_one (ps_ret (pe_tup (pa_cons (pv 3) (pa_cons (pe_ix ix_list (pv 4) pe_int (fun _ _ => rfl)) (pa_cons (pe_ix ix_list (pv 4) pe_int (fun _ _ => rfl)) (pa_cons (pe_call (ok_l_word T) (hr.mono (by decide)) rfl T.g_l_word T.F_l_word.kp T.b_l_word .nil pass0 (pa_cons (pe_ix ix_list (pv 1) pe_int (fun _ _ => rfl)) pa_nil)) pa_nil)))))))
      pss_nil)
      (pss_cons (ps_if (pt_cmpR op_eq (pv 3) pe_str (nomark _))
      (pss_one (ps_ret (pe_tup (pa_cons (pv 3) (pa_cons (pe_ix ix_list (pv 4) pe_int (fun _ _ => rfl)) (pa_cons (pe_ix ix_list (pv 4) pe_int (fun _ _ => rfl)) pa_nil))))))
      pss_nil)
      (pss_cons (ps_if (pt_cmpR op_eq (pv 3) pe_str (nomark _))
      (pss_one (ps_ret (pe_tup (pa_cons (pv 3) (pa_cons (pe_ix ix_list (pv 4) pe_int (fun _ _ => rfl)) (pa_cons (pe_ix ix_list (pv 4) pe_int (fun _ _ => rfl)) (pa_cons (pe_ix ix_list (pv 4) pe_int (fun _ _ => rfl)) pa_nil)))))))
      pss_nil)
      (pss_cons (ps_if (pt_cmpR op_in_seq (pv 3) (pe_tup (pa_cons pe_str (pa_cons pe_str (pa_cons pe_str pa_nil)))) rfl)
      (pss_one (ps_ret (pe_tup (pa_cons (pv 3) pa_nil))))
      pss_nil)
      (pss_one (ps_ret (pe_tup (pa_cons (pv 3) (pa_cons (pe_ix ix_list (pv 4) pe_int (fun _ _ => rfl)) pa_nil)))))))))))))))))))), ?_⟩
    refine ⟨_, rfl, _, _, _, rfl, by decide, by decide, by decide, by decide, fun nums p1 H1 n1 k1 q1 ⟨hl, hb⟩ => ?_⟩
    have hl30 : nums.length = 30 := by omega
    refine ⟨szl (by show 12 ≤ 100000; decide), fun p2 n2 => ?_⟩
    generalize h_H2 : upd H1 p2 _ = H2
    have k_H2 : Kp H1 H2 := by rw [← h_H2]; exact .new n2
    have q_H2 := (congrFun h_H2 p2).symm.trans upd_same
    clear h_H2
    refine ⟨_, rfl, szl (by show 9 ≤ 100000; decide), fun p3 n3 => ?_⟩
    generalize h_H3 : upd H2 p3 _ = H3
    have k_H3 : Kp H2 H3 := by rw [← h_H3]; exact .new n3
    have q_H3 := (congrFun h_H3 p3).symm.trans upd_same
    clear h_H3
    refine ⟨p2, p3, _, _, rfl, rfl, k_H3.same _ _ rfl q_H2, q_H3, szl (by show 21 ≤ 100000; decide), fun p4 n4 => ?_⟩
    generalize h_H4 : upd H3 p4 _ = H4
    have k_H4 : Kp H3 H4 := by rw [← h_H4]; exact .new n4
    have q_H4 := (congrFun h_H4 p4).symm.trans upd_same
    clear h_H4
    have k14 : Kp H1 H4 := (k_H2.trans k_H3).trans k_H4
    obtain ⟨name, hname, hat⟩ := at_21 nums[0]
    refine ⟨_, rfl, _, rfl, p1, _, _, _, rfl, rfl, .inl (.inl (k14.same _ _ rfl q1)), at_int (j := 0) (by omega), _, _, rfl, rfl, (by show (0 : Int) < 21; decide), p4, _, _, _, rfl, rfl, .inl (.inl q_H4), hat, ?_⟩
    refine ⟨Nat.zero_le _, fun p5 n5 => ?_⟩
    generalize h_H5 : upd H4 p5 _ = H5
    have k_H5 : Kp H4 H5 := by rw [← h_H5]; exact .new n5
    have q_H5 := (congrFun h_H5 p5).symm.trans upd_same
    clear h_H5
    refine ⟨_, rfl, _, rfl, _, rfl, p1, _, rfl, .inl (.inl (k_H5.same _ _ rfl (k14.same _ _ rfl q1))), fun p6 n6 => ?_⟩
    have ec : cutV (nums.map V.int) (some 3) (some 11) = ((nums.drop 3).take 8).map V.int := cut_mid (i := 3) (j := 11) (by omega) (by omega)
    have n65 : p6 ≠ p5 := fun e => by rw [e, q_H5] at n6; cases n6
    generalize h_H6 : upd H5 p6 _ = H6
    have k_H6 : Kp H5 H6 := by rw [← h_H6]; exact .new n6
    have q_H6 := (congrFun h_H6 p6).symm.trans upd_same
    clear h_H6
    have q6 : H6 p6 = some (.lst (((nums.drop 3).take 8).map V.int)) := by rw [← ec]; exact q_H6
    have k16 : Kp H1 H6 := (k14.trans k_H5).trans k_H6
    refine ⟨p6, rfl, ⟨_, .inl (.inl q6)⟩, for_list (K := K) (a := p6) (xs := ((nums.drop 3).take 8).map V.int)
      (fun i σ H' => ∃ (zs : List Int) (y : Option V), σ = [some (.int c), some (.ref p1), some (.ref p4), some (.str name), some (.ref p5), y, none] ∧ Kp H4 H' ∧ H' p6 = some (.lst (((nums.drop 3).take 8).map V.int)) ∧ H' p5 = some (.lst (zs.map V.int)) ∧ zs.length = i ∧ ∀ z ∈ zs, 0 ≤ z ∧ z ≤ 999999)
      ⟨[], none, rfl, k_H5.trans k_H6, q6, k_H6.same _ _ rfl q_H5, rfl, by simp⟩ (fun i σ H' _ ⟨_, _, _, _, h6, _⟩ => .inl (.inl h6)) ?_ ?_⟩
    · rintro i x σ H' hi ⟨zs, y, rfl, kp, h6, h5, hz, hzb⟩
      have hil := (List.getElem?_eq_some_iff.mp hi).1
      rw [List.length_map, List.length_take, List.length_drop] at hil
      obtain ⟨z, hzm, rfl, _⟩ := mem_ints hi
      obtain ⟨b0, b1⟩ := hb z (List.mem_of_mem_drop (List.mem_of_mem_take hzm))
      obtain ⟨v, hv, hat6⟩ := at_6 b0 b1
      refine ⟨_, rfl, .inl ⟨rfl, _, SqL.of h5⟩, _, rfl, _, _, rfl, rfl, (by show (0 : Int) < 100; decide), _, rfl, _, _, rfl, rfl, (by show (0 : Int) < 10; decide), _, rfl, _, _, rfl, rfl, _, rfl, _, _, rfl, rfl, .inr ⟨by decide, by decide⟩, szl (by show 6 ≤ 100000; decide), fun p7 n7 => ?_⟩
      generalize h_H7 : upd H' p7 _ = H7
      have k_H7 : Kp H' H7 := by rw [← h_H7]; exact .new n7
      have q_H7 := (congrFun h_H7 p7).symm.trans upd_same
      clear h_H7
      refine ⟨_, rfl, _, _, rfl, rfl, ⟨by decide, by decide⟩, _, _, rfl, rfl, (by show (0 : Int) < 6; decide), p7, _, _, _, rfl, rfl, .inl (.inl q_H7), hat6, p5, _, _, rfl, rfl, k_H7.same _ _ rfl h5, szt (by rw [List.length_map]; omega), ?_⟩
      refine ⟨zs ++ [v], _, rfl, (kp.trans k_H7).mut n5, ?_, ?_, by rw [List.length_append, hz]; rfl, fun y hy => ?_⟩
      · rw [upd_ne n65]
        exact k_H7.same _ _ rfl h6
      · rw [upd_same, List.map_append]
        rfl
      · rcases List.mem_append.mp hy with hy | hy
        · exact hzb y hy
        · rw [List.mem_singleton.mp hy]
          exact hv
    · rintro σ H' ⟨zs, y, rfl, kp, h6, h5, hz, hzb⟩
      rw [List.length_map, List.length_take, List.length_drop] at hz
      have hz8 : zs.length = 8 := by omega
      have kp0 : Kp H H' := (k1.trans k14).trans kp
      have h1 : H' p1 = some (.lst (nums.map V.int)) := kp.same _ _ rfl (k14.same _ _ rfl q1)
      clear kp h6 k16 q6 n6 n65 ec q_H6 k_H6 q_H5 k_H5 n5 k14 q_H4 k_H4 n4 q_H3 k_H3 n3 q_H2 k_H2 n2 k1 n1 q1 hat hz
      refine ⟨fun σ H'' => ∃ way : Str, σ = [some (.int c), some (.ref p1), some (.ref p4), some (.str name), some (.ref p5), y, some (.str way)] ∧ Kp H H'' ∧ H'' p1 = some (.lst (nums.map V.int)) ∧ H'' p5 = some (.lst (zs.map V.int)) ∧ (way = "up" ∨ way = "down"), ?_, ?_⟩
      · obtain ⟨way, hw, hat2⟩ := at_2 nums[1]
        refine ⟨szl (by show 2 ≤ 100000; decide), fun p8 n8 => ?_⟩
        generalize h_H8 : upd H' p8 _ = H8
        have k_H8 : Kp H' H8 := by rw [← h_H8]; exact .new n8
        have q_H8 := (congrFun h_H8 p8).symm.trans upd_same
        clear h_H8
        exact ⟨_, rfl, p1, _, _, _, rfl, rfl, .inl (.inl (k_H8.same _ _ rfl h1)), at_int (j := 1) (by omega), _, _, rfl, rfl, (by show (0 : Int) < 2; decide), p8, _, _, _, rfl, rfl, .inl (.inl q_H8), hat2, way, rfl, kp0.trans k_H8, k_H8.same _ _ rfl h1, k_H8.same _ _ rfl h5, hw⟩
      clear kp0 h1 h5
      rintro σ H0 ⟨way, rfl, kp, h1, h5, hw⟩
      have hs0 : ∀ z, z ∈ zs → 0 ≤ z ∧ z ≤ 999999 := hzb
      have a0 : atI (zs.map V.int) 0 = some (.int zs[0]) := at_int (j := 0) (by omega)
      have a1 : atI (zs.map V.int) 1 = some (.int zs[1]) := at_int (j := 1) (by omega)
      have a2 : atI (zs.map V.int) 2 = some (.int zs[2]) := at_int (j := 2) (by omega)
      have f0 : Fit "number" (.int zs[0]) := let h := hzb _ (List.getElem_mem (by omega)); fit_int h.1 h.2
      have f1 : Fit "number" (.int zs[1]) := let h := hzb _ (List.getElem_mem (by omega)); fit_int h.1 h.2
      have f2 : Fit "number" (.int zs[2]) := let h := hzb _ (List.getElem_mem (by omega)); fit_int h.1 h.2
      have m8 : 0 ≤ nums[2] % 8 := Int.emod_nonneg _ (by decide)
      have m8' : nums[2] % 8 < 8 := Int.emod_lt_of_pos _ (by decide)
      have m5 : 0 ≤ nums[2] % 5 := Int.emod_nonneg _ (by decide)
      have m5' : nums[2] % 5 < 5 := Int.emod_lt_of_pos _ (by decide)
      have fin : ∀ (Hx : Hp) (xs : List V) (p : Addr), Kp H Hx → Hx p = none → DeedOk K T.a_PARTS name xs → Q (.ref p) (upd Hx p (.tup (.str name :: xs))) := fun Hx xs p kx np hd => k name xs p _ (kx.free _ np) (kx.mut (kx.free _ np)) upd_same hd
      -- send, express
      refine ⟨_, rfl, szl (by show 2 ≤ 100000; decide), fun b1 nb1 => ?_⟩
      generalize h_G1 : upd H0 b1 _ = G1
      have k_G1 : Kp H0 G1 := by rw [← h_G1]; exact .new nb1
      have q_G1 := (congrFun h_G1 b1).symm.trans upd_same
      clear h_G1
      have kg1 := kp.trans k_G1
      have i1 := k_G1.same _ _ rfl h1
      have i5 := k_G1.same _ _ rfl h5
      refine ⟨b1, _, rfl, .inr (.inl (.inl q_G1)), rfl, rfl, _, rfl, iteB (fun c1 => ?_) (fun c1 => ?_)⟩
      · have hn := n_se name hname c1
        refine ⟨_, rfl, _, rfl, szl (by show 2 ≤ 100000; decide), fun b2 nb2 => ?_⟩
        generalize h_G2 : upd G1 b2 _ = G2
        have k_G2 : Kp G1 G2 := by rw [← h_G2]; exact .new nb2
        have q_G2 := (congrFun h_G2 b2).symm.trans upd_same
        clear h_G2
        refine ⟨_, rfl, _, rfl, p1, _, _, _, rfl, rfl, .inl (.inl (k_G2.same _ _ rfl i1)), at_int (j := 2) (by omega), _, _, rfl, rfl, (by show (0 : Int) < 8; decide), _, _, rfl, rfl, _, rfl, p5, _, rfl, .inl (.inl (k_G2.same _ _ rfl i5)), fun b3 nb3 => ?_⟩
        generalize h_G3 : upd G2 b3 _ = G3
        have k_G3 : Kp G2 G3 := by rw [← h_G3]; exact .new nb3
        have q_G3 := (congrFun h_G3 b3).symm.trans upd_same
        clear h_G3
        have ec : cutV (zs.map V.int) none (some (1 + nums[2] % 8)) = (zs.take (1 + nums[2] % 8).toNat).map V.int := by
          rw [← cut_to, Int.toNat_of_nonneg (by omega)]
        have q3 : G3 b3 = some (.lst ((zs.take (1 + nums[2] % 8).toNat).map V.int)) := by rw [← ec]; exact q_G3
        refine ⟨b3, _, rfl, .inl ⟨.inl (.inl q3), fun b4 nb4 => ?_⟩⟩
        generalize h_G4 : upd G3 b4 _ = G4
        have k_G4 : Kp G3 G4 := by rw [← h_G4]; exact .new nb4
        have q_G4 := (congrFun h_G4 b4).symm.trans upd_same
        clear h_G4
        have kg4 := ((kg1.trans k_G2).trans k_G3).trans k_G4
        have ht1 : (zs.take (1 + nums[2] % 8).toNat).length = (1 + nums[2] % 8).toNat := by rw [List.length_take]; omega
        refine ⟨b2, b4, _, _, rfl, rfl, .inl (.inl (k_G4.same _ _ rfl (k_G3.same _ _ rfl q_G2))), .inl (.inl q_G4), by simp, szl (by rw [List.length_map, ht1]; show 2 + _ ≤ 100000; omega), fun z => ?_, fun _ b5 nb5 => fin G4 (.str way :: (zs.take (1 + nums[2] % 8).toNat).map V.int) b5 kg4 nb5 ?_⟩
        · exfalso
          have := congrArg List.length z
          rw [List.length_map, ht1, List.length_nil] at this
          omega
        · have hf := fit_send hw (zs := zs.take (1 + nums[2] % 8).toNat) (by omega) fun z hz => hzb z (List.mem_of_mem_take hz)
          have hlen : (V.str way :: (zs.take (1 + nums[2] % 8).toNat).map V.int).length ≤ 12 := by rw [List.length_cons, List.length_map, ht1]; omega
          have hl2 : 2 ≤ (V.str way :: (zs.take (1 + nums[2] % 8).toNat).map V.int).length := by rw [List.length_cons, List.length_map, ht1]; omega
          rcases hn with rfl | rfl
          · exact ⟨_, T.pk_PARTS_send, (name_ok _ hname).1, (name_ok _ hname).2, hlen, .inl ⟨by decide +kernel, _, _, rfl, hl2, hf⟩⟩
          · exact ⟨_, T.pk_PARTS_express, (name_ok _ hname).1, (name_ok _ hname).2, hlen, .inl ⟨by decide +kernel, _, _, rfl, hl2, hf⟩⟩
      -- say
      refine ⟨_, rfl, rfl, _, rfl, iteD (fun c2 => ?_) (fun c2 => ?_)⟩
      · cases V.str.inj c2
        refine ⟨_, rfl, _, rfl, szl (by show 2 ≤ 100000; decide), fun b2 nb2 => ?_⟩
        generalize h_G2 : upd G1 b2 _ = G2
        have k_G2 : Kp G1 G2 := by rw [← h_G2]; exact .new nb2
        have q_G2 := (congrFun h_G2 b2).symm.trans upd_same
        clear h_G2
        refine ⟨_, rfl, _, rfl, _, rfl, p1, _, _, _, rfl, rfl, .inl (.inl (k_G2.same _ _ rfl i1)), at_int (j := 2) (by omega), _, _, rfl, rfl, (by show (0 : Int) < 5; decide), _, _, rfl, rfl, _, rfl, p1, _, rfl, .inl (.inl (k_G2.same _ _ rfl i1)), fun b3 nb3 => ?_⟩
        generalize h_G3 : upd G2 b3 _ = G3
        have k_G3 : Kp G2 G3 := by rw [← h_G3]; exact .new nb3
        have q_G3 := (congrFun h_G3 b3).symm.trans upd_same
        clear h_G3
        have ec : cutV (nums.map V.int) (some 11) (some (12 + nums[2] % 5)) = ((nums.drop 11).take ((12 + nums[2] % 5).toNat - 11)).map V.int := by
          rw [← cut_mid (i := 11) (j := (12 + nums[2] % 5).toNat) (by omega) (by omega), Int.toNat_of_nonneg (by omega)]
          rfl
        generalize hms : (nums.drop 11).take ((12 + nums[2] % 5).toNat - 11) = ms at ec
        have hml : ms.length = (12 + nums[2] % 5).toNat - 11 := by rw [← hms, List.length_take, List.length_drop]; omega
        have q3 : G3 b3 = some (.lst (ms.map V.int)) := by rw [← ec]; exact q_G3
        refine ⟨b3, rfl, ⟨_, .inl (.inl q3)⟩, fun D hD => ?_⟩
        refine lc_list (K := K) (a := b3) (xs := ms.map V.int) (fun i H' => Kp G3 H' ∧ ∃ ws : List Str, H' D = some (.lst (ws.map V.str)) ∧ ws.length = i ∧ ∀ t ∈ ws, isW t = true) ⟨Kp.new hD, [], upd_same, rfl, by simp⟩ (fun i H' _ ⟨kp, _⟩ => kp.sqL (.inl (.inl q3))) (fun i x H' hi ⟨kp', ws, hs, hn, hw1⟩ => ?_) (fun H' ⟨kp', ws, hs, hn, hw1⟩ => ?_)
        · have hil := (List.getElem?_eq_some_iff.mp hi).1
          rw [List.length_map] at hil
          obtain ⟨z, _, rfl, _⟩ := mem_ints hi
          refine ⟨rfl, _, rfl, _, rfl, fun t H2 ht k2 => ⟨ws.map V.str, k2.same _ _ rfl hs, szt (by rw [List.length_map]; omega), (kp'.trans k2).mut hD, ws ++ [t], ?_, by rw [List.length_append, hn]; rfl, fun y hy => ?_⟩⟩
          · rw [upd_same, List.map_append]
            rfl
          · rcases List.mem_append.mp hy with hy | hy
            · exact hw1 y hy
            · rw [List.mem_singleton.mp hy]
              exact ht
        · rw [List.length_map] at hn
          refine ⟨D, _, rfl, .inl ⟨.inl (.inl hs), fun b4 nb4 => ?_⟩⟩
          generalize h_G4 : upd H' b4 _ = G4
          have k_G4 : Kp H' G4 := by rw [← h_G4]; exact .new nb4
          have q_G4 := (congrFun h_G4 b4).symm.trans upd_same
          clear h_G4
          have kg4 := (((kg1.trans k_G2).trans k_G3).trans kp').trans k_G4
          refine ⟨b2, b4, _, _, rfl, rfl, .inl (.inl (k_G4.same _ _ rfl (kp'.same _ _ rfl (k_G3.same _ _ rfl q_G2)))), .inl (.inl q_G4), by simp, szl (by rw [List.length_map, hn, hml]; show 2 + _ ≤ 100000; omega), fun z => ?_, fun _ b5 nb5 => fin G4 (.str way :: ws.map V.str) b5 kg4 nb5 ?_⟩
          · exfalso
            have := congrArg List.length z
            rw [List.length_map, List.length_nil] at this
            omega
          · exact ⟨_, T.pk_PARTS_say, (name_ok _ hname).1, (name_ok _ hname).2, by rw [List.length_cons, List.length_map]; omega, .inl ⟨by decide +kernel, _, _, rfl, by rw [List.length_cons, List.length_map]; omega, fit_say hw (by omega) hw1⟩⟩
      -- recall
      refine ⟨_, rfl, rfl, _, rfl, iteD (fun c3 => ?_) (fun c3 => ?_)⟩
      · cases V.str.inj c3
        exact ⟨_, rfl, _, rfl, szl (by show 2 ≤ 100000; decide), fun b2 nb2 => fin G1 [.str way] b2 kg1 nb2 (deed_plain T.pk_PARTS_recall hname (by simp) (by decide +kernel) (.cons (.way way hw) fit_nil))⟩
      -- lose, ask
      refine ⟨_, rfl, szl (by show 2 ≤ 100000; decide), fun b2 nb2 => ?_⟩
      generalize h_G2 : upd G1 b2 _ = G2
      have k_G2 : Kp G1 G2 := by rw [← h_G2]; exact .new nb2
      have q_G2 := (congrFun h_G2 b2).symm.trans upd_same
      clear h_G2
      have kg2 := kg1.trans k_G2
      have j1 := k_G2.same _ _ rfl i1
      have j5 := k_G2.same _ _ rfl i5
      refine ⟨b2, _, rfl, .inr (.inl (.inl q_G2)), rfl, rfl, _, rfl, iteB (fun c4 => ?_) (fun c4 => ?_)⟩
      · refine ⟨_, rfl, _, rfl, _, rfl, p5, _, _, _, rfl, rfl, .inl (.inl j5), a0, _, rfl, p5, _, _, _, rfl, rfl, .inl (.inl j5), a1, szl (by show 4 ≤ 100000; decide), fun b3 nb3 => fin G2 [.str way, .int zs[0], .int zs[1]] b3 kg2 nb3 ?_⟩
        rcases n_la name hname c4 with rfl | rfl
        · exact deed_plain T.pk_PARTS_lose hname (by simp) (by decide +kernel) (.cons (.way way hw) (.cons f0 (.cons f1 fit_nil)))
        · exact deed_plain T.pk_PARTS_ask hname (by simp) (by decide +kernel) (.cons (.way way hw) (.cons f0 (.cons f1 fit_nil)))
      -- enter
      refine ⟨_, rfl, rfl, _, rfl, iteD (fun c5 => ?_) (fun c5 => ?_)⟩
      · cases V.str.inj c5
        exact ⟨_, rfl, _, rfl, p5, _, _, _, rfl, rfl, .inl (.inl j5), a0, _, rfl, p5, _, _, _, rfl, rfl, .inl (.inl j5), a1, _, rfl, p1, _, _, _, rfl, rfl, .inl (.inl j1), at_int (j := 11) (by omega), _, rfl, fun t H3 ht k3 => ⟨szl (by show 4 ≤ 100000; decide), fun b3 nb3 => fin H3 [.int zs[0], .int zs[1], .str t] b3 (kg2.trans k3) nb3
          (deed_plain T.pk_PARTS_enter hname (by simp) (by decide +kernel) (.cons f0 (.cons f1 (.cons (.word t ht) fit_nil))))⟩⟩
      -- strike
      refine ⟨_, rfl, rfl, _, rfl, iteD (fun c6 => ?_) (fun c6 => ?_)⟩
      · cases V.str.inj c6
        exact ⟨_, rfl, _, rfl, p5, _, _, _, rfl, rfl, .inl (.inl j5), a0, _, rfl, p5, _, _, _, rfl, rfl, .inl (.inl j5), a1, szl (by show 3 ≤ 100000; decide), fun b3 nb3 => fin G2 [.int zs[0], .int zs[1]] b3 kg2 nb3 (deed_plain T.pk_PARTS_strike hname (by simp) (by decide +kernel) (.cons f0 (.cons f1 fit_nil)))⟩
      -- slip
      refine ⟨_, rfl, rfl, _, rfl, iteD (fun c7 => ?_) (fun c7 => ?_)⟩
      · cases V.str.inj c7
        exact ⟨_, rfl, _, rfl, p5, _, _, _, rfl, rfl, .inl (.inl j5), a0, _, rfl, p5, _, _, _, rfl, rfl, .inl (.inl j5), a1, _, rfl, p5, _, _, _, rfl, rfl, .inl (.inl j5), a2, szl (by show 4 ≤ 100000; decide), fun b3 nb3 => fin G2 [.int zs[0], .int zs[1], .int zs[2]] b3 kg2 nb3 (deed_plain T.pk_PARTS_slip hname (by simp) (by decide +kernel) (.cons f0 (.cons f1 (.cons f2 fit_nil))))⟩
      -- beat, settle, turn
      refine ⟨_, rfl, szl (by show 3 ≤ 100000; decide), fun b3 nb3 => ?_⟩
      generalize h_G3 : upd G2 b3 _ = G3
      have k_G3 : Kp G2 G3 := by rw [← h_G3]; exact .new nb3
      have q_G3 := (congrFun h_G3 b3).symm.trans upd_same
      clear h_G3
      have kg3 := kg2.trans k_G3
      have l5 := k_G3.same _ _ rfl j5
      refine ⟨b3, _, rfl, .inr (.inl (.inl q_G3)), rfl, rfl, _, rfl, iteB (fun c8 => ?_) (fun c8 => ?_)⟩
      · refine ⟨_, rfl, szl (by show 1 ≤ 100000; decide), fun b4 nb4 => fin G3 [] b4 kg3 nb4 ?_⟩
        rcases n_bst name hname c8 with rfl | rfl | rfl
        · exact deed_plain T.pk_PARTS_beat hname (by simp) (by decide +kernel) fit_nil
        · exact deed_plain T.pk_PARTS_settle hname (by simp) (by decide +kernel) fit_nil
        · exact deed_plain T.pk_PARTS_turn hname (by simp) (by decide +kernel) fit_nil
      · refine ⟨_, rfl, _, rfl, p5, _, _, _, rfl, rfl, .inl (.inl l5), a0, szl (by show 2 ≤ 100000; decide), fun b4 nb4 => fin G3 [.int zs[0]] b4 kg3 nb4 ?_⟩
        rcases n_rest name hname c1 c2 c3 c4 c5 c6 c7 c8 with rfl | rfl | rfl | rfl | rfl | rfl
        · exact deed_plain T.pk_PARTS_act hname (by simp) (by decide +kernel) (.cons f0 fit_nil)
        · exact deed_plain T.pk_PARTS_doze hname (by simp) (by decide +kernel) (.cons f0 fit_nil)
        · exact deed_plain T.pk_PARTS_wake hname (by simp) (by decide +kernel) (.cons f0 fit_nil)
        · exact deed_plain T.pk_PARTS_fog hname (by simp) (by decide +kernel) (.cons f0 fit_nil)
        · exact deed_plain T.pk_PARTS_lift hname (by simp) (by decide +kernel) (.cons f0 fit_nil)
        · exact deed_plain T.pk_PARTS_burn hname (by simp) (by decide +kernel) (.cons f0 fit_nil)
/-! ### law -/
def pdv : V → PyData
  | .int i => .int i
  | .str t => .str t
  | _ => .none
theorem dp_parts {K : PySem.W.Frag} {H : Hp} : ∀ xs : List V, (∀ x ∈ xs, Part x) → DpAll K H xs (xs.map pdv)
  | [], _ => .nil
  | x :: r, h => .cons (by
      rcases h x List.mem_cons_self with ⟨n, _, rfl⟩ | ⟨t, rfl, _⟩
      · exact .int _
      · exact .str _) (dp_parts r fun y hy => h y (List.mem_cons_of_mem _ hy))
theorem dn_parts {xs : List V} (h : ∀ x ∈ xs, Part x) (hl : xs.length ≤ 20) : Dn 4 (.tuple (xs.map pdv)) := by
  refine .tup (fun d hd => ?_) (by rw [List.length_map]; omega)
  obtain ⟨x, hx, rfl⟩ := List.mem_map.mp hd
  rcases h x hx with ⟨n, _, rfl⟩ | ⟨t, rfl, _⟩
  · exact .int _ _
  · exact .str _ _
def sp_law (K : PySem.W.Frag) (P PN : Addr) : Sp := fun vs H Q _ => ∃ (a : Addr) (ns : List Int), vs = [.ref a] ∧ SqL K H a (ns.map V.int) ∧ ns.length ≤ 63 ∧ GxR.TabG H P ∧ GxR.TabG H PN ∧ ∀ H', Q (.bl true) H'
theorem ok_law (T : Txt K mg) (TB : GxR.TabB base mg T.c_tab T.P_tab) (TBN : GxR.TabB base mg T.c_tabN T.P_tabN) (D : KDict K w T.a_PARTS T.es_PARTS T.n_PARTS) {f : Addr} {fd : FuncData} (F : Fun K "law" "law" s_law f fd) : FnOk P w K mg base CX0 8 f fd ["_law_script"] (sp_law K T.P_tab T.P_tabN) := by
  refine F.ok sc_law (fun vs H Q E h => ?_) (fun cdv A outer s H vs Q E hr h => ?_)
  · obtain ⟨a, ns, rfl, _⟩ := h
    rfl
  · obtain ⟨a, ns, rfl, hS, hlen, hT, hN, k⟩ := h
    refine ⟨_, (pss_cons (ps_set (i := 1) sc_law.nd rfl (by first | exact Or.inl rfl | exact Or.inr rfl) (pe_lst (pa_cons (pe_call (ok_l_any_deed T) (hr.mono (by decide)) rfl T.g_l_any_deed T.F_l_any_deed.kp T.b_l_any_deed .nil pass0 (pa_cons (pe_call (ok_l_cell T) (hr.mono (by decide)) rfl T.g_l_cell T.F_l_cell.kp T.b_l_cell .nil pass0 (pa_cons (pv 0) (pa_cons pe_int pa_nil))) pa_nil)) (pa_cons (pe_call (ok_l_any_deed T) (hr.mono (by decide)) rfl T.g_l_any_deed T.F_l_any_deed.kp T.b_l_any_deed .nil pass0 (pa_cons (pe_call (ok_l_cell T) (hr.mono (by decide)) rfl T.g_l_cell T.F_l_cell.kp T.b_l_cell .nil pass0 (pa_cons (pv 0) (pa_cons pe_int pa_nil))) pa_nil)) pa_nil))))
      (pss_cons (ps_for PassesOwn.never rfl (pi_list (pe_lst (pa_cons (pe_ix ix_list (pv 1) pe_int (fun _ _ => rfl)) (pa_cons (pe_ix ix_list (pv 1) pe_int (fun _ _ => rfl)) (pa_cons (pe_ix ix_list (pv 1) pe_int (fun _ _ => rfl)) pa_nil))))) (pg_name (i := 2) sc_law.nd rfl (by first | exact Or.inl rfl | exact Or.inr rfl))
      (pss_cons (ps_set (i := 3) sc_law.nd rfl (by first | exact Or.inl rfl | exact Or.inr rfl) (pe_join pe_str (pe_lc (own := [("_law_part", 4)]) (g := gName 4) (tt := tYes) (by rfl) sc_law.nd (pi_tup (pv 2)) (blkOk_by (own := [("_law_part", 4)]) (N := ["_law_script", "_law_some", "_law_deed", "_law_text", "_law_part"]) (sc := defScope s_law) (by decide +kernel)) (fun _ _ _ _ _ => (pg_name (i := 4) sc_law.nd rfl (by first | exact Or.inl rfl | exact Or.inr rfl))) (fun _ _ _ _ _ => pts_nil) (fun _ _ _ _ _ => (pe_callTy call_strA (by rfl) T.m_str (by decide +kernel) (pa_cons (pv 4) pa_nil))))))
      (pss_one (ps_if (PW.pt (pw_or (pt_not (pt_val (pe_call (ok_l_like T 4) (hr.mono (by decide)) rfl T.g_l_like T.F_l_like.kp T.b_l_like .nil pass0 (pa_cons (pe_call (ok_p_deed_text T) (hr.mono (by decide)) rfl T.g_p_deed_text T.F_p_deed_text.kp T.b_p_deed_text .nil pass0 (pa_cons (pv 2) pa_nil)) (pa_cons (pv 3) pa_nil))))) (pw_or1 (pt_not (pt_val (pe_call (ok_l_like T 4) (hr.mono (by decide)) rfl T.g_l_like T.F_l_like.kp T.b_l_like .nil pass0 (pa_cons (pe_call (ok_p_read_deed T TB TBN D) (hr.mono (by decide)) rfl T.g_p_read_deed T.F_p_read_deed.kp T.b_p_read_deed .nil passL (pa_cons (pv 3) pa_nil)) (pa_cons (pv 2) pa_nil))))))))
      (pss_one (ps_ret pe_bl))
      pss_nil))))
      (pss_one (ps_ret pe_bl)))), ?_⟩
    refine ⟨_, rfl, a, ns, 0, rfl, hS, by decide, _, rfl, fun m1 xs1 r1 H1 nr1 k1 q1 d1 => ⟨_, rfl, a, ns, 1, rfl, k1.sqL hS, by decide, _, rfl, fun m2 xs2 r2 H2 nr2 k2 q2 d2 => ⟨szl (by show 2 ≤ 100000; decide), fun p3 n3 => ?_⟩⟩⟩
    generalize h_H3 : upd H2 p3 _ = H3
    have k_H3 : Kp H2 H3 := by rw [← h_H3]; exact .new n3
    have q_H3 := (congrFun h_H3 p3).symm.trans upd_same
    clear h_H3
    refine ⟨_, rfl, p3, _, _, _, rfl, rfl, .inl (.inl q_H3), rfl, _, rfl, p3, _, _, _, rfl, rfl, .inl (.inl q_H3), rfl, _, rfl, p3, _, _, _, rfl, rfl, .inl (.inl q_H3), rfl, szl (by show 3 ≤ 100000; decide), fun p4 n4 => ?_⟩
    generalize h_H4 : upd H3 p4 _ = H4
    have k_H4 : Kp H3 H4 := by rw [← h_H4]; exact .new n4
    have q_H4 := (congrFun h_H4 p4).symm.trans upd_same
    clear h_H4
    have kp4 : Kp H H4 := ((k1.trans k2).trans k_H3).trans k_H4
    have e1 : H4 r1 = some (.tup (.str m1 :: xs1)) := k_H4.same _ _ rfl (k_H3.same _ _ rfl (k2.same _ _ rfl q1))
    have e2 : H4 r2 = some (.tup (.str m2 :: xs2)) := k_H4.same _ _ rfl (k_H3.same _ _ rfl q2)
    refine ⟨p4, rfl, ⟨_, .inl (.inl q_H4)⟩, for_list (K := K) (a := p4) (xs := [.ref r1, .ref r2, .ref r1]) (fun i σ H' => Kp H4 H' ∧ ∃ y z : Option V, σ = [some (.ref a), some (.ref p3), y, z, none])
      ⟨.refl _, none, none, rfl⟩ (fun i σ H' _ ⟨kp, _⟩ => kp.sqL (.inl (.inl q_H4))) ?_ ?_⟩
    · rintro i x σ H' hi ⟨kp, y, z, rfl⟩
      obtain ⟨r, nm, xs, rfl, er, dd⟩ : ∃ r nm xs, x = V.ref r ∧ H4 r = some (.tup (.str nm :: xs)) ∧ DeedOk K T.a_PARTS nm xs := by
        have hm := List.mem_of_getElem? hi
        simp only [List.mem_cons, List.not_mem_nil, or_false] at hm
        rcases hm with rfl | rfl | rfl
        · exact ⟨_, _, _, rfl, e1, d1⟩
        · exact ⟨_, _, _, rfl, e2, d2⟩
        · exact ⟨_, _, _, rfl, e1, d1⟩
      have hpt : ∀ x ∈ V.str nm :: xs, Part x := fun x hx => (dd.parts x hx).1
      have hl20 : (V.str nm :: xs).length ≤ 20 := by
        obtain ⟨_, _, _, _, hl, _⟩ := dd
        rw [List.length_cons]
        omega
      have er' := kp.same _ _ rfl er
      refine ⟨⟨_, rfl⟩, _, rfl, r, rfl, ⟨_, .inl (.inl er')⟩, fun L hL => ?_⟩
      refine lc_tup (K := K) (a := r) (xs := .str nm :: xs) (fun i G => Kp H' G ∧ G L = some (.lst ((((V.str nm :: xs).take i).map tx).map V.str))) ⟨Kp.new hL, upd_same⟩ (fun i G _ ⟨kg, _⟩ => kg.sqT (.inl (.inl er'))) (fun i x G hi ⟨kg, hs⟩ => ?_) (fun G ⟨kg, hs⟩ => ?_)
      · have hil := (List.getElem?_eq_some_iff.mp hi).1
        have hx := hpt x (List.mem_of_getElem? hi)
        have acc : ∀ y : V, y = .str (tx x) → Kp H' (upd G L (.lst ((((V.str nm :: xs).take i).map tx).map V.str ++ [y]))) ∧ upd G L (.lst ((((V.str nm :: xs).take i).map tx).map V.str ++ [y])) L = some (.lst ((((V.str nm :: xs).take (i + 1)).map tx).map V.str)) := by
          rintro y rfl
          refine ⟨kg.mut hL, ?_⟩
          rw [upd_same, List.take_add_one, hi]
          simp
        refine ⟨rfl, _, rfl, ?_⟩
        have hz : ((((V.str nm :: xs).take i).map tx).map V.str).length < sizeLine := szt (by rw [List.length_map, List.length_map, List.length_take]; omega)
        rcases hx with ⟨n, hn, rfl⟩ | ⟨t, rfl, ht⟩
        · exact .inl ⟨_, rfl, log_ok hn, _, hs, hz, acc _ rfl⟩
        · exact .inr ⟨_, rfl, _, hs, hz, acc _ rfl⟩
      · rw [List.take_length] at hs
        refine ⟨_, L, (V.str nm :: xs).map tx, rfl, rfl, .inl (.inl (.inl hs)), join_fits hpt hl20, ?_⟩
        have er2 := kg.same _ _ rfl er'
        have kpg := kp4.trans (kp.trans kg)
        refine ⟨_, rfl, r, _, rfl, .inl (.inl er2), hl20, hpt, fun G1 g1 => ⟨_, rfl, _, _, .str _, rfl, .str _, .str _, .str 3 _, fun G2 g2 => ⟨_, rfl, iteFo rfl ?_⟩⟩⟩
        have kp2 := (kpg.trans g1).trans g2
        have er3 := g2.same _ _ rfl (g1.same _ _ rfl er2)
        refine ⟨_, rfl, nm, xs, rfl, dd, kp2.tab _ hT, kp2.tab _ hN, fun r5 G3 nr5 g3 q5 => ⟨_, rfl, _, _, .tuple ((V.str nm :: xs).map pdv), rfl, .tup (.inl (.inl q5)) (dp_parts _ hpt), .tup (.inl (.inl (g3.same _ _ rfl er3))) (dp_parts _ hpt), dn_parts hpt hl20, fun G4 g4 => ⟨_, rfl, iteFo rfl ?_⟩⟩⟩
        exact ⟨(((kp.trans kg).trans g1).trans g2).trans (g3.trans g4), _, _, rfl⟩
    · rintro σ H' ⟨kp, y, z, rfl⟩
      exact k _
end
theorem all_mk {l : PySem.W.OpenLaw} {w : World} {K : PySem.W.Frag} {h : Heap} {mg : Str → Option Value} {fa : Addr} (X : K.In h) (G : h.Ns mainGlobals mg) (hfa : mg "law" = some (.ref fa)) (own : ∀ y ∈ (["is_word", "is_number"] : List Str), ∀ f, mg y = some (.ref f) → LamX.OwnTab K f h)
    {C_MastError : Addr}
    {C_BadLine : Addr}
    {f1 : Addr} {od1 an1 : Option Addr} {sl1 : Array (Option Value)} {oc1 kV1 dc1 pm1 ct1 : Value}
    {c_tab P_tab : Addr} {dd_tab : Option Addr} {vs_tab : Array Value} {sl_tab : Array (Option Value)} {fl_tab : Str} {tf_tab tg_tab tt_tab : Tok} {fg_tab tx_tab : Int} {b_tab : Bool}
    {f2 : Addr} {od2 an2 : Option Addr} {sl2 : Array (Option Value)} {oc2 kV2 dc2 pm2 ct2 : Value}
    {c_tabN P_tabN : Addr} {dd_tabN : Option Addr} {vs_tabN : Array Value} {sl_tabN : Array (Option Value)} {fl_tabN : Str} {tf_tabN tg_tabN tt_tabN : Tok} {fg_tabN tx_tabN : Int} {b_tabN : Bool}
    {f3 : Addr} {od3 an3 : Option Addr} {sl3 : Array (Option Value)} {oc3 kV3 dc3 pm3 cd3 ct3 : Value}
    {f4 : Addr} {od4 an4 : Option Addr} {sl4 : Array (Option Value)} {oc4 kV4 dc4 pm4 cd4 ct4 : Value}
    {f5 : Addr} {od5 an5 : Option Addr} {sl5 : Array (Option Value)} {oc5 kV5 dc5 pm5 cd5 ct5 : Value}
    {f6 : Addr} {od6 an6 : Option Addr} {sl6 : Array (Option Value)} {oc6 kV6 dc6 pm6 cd6 ct6 : Value}
    {f7 : Addr} {od7 an7 : Option Addr} {sl7 : Array (Option Value)} {oc7 kV7 dc7 pm7 cd7 ct7 : Value}
    {f8 : Addr} {od8 an8 : Option Addr} {sl8 : Array (Option Value)} {oc8 kV8 dc8 pm8 cd8 ct8 : Value}
    {f9 : Addr} {od9 an9 : Option Addr} {sl9 : Array (Option Value)} {oc9 kV9 dc9 pm9 cd9 ct9 : Value}
    {f10 : Addr} {od10 an10 : Option Addr} {sl10 : Array (Option Value)} {oc10 kV10 dc10 pm10 cd10 ct10 : Value}
    {f11 : Addr} {od11 an11 : Option Addr} {sl11 : Array (Option Value)} {oc11 kV11 dc11 pm11 cd11 ct11 : Value}
    {f12 : Addr} {od12 an12 : Option Addr} {sl12 : Array (Option Value)} {oc12 kV12 dc12 pm12 cd12 ct12 : Value}
    {tk_LETTERS : Tok}
    {tk_LONGEST_WORD : Tok}
    {tk_UP : Tok}
    {tk_DOWN : Tok}
    {tk_FIGURES : Tok}
    {tk_MOST_FIGURES : Tok}
    {A_PARTS : Addr} {es_PARTS : Array DictEntry} {n_PARTS : Nat}
    {A_PARTS_send : Addr} {od_PARTS_send : Option Addr} {n_PARTS_send : Nat} {sl_PARTS_send : Array (Option Value)} {tk_PARTS_send_0 tk_PARTS_send_1 : Tok}
    {A_PARTS_express : Addr} {od_PARTS_express : Option Addr} {n_PARTS_express : Nat} {sl_PARTS_express : Array (Option Value)} {tk_PARTS_express_0 tk_PARTS_express_1 : Tok}
    {A_PARTS_say : Addr} {od_PARTS_say : Option Addr} {n_PARTS_say : Nat} {sl_PARTS_say : Array (Option Value)} {tk_PARTS_say_0 tk_PARTS_say_1 : Tok}
    {A_PARTS_recall : Addr} {od_PARTS_recall : Option Addr} {n_PARTS_recall : Nat} {sl_PARTS_recall : Array (Option Value)} {tk_PARTS_recall_0 : Tok}
    {A_PARTS_act : Addr} {od_PARTS_act : Option Addr} {n_PARTS_act : Nat} {sl_PARTS_act : Array (Option Value)} {tk_PARTS_act_0 : Tok}
    {A_PARTS_slip : Addr} {od_PARTS_slip : Option Addr} {n_PARTS_slip : Nat} {sl_PARTS_slip : Array (Option Value)} {tk_PARTS_slip_0 tk_PARTS_slip_1 tk_PARTS_slip_2 : Tok}
    {A_PARTS_doze : Addr} {od_PARTS_doze : Option Addr} {n_PARTS_doze : Nat} {sl_PARTS_doze : Array (Option Value)} {tk_PARTS_doze_0 : Tok}
    {A_PARTS_wake : Addr} {od_PARTS_wake : Option Addr} {n_PARTS_wake : Nat} {sl_PARTS_wake : Array (Option Value)} {tk_PARTS_wake_0 : Tok}
    {A_PARTS_fog : Addr} {od_PARTS_fog : Option Addr} {n_PARTS_fog : Nat} {sl_PARTS_fog : Array (Option Value)} {tk_PARTS_fog_0 : Tok}
    {A_PARTS_lift : Addr} {od_PARTS_lift : Option Addr} {n_PARTS_lift : Nat} {sl_PARTS_lift : Array (Option Value)} {tk_PARTS_lift_0 : Tok}
    {A_PARTS_beat : Addr} {od_PARTS_beat : Option Addr} {n_PARTS_beat : Nat} {sl_PARTS_beat : Array (Option Value)}
    {A_PARTS_settle : Addr} {od_PARTS_settle : Option Addr} {n_PARTS_settle : Nat} {sl_PARTS_settle : Array (Option Value)}
    {A_PARTS_turn : Addr} {od_PARTS_turn : Option Addr} {n_PARTS_turn : Nat} {sl_PARTS_turn : Array (Option Value)}
    {A_PARTS_lose : Addr} {od_PARTS_lose : Option Addr} {n_PARTS_lose : Nat} {sl_PARTS_lose : Array (Option Value)} {tk_PARTS_lose_0 tk_PARTS_lose_1 tk_PARTS_lose_2 : Tok}
    {A_PARTS_burn : Addr} {od_PARTS_burn : Option Addr} {n_PARTS_burn : Nat} {sl_PARTS_burn : Array (Option Value)} {tk_PARTS_burn_0 : Tok}
    {A_PARTS_ask : Addr} {od_PARTS_ask : Option Addr} {n_PARTS_ask : Nat} {sl_PARTS_ask : Array (Option Value)} {tk_PARTS_ask_0 tk_PARTS_ask_1 tk_PARTS_ask_2 : Tok}
    {A_PARTS_enter : Addr} {od_PARTS_enter : Option Addr} {n_PARTS_enter : Nat} {sl_PARTS_enter : Array (Option Value)} {tk_PARTS_enter_0 tk_PARTS_enter_1 tk_PARTS_enter_2 : Tok}
    {A_PARTS_strike : Addr} {od_PARTS_strike : Option Addr} {n_PARTS_strike : Nat} {sl_PARTS_strike : Array (Option Value)} {tk_PARTS_strike_0 tk_PARTS_strike_1 : Tok}
    {A_WITH_LISTS : Addr} {od_WITH_LISTS : Option Addr} {n_WITH_LISTS : Nat} {sl_WITH_LISTS : Array (Option Value)} {tk_WITH_LISTS_0 tk_WITH_LISTS_1 tk_WITH_LISTS_2 : Tok}
    (e_MastError : PySem.W.nsIn K mainGlobals "MastError" = some (some (.ref C_MastError)))
    (x_MastError : PySem.W.excIn K C_MastError [.type "ValueError", .type "Exception", .type "BaseException", .type "object"] "ValueError.__new__" = true)
    (k_MastError : PySem.W.keepIn K (.ref C_MastError) = true)
    (b_MastError : PySem.W.subIn K (.ref C_MastError) (.type "BaseException") = some true)
    (t_MastError : PySem.W.typeIn K (.ref C_MastError) = some (.type "type"))
    (i_MastError : PySem.W.isClsIn K C_MastError = true)
    (h_MastError : PySem.W.hasDictIn K C_MastError = true)
    (ga_MastError : PySem.W.findIn K (.ref C_MastError) "__getattribute__" = some (some (.builtin "BaseException.__getattribute__")))
    (gg_MastError : PySem.W.findIn K (.ref C_MastError) "__getattr__" = some none)
    (cl_MastError : PySem.W.findIn K (.ref C_MastError) "__class__" = some (some (.builtin "object.__class__")))
    (mo_MastError : PySem.W.mroIn K C_MastError (.type "object") = some true)
    (v_MastError : PySem.W.subIn K (.ref C_MastError) (.type "ValueError") = some true)
    (e_BadLine : PySem.W.nsIn K mainGlobals "BadLine" = some (some (.ref C_BadLine)))
    (x_BadLine : PySem.W.excIn K C_BadLine [.type "ValueError", .type "Exception", .type "BaseException", .type "object"] "ValueError.__new__" = true)
    (k_BadLine : PySem.W.keepIn K (.ref C_BadLine) = true)
    (b_BadLine : PySem.W.subIn K (.ref C_BadLine) (.type "BaseException") = some true)
    (t_BadLine : PySem.W.typeIn K (.ref C_BadLine) = some (.type "type"))
    (i_BadLine : PySem.W.isClsIn K C_BadLine = true)
    (h_BadLine : PySem.W.hasDictIn K C_BadLine = true)
    (ga_BadLine : PySem.W.findIn K (.ref C_BadLine) "__getattribute__" = some (some (.builtin "BaseException.__getattribute__")))
    (gg_BadLine : PySem.W.findIn K (.ref C_BadLine) "__getattr__" = some none)
    (cl_BadLine : PySem.W.findIn K (.ref C_BadLine) "__class__" = some (some (.builtin "object.__class__")))
    (mo_BadLine : PySem.W.mroIn K C_BadLine (.type "object") = some true)
    (v_BadLine : PySem.W.subIn K (.ref C_BadLine) (.type "ValueError") = some true)
    (s_MastError_MastError : PySem.W.subIn K (.ref C_MastError) (.ref C_MastError) = some true)
    (s_BadLine_MastError : PySem.W.subIn K (.ref C_BadLine) (.ref C_MastError) = some true)
    (a1 : PySem.W.nsIn K mainGlobals "is_word" = some (some (.ref f1)))
    (l1 : K.lookup f1 = some ⟨oc1, od1, .func (PySem.W.fnOf "is_word" "is_word" (defArgs s_p_is_word) (defBody s_p_is_word) (defScope s_p_is_word) .none kV1 dc1 pm1 an1 (.ref c_tab) ct1), sl1⟩)
    (c1 : PySem.W.codeIn K (.ref c_tab) "is_word" = true)
    (y_l : K.lookup c_tab = some ⟨.type "code", dd_tab, .fields vs_tab, sl_tab⟩)
    (y_11 : vs_tab[11]? = some (.ref P_tab))
    (y_18 : vs_tab.getD 18 .none = .str fl_tab tf_tab)
    (y_7 : vs_tab.getD 7 .none = .int fg_tab tg_tab)
    (y_9 : vs_tab.getD 9 .none = .bool b_tab)
    (y_10 : vs_tab.getD 10 .none = .int tx_tab tt_tab)
    (y_ne : c_tab ≠ P_tab)
    (y_P : K.lookup P_tab = none)
    (k1 : PySem.W.keepIn K (.ref f1) = true)
    (a2 : PySem.W.nsIn K mainGlobals "is_number" = some (some (.ref f2)))
    (l2 : K.lookup f2 = some ⟨oc2, od2, .func (PySem.W.fnOf "is_number" "is_number" (defArgs s_p_is_number) (defBody s_p_is_number) (defScope s_p_is_number) .none kV2 dc2 pm2 an2 (.ref c_tabN) ct2), sl2⟩)
    (c2 : PySem.W.codeIn K (.ref c_tabN) "is_number" = true)
    (y_lN : K.lookup c_tabN = some ⟨.type "code", dd_tabN, .fields vs_tabN, sl_tabN⟩)
    (y_11N : vs_tabN[11]? = some (.ref P_tabN))
    (y_18N : vs_tabN.getD 18 .none = .str fl_tabN tf_tabN)
    (y_7N : vs_tabN.getD 7 .none = .int fg_tabN tg_tabN)
    (y_9N : vs_tabN.getD 9 .none = .bool b_tabN)
    (y_10N : vs_tabN.getD 10 .none = .int tx_tabN tt_tabN)
    (y_neN : c_tabN ≠ P_tabN)
    (y_PN : K.lookup P_tabN = none)
    (k2 : PySem.W.keepIn K (.ref f2) = true)
    (a3 : PySem.W.nsIn K mainGlobals "read_part" = some (some (.ref f3)))
    (l3 : K.lookup f3 = some ⟨oc3, od3, .func (PySem.W.fnOf "read_part" "read_part" (defArgs s_p_read_part) (defBody s_p_read_part) (defScope s_p_read_part) .none kV3 dc3 pm3 an3 cd3 ct3), sl3⟩)
    (c3 : PySem.W.codeIn K cd3 "read_part" = true)
    (k3 : PySem.W.keepIn K (.ref f3) = true)
    (a4 : PySem.W.nsIn K mainGlobals "read_parts" = some (some (.ref f4)))
    (l4 : K.lookup f4 = some ⟨oc4, od4, .func (PySem.W.fnOf "read_parts" "read_parts" (defArgs s_p_read_parts) (defBody s_p_read_parts) (defScope s_p_read_parts) .none kV4 dc4 pm4 an4 cd4 ct4), sl4⟩)
    (c4 : PySem.W.codeIn K cd4 "read_parts" = true)
    (k4 : PySem.W.keepIn K (.ref f4) = true)
    (a5 : PySem.W.nsIn K mainGlobals "read_deed" = some (some (.ref f5)))
    (l5 : K.lookup f5 = some ⟨oc5, od5, .func (PySem.W.fnOf "read_deed" "read_deed" (defArgs s_p_read_deed) (defBody s_p_read_deed) (defScope s_p_read_deed) .none kV5 dc5 pm5 an5 cd5 ct5), sl5⟩)
    (c5 : PySem.W.codeIn K cd5 "read_deed" = true)
    (k5 : PySem.W.keepIn K (.ref f5) = true)
    (a6 : PySem.W.nsIn K mainGlobals "deed_text" = some (some (.ref f6)))
    (l6 : K.lookup f6 = some ⟨oc6, od6, .func (PySem.W.fnOf "deed_text" "deed_text" (defArgs s_p_deed_text) (defBody s_p_deed_text) (defScope s_p_deed_text) .none kV6 dc6 pm6 an6 cd6 ct6), sl6⟩)
    (c6 : PySem.W.codeIn K cd6 "deed_text" = true)
    (k6 : PySem.W.keepIn K (.ref f6) = true)
    (a7 : PySem.W.nsIn K mainGlobals "_law_cell" = some (some (.ref f7)))
    (l7 : K.lookup f7 = some ⟨oc7, od7, .func (PySem.W.fnOf "_law_cell" "_law_cell" (defArgs s_l_cell) (defBody s_l_cell) (defScope s_l_cell) .none kV7 dc7 pm7 an7 cd7 ct7), sl7⟩)
    (c7 : PySem.W.codeIn K cd7 "_law_cell" = true)
    (k7 : PySem.W.keepIn K (.ref f7) = true)
    (a8 : PySem.W.nsIn K mainGlobals "_law_row" = some (some (.ref f8)))
    (l8 : K.lookup f8 = some ⟨oc8, od8, .func (PySem.W.fnOf "_law_row" "_law_row" (defArgs s_l_row) (defBody s_l_row) (defScope s_l_row) .none kV8 dc8 pm8 an8 cd8 ct8), sl8⟩)
    (c8 : PySem.W.codeIn K cd8 "_law_row" = true)
    (k8 : PySem.W.keepIn K (.ref f8) = true)
    (a9 : PySem.W.nsIn K mainGlobals "_law_like" = some (some (.ref f9)))
    (l9 : K.lookup f9 = some ⟨oc9, od9, .func (PySem.W.fnOf "_law_like" "_law_like" (defArgs s_l_like) (defBody s_l_like) (defScope s_l_like) .none kV9 dc9 pm9 an9 cd9 ct9), sl9⟩)
    (c9 : PySem.W.codeIn K cd9 "_law_like" = true)
    (k9 : PySem.W.keepIn K (.ref f9) = true)
    (a10 : PySem.W.nsIn K mainGlobals "_law_word" = some (some (.ref f10)))
    (l10 : K.lookup f10 = some ⟨oc10, od10, .func (PySem.W.fnOf "_law_word" "_law_word" (defArgs s_l_word) (defBody s_l_word) (defScope s_l_word) .none kV10 dc10 pm10 an10 cd10 ct10), sl10⟩)
    (c10 : PySem.W.codeIn K cd10 "_law_word" = true)
    (k10 : PySem.W.keepIn K (.ref f10) = true)
    (a11 : PySem.W.nsIn K mainGlobals "_law_any_deed" = some (some (.ref f11)))
    (l11 : K.lookup f11 = some ⟨oc11, od11, .func (PySem.W.fnOf "_law_any_deed" "_law_any_deed" (defArgs s_l_any_deed) (defBody s_l_any_deed) (defScope s_l_any_deed) .none kV11 dc11 pm11 an11 cd11 ct11), sl11⟩)
    (c11 : PySem.W.codeIn K cd11 "_law_any_deed" = true)
    (k11 : PySem.W.keepIn K (.ref f11) = true)
    (a12 : PySem.W.nsIn K mainGlobals "law" = some (some (.ref f12)))
    (l12 : K.lookup f12 = some ⟨oc12, od12, .func (PySem.W.fnOf "law" "law" (defArgs s_law) (defBody s_law) (defScope s_law) .none kV12 dc12 pm12 an12 cd12 ct12), sl12⟩)
    (c12 : PySem.W.codeIn K cd12 "law" = true)
    (k12 : PySem.W.keepIn K (.ref f12) = true)
    (q_LETTERS : PySem.W.nsIn K mainGlobals "LETTERS" = some (some (.str "abcdefghijklmnopqrstuvwxyz" tk_LETTERS)))
    (q_LONGEST_WORD : PySem.W.nsIn K mainGlobals "LONGEST_WORD" = some (some (.int 12 tk_LONGEST_WORD)))
    (q_UP : PySem.W.nsIn K mainGlobals "UP" = some (some (.str "up" tk_UP)))
    (q_DOWN : PySem.W.nsIn K mainGlobals "DOWN" = some (some (.str "down" tk_DOWN)))
    (q_FIGURES : PySem.W.nsIn K mainGlobals "FIGURES" = some (some (.str "0123456789" tk_FIGURES)))
    (q_MOST_FIGURES : PySem.W.nsIn K mainGlobals "MOST_FIGURES" = some (some (.int 6 tk_MOST_FIGURES)))
    (q_PARTS : PySem.W.nsIn K mainGlobals "PARTS" = some (some (.ref A_PARTS)))
    (dl_PARTS : K.lookup A_PARTS = some ⟨.type "dict", none, .dict es_PARTS n_PARTS, #[]⟩)
    (lo_PARTS : (A_PARTS == sysModules) = false)
    (kl_PARTS : PySem.W.KeysLit w.params es_PARTS.toList)
    (pn_PARTS_send : PySem.W.nsIn K A_PARTS "send" = some (some (.ref A_PARTS_send)))
    (pl_PARTS_send : K.lookup A_PARTS_send = some ⟨.type "tuple", od_PARTS_send, .seq #[.str "way" tk_PARTS_send_0, .str "number" tk_PARTS_send_1] n_PARTS_send, sl_PARTS_send⟩)
    (pn_PARTS_express : PySem.W.nsIn K A_PARTS "express" = some (some (.ref A_PARTS_express)))
    (pl_PARTS_express : K.lookup A_PARTS_express = some ⟨.type "tuple", od_PARTS_express, .seq #[.str "way" tk_PARTS_express_0, .str "number" tk_PARTS_express_1] n_PARTS_express, sl_PARTS_express⟩)
    (pn_PARTS_say : PySem.W.nsIn K A_PARTS "say" = some (some (.ref A_PARTS_say)))
    (pl_PARTS_say : K.lookup A_PARTS_say = some ⟨.type "tuple", od_PARTS_say, .seq #[.str "way" tk_PARTS_say_0, .str "word" tk_PARTS_say_1] n_PARTS_say, sl_PARTS_say⟩)
    (pn_PARTS_recall : PySem.W.nsIn K A_PARTS "recall" = some (some (.ref A_PARTS_recall)))
    (pl_PARTS_recall : K.lookup A_PARTS_recall = some ⟨.type "tuple", od_PARTS_recall, .seq #[.str "way" tk_PARTS_recall_0] n_PARTS_recall, sl_PARTS_recall⟩)
    (pn_PARTS_act : PySem.W.nsIn K A_PARTS "act" = some (some (.ref A_PARTS_act)))
    (pl_PARTS_act : K.lookup A_PARTS_act = some ⟨.type "tuple", od_PARTS_act, .seq #[.str "number" tk_PARTS_act_0] n_PARTS_act, sl_PARTS_act⟩)
    (pn_PARTS_slip : PySem.W.nsIn K A_PARTS "slip" = some (some (.ref A_PARTS_slip)))
    (pl_PARTS_slip : K.lookup A_PARTS_slip = some ⟨.type "tuple", od_PARTS_slip, .seq #[.str "number" tk_PARTS_slip_0, .str "number" tk_PARTS_slip_1, .str "number" tk_PARTS_slip_2] n_PARTS_slip, sl_PARTS_slip⟩)
    (pn_PARTS_doze : PySem.W.nsIn K A_PARTS "doze" = some (some (.ref A_PARTS_doze)))
    (pl_PARTS_doze : K.lookup A_PARTS_doze = some ⟨.type "tuple", od_PARTS_doze, .seq #[.str "number" tk_PARTS_doze_0] n_PARTS_doze, sl_PARTS_doze⟩)
    (pn_PARTS_wake : PySem.W.nsIn K A_PARTS "wake" = some (some (.ref A_PARTS_wake)))
    (pl_PARTS_wake : K.lookup A_PARTS_wake = some ⟨.type "tuple", od_PARTS_wake, .seq #[.str "number" tk_PARTS_wake_0] n_PARTS_wake, sl_PARTS_wake⟩)
    (pn_PARTS_fog : PySem.W.nsIn K A_PARTS "fog" = some (some (.ref A_PARTS_fog)))
    (pl_PARTS_fog : K.lookup A_PARTS_fog = some ⟨.type "tuple", od_PARTS_fog, .seq #[.str "number" tk_PARTS_fog_0] n_PARTS_fog, sl_PARTS_fog⟩)
    (pn_PARTS_lift : PySem.W.nsIn K A_PARTS "lift" = some (some (.ref A_PARTS_lift)))
    (pl_PARTS_lift : K.lookup A_PARTS_lift = some ⟨.type "tuple", od_PARTS_lift, .seq #[.str "number" tk_PARTS_lift_0] n_PARTS_lift, sl_PARTS_lift⟩)
    (pn_PARTS_beat : PySem.W.nsIn K A_PARTS "beat" = some (some (.ref A_PARTS_beat)))
    (pl_PARTS_beat : K.lookup A_PARTS_beat = some ⟨.type "tuple", od_PARTS_beat, .seq #[] n_PARTS_beat, sl_PARTS_beat⟩)
    (pn_PARTS_settle : PySem.W.nsIn K A_PARTS "settle" = some (some (.ref A_PARTS_settle)))
    (pl_PARTS_settle : K.lookup A_PARTS_settle = some ⟨.type "tuple", od_PARTS_settle, .seq #[] n_PARTS_settle, sl_PARTS_settle⟩)
    (pn_PARTS_turn : PySem.W.nsIn K A_PARTS "turn" = some (some (.ref A_PARTS_turn)))
    (pl_PARTS_turn : K.lookup A_PARTS_turn = some ⟨.type "tuple", od_PARTS_turn, .seq #[] n_PARTS_turn, sl_PARTS_turn⟩)
    (pn_PARTS_lose : PySem.W.nsIn K A_PARTS "lose" = some (some (.ref A_PARTS_lose)))
    (pl_PARTS_lose : K.lookup A_PARTS_lose = some ⟨.type "tuple", od_PARTS_lose, .seq #[.str "way" tk_PARTS_lose_0, .str "number" tk_PARTS_lose_1, .str "number" tk_PARTS_lose_2] n_PARTS_lose, sl_PARTS_lose⟩)
    (pn_PARTS_burn : PySem.W.nsIn K A_PARTS "burn" = some (some (.ref A_PARTS_burn)))
    (pl_PARTS_burn : K.lookup A_PARTS_burn = some ⟨.type "tuple", od_PARTS_burn, .seq #[.str "number" tk_PARTS_burn_0] n_PARTS_burn, sl_PARTS_burn⟩)
    (pn_PARTS_ask : PySem.W.nsIn K A_PARTS "ask" = some (some (.ref A_PARTS_ask)))
    (pl_PARTS_ask : K.lookup A_PARTS_ask = some ⟨.type "tuple", od_PARTS_ask, .seq #[.str "way" tk_PARTS_ask_0, .str "number" tk_PARTS_ask_1, .str "number" tk_PARTS_ask_2] n_PARTS_ask, sl_PARTS_ask⟩)
    (pn_PARTS_enter : PySem.W.nsIn K A_PARTS "enter" = some (some (.ref A_PARTS_enter)))
    (pl_PARTS_enter : K.lookup A_PARTS_enter = some ⟨.type "tuple", od_PARTS_enter, .seq #[.str "number" tk_PARTS_enter_0, .str "number" tk_PARTS_enter_1, .str "word" tk_PARTS_enter_2] n_PARTS_enter, sl_PARTS_enter⟩)
    (pn_PARTS_strike : PySem.W.nsIn K A_PARTS "strike" = some (some (.ref A_PARTS_strike)))
    (pl_PARTS_strike : K.lookup A_PARTS_strike = some ⟨.type "tuple", od_PARTS_strike, .seq #[.str "number" tk_PARTS_strike_0, .str "number" tk_PARTS_strike_1] n_PARTS_strike, sl_PARTS_strike⟩)
    (q_WITH_LISTS : PySem.W.nsIn K mainGlobals "WITH_LISTS" = some (some (.ref A_WITH_LISTS)))
    (tl_WITH_LISTS : K.lookup A_WITH_LISTS = some ⟨.type "tuple", od_WITH_LISTS, .seq #[.str "send" tk_WITH_LISTS_0, .str "express" tk_WITH_LISTS_1, .str "say" tk_WITH_LISTS_2] n_WITH_LISTS, sl_WITH_LISTS⟩)
    (z_all : PySem.W.nsIn K mainGlobals "all" = some none)
    (z_len : PySem.W.nsIn K mainGlobals "len" = some none)
    (z_int : PySem.W.nsIn K mainGlobals "int" = some none)
    (z_zip : PySem.W.nsIn K mainGlobals "zip" = some none)
    (z_str : PySem.W.nsIn K mainGlobals "str" = some none)
    (z_range : PySem.W.nsIn K mainGlobals "range" = some none)
    (z_isinstance : PySem.W.nsIn K mainGlobals "isinstance" = some none)
    (z_bool : PySem.W.nsIn K mainGlobals "bool" = some none)
    (z_list : PySem.W.nsIn K mainGlobals "list" = some none)
    (z_tuple : PySem.W.nsIn K mainGlobals "tuple" = some none) :
    LamX.LawAtS l w K CX0 8 63 "_law_script" mg fa h := by
  have e := hfa.symm.trans (PySem.W.mg_of X G a12)
  cases e
  let T : Txt K mg :=
    { a_MastError := C_MastError,
      g_MastError := PySem.W.mg_of X G e_MastError,
      x_MastError := x_MastError,
      k_MastError := k_MastError,
      b_MastError := b_MastError,
      t_MastError := t_MastError,
      i_MastError := i_MastError,
      h_MastError := h_MastError,
      ga_MastError := ga_MastError,
      gg_MastError := gg_MastError,
      cl_MastError := cl_MastError,
      mo_MastError := mo_MastError,
      v_MastError := v_MastError,
      a_BadLine := C_BadLine,
      g_BadLine := PySem.W.mg_of X G e_BadLine,
      x_BadLine := x_BadLine,
      k_BadLine := k_BadLine,
      b_BadLine := b_BadLine,
      t_BadLine := t_BadLine,
      i_BadLine := i_BadLine,
      h_BadLine := h_BadLine,
      ga_BadLine := ga_BadLine,
      gg_BadLine := gg_BadLine,
      cl_BadLine := cl_BadLine,
      mo_BadLine := mo_BadLine,
      v_BadLine := v_BadLine,
      s_MastError_MastError := s_MastError_MastError,
      s_BadLine_MastError := s_BadLine_MastError,
      c_tab := c_tab,
      P_tab := P_tab,
      W_p_is_word := ⟨_, _, _, _, _, _, _, _, rfl, l1, c1⟩,
      f_p_is_word := f1,
      d_p_is_word := _,
      F_p_is_word := fun_mk (st := s_p_is_word) l1 c1 k1,
      b_p_is_word := (fun_mk (st := s_p_is_word) l1 c1 k1).binds (ps := ["text"]) fun _ _ _ _ _ _ us hl => match us, hl with | [_], _ => rfl,
      g_p_is_word := PySem.W.mg_of X G a1,
      c_tabN := c_tabN,
      P_tabN := P_tabN,
      W_p_is_number := ⟨_, _, _, _, _, _, _, _, rfl, l2, c2⟩,
      f_p_is_number := f2,
      d_p_is_number := _,
      F_p_is_number := fun_mk (st := s_p_is_number) l2 c2 k2,
      b_p_is_number := (fun_mk (st := s_p_is_number) l2 c2 k2).binds (ps := ["text"]) fun _ _ _ _ _ _ us hl => match us, hl with | [_], _ => rfl,
      g_p_is_number := PySem.W.mg_of X G a2,
      f_p_read_part := f3,
      d_p_read_part := _,
      F_p_read_part := fun_mk (st := s_p_read_part) l3 c3 k3,
      b_p_read_part := (fun_mk (st := s_p_read_part) l3 c3 k3).binds (ps := ["kind", "text"]) fun _ _ _ _ _ _ us hl => match us, hl with | [_, _], _ => rfl,
      g_p_read_part := PySem.W.mg_of X G a3,
      f_p_read_parts := f4,
      d_p_read_parts := _,
      F_p_read_parts := fun_mk (st := s_p_read_parts) l4 c4 k4,
      b_p_read_parts := (fun_mk (st := s_p_read_parts) l4 c4 k4).binds (ps := ["kinds", "texts"]) fun _ _ _ _ _ _ us hl => match us, hl with | [_, _], _ => rfl,
      g_p_read_parts := PySem.W.mg_of X G a4,
      f_p_read_deed := f5,
      d_p_read_deed := _,
      F_p_read_deed := fun_mk (st := s_p_read_deed) l5 c5 k5,
      b_p_read_deed := (fun_mk (st := s_p_read_deed) l5 c5 k5).binds (ps := ["text"]) fun _ _ _ _ _ _ us hl => match us, hl with | [_], _ => rfl,
      g_p_read_deed := PySem.W.mg_of X G a5,
      f_p_deed_text := f6,
      d_p_deed_text := _,
      F_p_deed_text := fun_mk (st := s_p_deed_text) l6 c6 k6,
      b_p_deed_text := (fun_mk (st := s_p_deed_text) l6 c6 k6).binds (ps := ["deed"]) fun _ _ _ _ _ _ us hl => match us, hl with | [_], _ => rfl,
      g_p_deed_text := PySem.W.mg_of X G a6,
      f_l_cell := f7,
      d_l_cell := _,
      F_l_cell := fun_mk (st := s_l_cell) l7 c7 k7,
      b_l_cell := (fun_mk (st := s_l_cell) l7 c7 k7).binds (ps := ["_law_script", "_law_at"]) fun _ _ _ _ _ _ us hl => match us, hl with | [_, _], _ => rfl,
      g_l_cell := PySem.W.mg_of X G a7,
      f_l_row := f8,
      d_l_row := _,
      F_l_row := fun_mk (st := s_l_row) l8 c8 k8,
      b_l_row := (fun_mk (st := s_l_row) l8 c8 k8).binds (ps := ["_law_cell_here", "_law_many", "_law_size"]) fun _ _ _ _ _ _ us hl => match us, hl with | [_, _, _], _ => rfl,
      g_l_row := PySem.W.mg_of X G a8,
      f_l_like := f9,
      d_l_like := _,
      F_l_like := fun_mk (st := s_l_like) l9 c9 k9,
      b_l_like := (fun_mk (st := s_l_like) l9 c9 k9).binds (ps := ["_law_found", "_law_due"]) fun _ _ _ _ _ _ us hl => match us, hl with | [_, _], _ => rfl,
      g_l_like := PySem.W.mg_of X G a9,
      f_l_word := f10,
      d_l_word := _,
      F_l_word := fun_mk (st := s_l_word) l10 c10 k10,
      b_l_word := (fun_mk (st := s_l_word) l10 c10 k10).binds (ps := ["_law_cell_here"]) fun _ _ _ _ _ _ us hl => match us, hl with | [_], _ => rfl,
      g_l_word := PySem.W.mg_of X G a10,
      f_l_any_deed := f11,
      d_l_any_deed := _,
      F_l_any_deed := fun_mk (st := s_l_any_deed) l11 c11 k11,
      b_l_any_deed := (fun_mk (st := s_l_any_deed) l11 c11 k11).binds (ps := ["_law_cell_here"]) fun _ _ _ _ _ _ us hl => match us, hl with | [_], _ => rfl,
      g_l_any_deed := PySem.W.mg_of X G a11,
      u_LETTERS := _,
      c_LETTERS := PySem.W.mg_of X G q_LETTERS,
      r_LETTERS := ⟨_, rfl⟩,
      u_LONGEST_WORD := _,
      c_LONGEST_WORD := PySem.W.mg_of X G q_LONGEST_WORD,
      r_LONGEST_WORD := ⟨_, rfl⟩,
      u_UP := _,
      c_UP := PySem.W.mg_of X G q_UP,
      r_UP := ⟨_, rfl⟩,
      u_DOWN := _,
      c_DOWN := PySem.W.mg_of X G q_DOWN,
      r_DOWN := ⟨_, rfl⟩,
      u_FIGURES := _,
      c_FIGURES := PySem.W.mg_of X G q_FIGURES,
      r_FIGURES := ⟨_, rfl⟩,
      u_MOST_FIGURES := _,
      c_MOST_FIGURES := PySem.W.mg_of X G q_MOST_FIGURES,
      r_MOST_FIGURES := ⟨_, rfl⟩,
      a_PARTS := A_PARTS,
      c_PARTS := PySem.W.mg_of X G q_PARTS,
      es_PARTS := es_PARTS,
      n_PARTS := n_PARTS,
      at_PARTS := dl_PARTS,
      pk_PARTS_send := ⟨_, pn_PARTS_send, _, _, _, pl_PARTS_send, rfl, rfl, szl (by simp), (.cons ⟨_, rfl⟩ (.cons ⟨_, rfl⟩ .nil))⟩,
      pk_PARTS_express := ⟨_, pn_PARTS_express, _, _, _, pl_PARTS_express, rfl, rfl, szl (by simp), (.cons ⟨_, rfl⟩ (.cons ⟨_, rfl⟩ .nil))⟩,
      pk_PARTS_say := ⟨_, pn_PARTS_say, _, _, _, pl_PARTS_say, rfl, rfl, szl (by simp), (.cons ⟨_, rfl⟩ (.cons ⟨_, rfl⟩ .nil))⟩,
      pk_PARTS_recall := ⟨_, pn_PARTS_recall, _, _, _, pl_PARTS_recall, rfl, rfl, szl (by simp), (.cons ⟨_, rfl⟩ .nil)⟩,
      pk_PARTS_act := ⟨_, pn_PARTS_act, _, _, _, pl_PARTS_act, rfl, rfl, szl (by simp), (.cons ⟨_, rfl⟩ .nil)⟩,
      pk_PARTS_slip := ⟨_, pn_PARTS_slip, _, _, _, pl_PARTS_slip, rfl, rfl, szl (by simp), (.cons ⟨_, rfl⟩ (.cons ⟨_, rfl⟩ (.cons ⟨_, rfl⟩ .nil)))⟩,
      pk_PARTS_doze := ⟨_, pn_PARTS_doze, _, _, _, pl_PARTS_doze, rfl, rfl, szl (by simp), (.cons ⟨_, rfl⟩ .nil)⟩,
      pk_PARTS_wake := ⟨_, pn_PARTS_wake, _, _, _, pl_PARTS_wake, rfl, rfl, szl (by simp), (.cons ⟨_, rfl⟩ .nil)⟩,
      pk_PARTS_fog := ⟨_, pn_PARTS_fog, _, _, _, pl_PARTS_fog, rfl, rfl, szl (by simp), (.cons ⟨_, rfl⟩ .nil)⟩,
      pk_PARTS_lift := ⟨_, pn_PARTS_lift, _, _, _, pl_PARTS_lift, rfl, rfl, szl (by simp), (.cons ⟨_, rfl⟩ .nil)⟩,
      pk_PARTS_beat := ⟨_, pn_PARTS_beat, _, _, _, pl_PARTS_beat, rfl, rfl, szl (by simp), .nil⟩,
      pk_PARTS_settle := ⟨_, pn_PARTS_settle, _, _, _, pl_PARTS_settle, rfl, rfl, szl (by simp), .nil⟩,
      pk_PARTS_turn := ⟨_, pn_PARTS_turn, _, _, _, pl_PARTS_turn, rfl, rfl, szl (by simp), .nil⟩,
      pk_PARTS_lose := ⟨_, pn_PARTS_lose, _, _, _, pl_PARTS_lose, rfl, rfl, szl (by simp), (.cons ⟨_, rfl⟩ (.cons ⟨_, rfl⟩ (.cons ⟨_, rfl⟩ .nil)))⟩,
      pk_PARTS_burn := ⟨_, pn_PARTS_burn, _, _, _, pl_PARTS_burn, rfl, rfl, szl (by simp), (.cons ⟨_, rfl⟩ .nil)⟩,
      pk_PARTS_ask := ⟨_, pn_PARTS_ask, _, _, _, pl_PARTS_ask, rfl, rfl, szl (by simp), (.cons ⟨_, rfl⟩ (.cons ⟨_, rfl⟩ (.cons ⟨_, rfl⟩ .nil)))⟩,
      pk_PARTS_enter := ⟨_, pn_PARTS_enter, _, _, _, pl_PARTS_enter, rfl, rfl, szl (by simp), (.cons ⟨_, rfl⟩ (.cons ⟨_, rfl⟩ (.cons ⟨_, rfl⟩ .nil)))⟩,
      pk_PARTS_strike := ⟨_, pn_PARTS_strike, _, _, _, pl_PARTS_strike, rfl, rfl, szl (by simp), (.cons ⟨_, rfl⟩ (.cons ⟨_, rfl⟩ .nil))⟩,
      a_WITH_LISTS := A_WITH_LISTS,
      c_WITH_LISTS := PySem.W.mg_of X G q_WITH_LISTS,
      t_WITH_LISTS := ⟨_, _, _, tl_WITH_LISTS, rfl, rfl, szl (by simp), (.cons ⟨_, rfl⟩ (.cons ⟨_, rfl⟩ (.cons ⟨_, rfl⟩ .nil)))⟩,
      m_all := PySem.W.mg_none_of X G z_all,
      m_len := PySem.W.mg_none_of X G z_len,
      m_int := PySem.W.mg_none_of X G z_int,
      m_zip := PySem.W.mg_none_of X G z_zip,
      m_str := PySem.W.mg_none_of X G z_str,
      m_range := PySem.W.mg_none_of X G z_range,
      m_isinstance := PySem.W.mg_none_of X G z_isinstance,
      m_bool := PySem.W.mg_none_of X G z_bool,
      m_list := PySem.W.mg_none_of X G z_list,
      m_tuple := PySem.W.mg_none_of X G z_tuple }
  have hP : h.get? P_tab = some { cls := .none, data := .fields #[] } := own "is_word" (by simp) f1 (PySem.W.mg_of X G a1) c_tab P_tab _ _ _ _ _ _ l1 rfl rfl y_l y_11
  have hc : PySem.W.CodeHd h c_tab P_tab := codeHd_mk X y_l y_11 y_18 y_7 y_9 y_10 y_ne
  have hPN : h.get? P_tabN = some { cls := .none, data := .fields #[] } := own "is_number" (by simp) f2 (PySem.W.mg_of X G a2) c_tabN P_tabN _ _ _ _ _ _ l2 rfl rfl y_lN y_11N
  have hcN : PySem.W.CodeHd h c_tabN P_tabN := codeHd_mk X y_lN y_11N y_18N y_7N y_9N y_10N y_neN
  refine ⟨PySem.W.fnOf "law" "law" (defArgs s_law) (defBody s_law) (defScope s_law) .none kV12 dc12 pm12 an12 cd12 ct12, [(c_tab, P_tab), (c_tabN, P_tabN)], sp_law K P_tab P_tabN, ?_, ?_, ?_, fun s v => .of_eq rfl, fun H a ns hl _ hT hS => ⟨a, ns, rfl, hS, hl, ⟨#[], hT (c_tab, P_tab) (by simp), trivial⟩, ⟨#[], hT (c_tabN, P_tabN) (by simp), trivial⟩, fun _ => rfl⟩, fun base _ _ TB => ok_law T (let tb := TB (c_tab, P_tab) (by simp); ⟨tb.code, tb.bm, tb.gP⟩) (let tb := TB (c_tabN, P_tabN) (by simp); ⟨tb.code, tb.bm, tb.gP⟩) ⟨dl_PARTS, kl_PARTS, lo_PARTS⟩ (fun_mk (st := s_law) l12 c12 k12)⟩
  all_goals (intro p hp; simp only [List.mem_cons, List.not_mem_nil, or_false] at hp)
  · rcases hp with rfl | rfl
    · exact hP
    · exact hPN
  · rcases hp with rfl | rfl
    · exact y_P
    · exact y_PN
  · rcases hp with rfl | rfl
    · exact hc
    · exact hcN
end Mw
open PySem PySem.W PyProof.Rows
set_option maxRecDepth 100000 in
set_option maxHeartbeats 0 in
theorem PySem.Challenge.cw_mastword_k44_deeds_written_holds : PySem.Challenge.rw_mastword_k44_deeds_written.Holds := by
  w_on; o_law; k_head; (case hw => w_witness2)
  k_fill
  refine Mw.walk_tab (l := PySem.Challenge.rw_mastword_k44_deeds_written) (n := 63) (k := 8) (x := "_law_script") (CX := fun _ => L2.CX0) ["is_word", "is_number"] rfl (by decide) rfl ⟨rfl, by decide, by decide⟩ (by decide +kernel) (fun w h Y => PySem.W.kIn_of Y) ?F (fun _ _ _ _ _ h => h)
  case F =>
    intro w mg fa h KX G hmg own
    refine' Mw.all_mk KX G hmg own ?e_MastError ?x_MastError ?k_MastError ?b_MastError ?t_MastError ?i_MastError ?h_MastError ?ga_MastError ?gg_MastError ?cl_MastError ?mo_MastError ?v_MastError ?e_BadLine ?x_BadLine ?k_BadLine ?b_BadLine ?t_BadLine ?i_BadLine ?h_BadLine ?ga_BadLine ?gg_BadLine ?cl_BadLine ?mo_BadLine ?v_BadLine ?s_MastError_MastError ?s_BadLine_MastError ?a1 ?l1 ?c1 ?y_l ?y_11 ?y_18 ?y_7 ?y_9 ?y_10 ?y_ne ?y_P ?k1 ?a2 ?l2 ?c2 ?y_lN ?y_11N ?y_18N ?y_7N ?y_9N ?y_10N ?y_neN ?y_PN ?k2 ?a3 ?l3 ?c3 ?k3 ?a4 ?l4 ?c4 ?k4 ?a5 ?l5 ?c5 ?k5 ?a6 ?l6 ?c6 ?k6 ?a7 ?l7 ?c7 ?k7 ?a8 ?l8 ?c8 ?k8 ?a9 ?l9 ?c9 ?k9 ?a10 ?l10 ?c10 ?k10 ?a11 ?l11 ?c11 ?k11 ?a12 ?l12 ?c12 ?k12 ?q_LETTERS ?q_LONGEST_WORD ?q_UP ?q_DOWN ?q_FIGURES ?q_MOST_FIGURES ?q_PARTS ?dl_PARTS ?lo_PARTS ?kl_PARTS ?pn_PARTS_send ?pl_PARTS_send ?pn_PARTS_express ?pl_PARTS_express ?pn_PARTS_say ?pl_PARTS_say ?pn_PARTS_recall ?pl_PARTS_recall ?pn_PARTS_act ?pl_PARTS_act ?pn_PARTS_slip ?pl_PARTS_slip ?pn_PARTS_doze ?pl_PARTS_doze ?pn_PARTS_wake ?pl_PARTS_wake ?pn_PARTS_fog ?pl_PARTS_fog ?pn_PARTS_lift ?pl_PARTS_lift ?pn_PARTS_beat ?pl_PARTS_beat ?pn_PARTS_settle ?pl_PARTS_settle ?pn_PARTS_turn ?pl_PARTS_turn ?pn_PARTS_lose ?pl_PARTS_lose ?pn_PARTS_burn ?pl_PARTS_burn ?pn_PARTS_ask ?pl_PARTS_ask ?pn_PARTS_enter ?pl_PARTS_enter ?pn_PARTS_strike ?pl_PARTS_strike ?q_WITH_LISTS ?tl_WITH_LISTS ?z_all ?z_len ?z_int ?z_zip ?z_str ?z_range ?z_isinstance ?z_bool ?z_list ?z_tuple
    (case e_MastError => k_is)
    (case x_MastError => k_exc)
    (case k_MastError => k_is)
    (case b_MastError => k_is)
    (case t_MastError => k_is)
    (case i_MastError => k_is)
    (case h_MastError => k_is)
    (case ga_MastError => k_is)
    (case gg_MastError => k_is)
    (case cl_MastError => k_is)
    (case mo_MastError => k_is)
    (case v_MastError => k_is)
    (case e_BadLine => k_is)
    (case x_BadLine => k_exc)
    (case k_BadLine => k_is)
    (case b_BadLine => k_is)
    (case t_BadLine => k_is)
    (case i_BadLine => k_is)
    (case h_BadLine => k_is)
    (case ga_BadLine => k_is)
    (case gg_BadLine => k_is)
    (case cl_BadLine => k_is)
    (case mo_BadLine => k_is)
    (case v_BadLine => k_is)
    (case s_MastError_MastError => (first | rfl | k_is))
    (case s_BadLine_MastError => (first | rfl | k_is))
    (case a1 => k_is)
    (case l1 => k_is)
    (case c1 => k_is)
    (case y_l => k_is)
    (case y_11 => rfl)
    (case y_18 => rfl)
    (case y_7 => rfl)
    (case y_9 => rfl)
    (case y_10 => rfl)
    (case y_ne => (intro z; cases z))
    (case y_P => rfl)
    (case k1 => k_is)
    (case a2 => k_is)
    (case l2 => k_is)
    (case c2 => k_is)
    (case y_lN => k_is)
    (case y_11N => rfl)
    (case y_18N => rfl)
    (case y_7N => rfl)
    (case y_9N => rfl)
    (case y_10N => rfl)
    (case y_neN => (intro z; cases z))
    (case y_PN => rfl)
    (case k2 => k_is)
    (case a3 => k_is)
    (case l3 => k_is)
    (case c3 => k_is)
    (case k3 => k_is)
    (case a4 => k_is)
    (case l4 => k_is)
    (case c4 => k_is)
    (case k4 => k_is)
    (case a5 => k_is)
    (case l5 => k_is)
    (case c5 => k_is)
    (case k5 => k_is)
    (case a6 => k_is)
    (case l6 => k_is)
    (case c6 => k_is)
    (case k6 => k_is)
    (case a7 => k_is)
    (case l7 => k_is)
    (case c7 => k_is)
    (case k7 => k_is)
    (case a8 => k_is)
    (case l8 => k_is)
    (case c8 => k_is)
    (case k8 => k_is)
    (case a9 => k_is)
    (case l9 => k_is)
    (case c9 => k_is)
    (case k9 => k_is)
    (case a10 => k_is)
    (case l10 => k_is)
    (case c10 => k_is)
    (case k10 => k_is)
    (case a11 => k_is)
    (case l11 => k_is)
    (case c11 => k_is)
    (case k11 => k_is)
    (case a12 => k_is)
    (case l12 => k_is)
    (case c12 => k_is)
    (case k12 => k_is)
    (case q_LETTERS => k_is)
    (case q_LONGEST_WORD => k_is)
    (case q_UP => k_is)
    (case q_DOWN => k_is)
    (case q_FIGURES => k_is)
    (case q_MOST_FIGURES => k_is)
    (case q_PARTS => k_is)
    (case dl_PARTS => k_is)
    (case lo_PARTS => (first | rfl | decide))
    (case kl_PARTS => k_keys)
    (case pn_PARTS_send => k_is)
    (case pl_PARTS_send => k_is)
    (case pn_PARTS_express => k_is)
    (case pl_PARTS_express => k_is)
    (case pn_PARTS_say => k_is)
    (case pl_PARTS_say => k_is)
    (case pn_PARTS_recall => k_is)
    (case pl_PARTS_recall => k_is)
    (case pn_PARTS_act => k_is)
    (case pl_PARTS_act => k_is)
    (case pn_PARTS_slip => k_is)
    (case pl_PARTS_slip => k_is)
    (case pn_PARTS_doze => k_is)
    (case pl_PARTS_doze => k_is)
    (case pn_PARTS_wake => k_is)
    (case pl_PARTS_wake => k_is)
    (case pn_PARTS_fog => k_is)
    (case pl_PARTS_fog => k_is)
    (case pn_PARTS_lift => k_is)
    (case pl_PARTS_lift => k_is)
    (case pn_PARTS_beat => k_is)
    (case pl_PARTS_beat => k_is)
    (case pn_PARTS_settle => k_is)
    (case pl_PARTS_settle => k_is)
    (case pn_PARTS_turn => k_is)
    (case pl_PARTS_turn => k_is)
    (case pn_PARTS_lose => k_is)
    (case pl_PARTS_lose => k_is)
    (case pn_PARTS_burn => k_is)
    (case pl_PARTS_burn => k_is)
    (case pn_PARTS_ask => k_is)
    (case pl_PARTS_ask => k_is)
    (case pn_PARTS_enter => k_is)
    (case pl_PARTS_enter => k_is)
    (case pn_PARTS_strike => k_is)
    (case pl_PARTS_strike => k_is)
    (case q_WITH_LISTS => k_is)
    (case tl_WITH_LISTS => k_is)
    (case z_all => k_is)
    (case z_len => k_is)
    (case z_int => k_is)
    (case z_zip => k_is)
    (case z_str => k_is)
    (case z_range => k_is)
    (case z_isinstance => k_is)
    (case z_bool => k_is)
    (case z_list => k_is)
    (case z_tuple => k_is)
