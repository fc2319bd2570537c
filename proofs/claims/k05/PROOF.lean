import PyProof.Rows.All
import Wide.All
import OpenK.AllK
import Wide.FinOn
import HandS.ForMost
import HandS.ForExc
import HandS.AnyAll
import HandS.EndTab
import HandS.ExcIs
import HandS.ExcField
import HandS.ExcInit
import HandS.IsInst
import HandS.Conv
import HandS.Replace
import HandS.Flow
import HandS.Walk
import HandS.Evl
import KE.KExcIs
import HandS.EndOwn
import HandS.CallRecv
import HandS.Deep
import HandS.More
import KE.SortData
import KE.KDictWalk
import HandS.HotCalls
import KE.DataMinMax
import PySem.Challenge.RW_mastword_k05_a_phrasebook
set_option Elab.async false
set_option linter.all false
set_option maxRecDepth 100000
set_option maxHeartbeats 2000000
namespace Mw
open PySem PySem.Spec PyProof.Rows L2
/-! ### what is kept: every tracked thing but the tables of code objects, which stay tables -/
def isT : HO → Bool
  | .tbl _ => true
  | _ => false
structure Kp (H H' : Hp) : Prop where
  same : ∀ a o, isT o = false → H a = some o → H' a = some o
  tab : ∀ a, GxR.TabG H a → GxR.TabG H' a
  free : ∀ a, H' a = none → H a = none
theorem Kp.refl (H : Hp) : Kp H H := ⟨fun _ _ _ h => h, fun _ h => h, fun _ h => h⟩
theorem Kp.trans {H H1 H2 : Hp} (a : Kp H H1) (b : Kp H1 H2) : Kp H H2 :=
  ⟨fun x o t h => b.same x o t (a.same x o t h), fun x h => b.tab x (a.tab x h), fun x h => a.free x (b.free x h)⟩
theorem Kp.mut {H H' : Hp} {p : Addr} {o : HO} (e : Kp H H') (h : H p = none) : Kp H (upd H' p o) := by
  refine ⟨fun a u t ha => ?_, fun a ⟨ps, ha, ht⟩ => ?_, fun a ha => ?_⟩
  · rw [upd_ne (ne_of_none ha h)]
    exact e.same a u t ha
  · obtain ⟨ps', h1, h2⟩ := e.tab a ⟨ps, ha, ht⟩
    exact ⟨ps', by rw [upd_ne (ne_of_none ha h)]; exact h1, h2⟩
  · by_cases q : a = p
    · rw [q]
      exact h
    · rw [upd_ne q] at ha
      exact e.free a ha
theorem Kp.new {H : Hp} {p : Addr} {o : HO} (h : H p = none) : Kp H (upd H p o) := (Kp.refl H).mut h
theorem Kp.rd {H H' : Hp} {a : Addr} {u : HO} (e : Kp H H') (t : isT u = false) (h : Rd H a u) : Rd H' a u := by
  rcases h with h | ⟨o, h⟩
  · exact Or.inl (e.same a _ t h)
  · exact Or.inr ⟨o, e.same a _ rfl h⟩
theorem Kp.sqL {K : PySem.W.Frag} {H H' : Hp} {a : Addr} {xs : List V} (e : Kp H H') (h : SqL K H a xs) : SqL K H' a xs := by
  rcases h with h | h
  · exact Or.inl (e.rd rfl h)
  · exact Or.inr h
theorem Kp.sqT {K : PySem.W.Frag} {H H' : Hp} {a : Addr} {xs : List V} (e : Kp H H') (h : SqT K H a xs) : SqT K H' a xs := by
  rcases h with h | h
  · exact Or.inl (e.rd rfl h)
  · exact Or.inr h
mutual
theorem Kp.dp {K : PySem.W.Frag} {H H' : Hp} (e : Kp H H') : ∀ {d : PyData} {v : V}, Dp K H v d → Dp K H' v d
  | _, _, .non => .non
  | _, _, .bl b => .bl b
  | _, _, .int i => .int i
  | _, _, .str x => .str x
  | _, _, .lst h a => .lst (e.sqL h) (Kp.dpAll e a)
  | _, _, .tup h a => .tup (e.sqT h) (Kp.dpAll e a)
theorem Kp.dpAll {K : PySem.W.Frag} {H H' : Hp} (e : Kp H H') : ∀ {ds : List PyData} {vs : List V}, DpAll K H vs ds → DpAll K H' vs ds
  | _, _, .nil => .nil
  | _, _, .cons h t => .cons (Kp.dp e h) (Kp.dpAll e t)
end
theorem DpAll.len {K : PySem.W.Frag} {H : Hp} : ∀ {vs : List V} {ds : List PyData}, DpAll K H vs ds → vs.length = ds.length
  | _, _, .nil => rfl
  | _, _, .cons _ t => congrArg (· + 1) (DpAll.len t)
theorem DpAll.get {K : PySem.W.Frag} {H : Hp} : ∀ {vs : List V} {ds : List PyData} {i : Nat} {d : PyData}, DpAll K H vs ds → ds[i]? = some d → ∃ v, vs[i]? = some v ∧ Dp K H v d
  | _, _, i, d, .nil, h => by simp at h
  | _, _, 0, d, .cons a _, h => by
    have e := Option.some.inj h
    subst e
    exact ⟨_, rfl, a⟩
  | _, _, i + 1, d, .cons _ t, h => DpAll.get (i := i) t h
theorem DpAll.app {K : PySem.W.Frag} {H : Hp} : ∀ {vs ws : List V} {ds es : List PyData}, DpAll K H vs ds → DpAll K H ws es → DpAll K H (vs ++ ws) (ds ++ es)
  | _, _, _, _, .nil, b => b
  | _, _, _, _, .cons a t, b => .cons a (DpAll.app t b)
/-- data without lists -/
inductive Nl : PyData → Prop
  | non : Nl .none
  | bl (b : Bool) : Nl (.bool b)
  | int (i : Int) : Nl (.int i)
  | str (x : Str) : Nl (.str x)
  | tup {ds : List PyData} : (∀ d ∈ ds, Nl d) → Nl (.tuple ds)
/-! a list may change: what has no list in it stays -/
mutual
theorem Dp.mut {K : PySem.W.Frag} {H : Hp} {p : Addr} {o : HO} {zs : List V} (hp : H p = some (.lst zs)) : ∀ {d : PyData} {v : V}, Nl d → Dp K H v d → Dp K (upd H p o) v d
  | _, _, _, .non => .non
  | _, _, _, .bl b => .bl b
  | _, _, _, .int i => .int i
  | _, _, _, .str x => .str x
  | _, _, n, .lst _ _ => nomatch n
  | _, _, n, .tup h a => by
    cases n with
    | tup n =>
      refine .tup ?_ (DpAll.mut hp n a)
      rcases h with (h | ⟨ob, h⟩) | h
      · exact .inl (.inl (by rw [upd_ne (ne_of h hp (by intro z; cases z))]; exact h))
      · exact .inl (.inr ⟨ob, by rw [upd_ne (ne_of h hp (by intro z; cases z))]; exact h⟩)
      · exact .inr h
theorem DpAll.mut {K : PySem.W.Frag} {H : Hp} {p : Addr} {o : HO} {zs : List V} (hp : H p = some (.lst zs)) : ∀ {ds : List PyData} {vs : List V}, (∀ d ∈ ds, Nl d) → DpAll K H vs ds → DpAll K (upd H p o) vs ds
  | _, _, _, .nil => .nil
  | _, _, n, .cons h t => .cons (Dp.mut hp (n _ List.mem_cons_self) h) (DpAll.mut hp (fun d hd => n d (List.mem_cons_of_mem _ hd)) t)
end
theorem DpAll.snoc {K : PySem.W.Frag} {H : Hp} {vs : List V} {ds : List PyData} {v : V} {d : PyData} (a : DpAll K H vs ds) (h : Dp K H v d) : DpAll K H (vs ++ [v]) (ds ++ [d]) := DpAll.app a (.cons h .nil)
theorem DpAll.dropLast {K : PySem.W.Frag} {H : Hp} : ∀ {vs : List V} {ds : List PyData}, DpAll K H vs ds → DpAll K H vs.dropLast ds.dropLast
  | _, _, .nil => .nil
  | _, _, .cons _ .nil => .nil
  | _, _, .cons h (.cons h2 t) => .cons h (DpAll.dropLast (.cons h2 t))
theorem dp_ints {K : PySem.W.Frag} {H : Hp} : ∀ ns : List Int, DpAll K H (ns.map V.int) (ns.map PyData.int)
  | [] => .nil
  | n :: r => .cons (.int n) (dp_ints r)
theorem dp_strs {K : PySem.W.Frag} {H : Hp} : ∀ ns : List Str, DpAll K H (ns.map V.str) (ns.map PyData.str)
  | [] => .nil
  | n :: r => .cons (.str n) (dp_strs r)
/-- a list of ints, a list of texts as data -/
def dI (ns : List Int) : PyData := .list (ns.map PyData.int)
def dS (ns : List Str) : PyData := .list (ns.map PyData.str)
theorem dp_dI {K : PySem.W.Frag} {H : Hp} {a : Addr} {ns : List Int} (h : SqL K H a (ns.map V.int)) : Dp K H (.ref a) (dI ns) := .lst h (dp_ints ns)
theorem dpAll_ints {K : PySem.W.Frag} {H : Hp} : ∀ {ns : List Int} {vs : List V}, DpAll K H vs (ns.map PyData.int) → vs = ns.map V.int
  | [], _, .nil => rfl
  | n :: r, _, .cons h t => by
    cases h
    rw [dpAll_ints t]
    rfl
theorem dp_of_dI {K : PySem.W.Frag} {H : Hp} {v : V} {ns : List Int} (h : Dp K H v (dI ns)) : ∃ a, v = .ref a ∧ SqL K H a (ns.map V.int) := by
  cases h with
  | lst h t =>
    rw [dpAll_ints t] at h
    exact ⟨_, rfl, h⟩
/-! ### small words -/
theorem at_int {ns : List Int} {j : Nat} (h : j < ns.length) : atI (ns.map V.int) (j : Int) = some (.int ns[j]) := atI_nat (by rw [List.getElem?_map, List.getElem?_eq_getElem h]; rfl)
theorem at_intZ {ns : List Int} {z : Int} (h0 : 0 ≤ z) (h : z.toNat < ns.length) : atI (ns.map V.int) z = some (.int ns[z.toNat]) := by
  have e := at_int h
  rw [Int.toNat_of_nonneg h0] at e
  exact e
theorem szl {n : Nat} (h : n ≤ 100000) : n ≤ sizeLine := Nat.le_trans h (by decide)
theorem szt {n : Nat} (h : n < 100000) : n < sizeLine := Nat.lt_of_lt_of_le h (by decide)
theorem iteB {b : Bool} {A B : Prop} (h1 : b = true → A) (h2 : b = false → B) : if b = true then A else B := by
  cases b with
  | true => rw [if_pos rfl]; exact h1 rfl
  | false => rw [if_neg Bool.false_ne_true]; exact h2 rfl
theorem iteD {c : Prop} [Decidable c] {A B : Prop} (h1 : c → A) (h2 : ¬ c → B) : if decide c = true then A else B :=
  iteB (fun h => h1 (of_decide_eq_true h)) (fun h => h2 (of_decide_eq_false h))
theorem iteN {c : Prop} [Decidable c] {A B : Prop} (h1 : ¬ c → A) (h2 : c → B) : if (!decide c) = true then A else B :=
  iteB (fun h => h1 (fun z => by rw [decide_eq_true z] at h; cases h)) (fun h => h2 (by
    by_cases z : c
    · exact z
    · rw [decide_eq_false z] at h; cases h))
theorem iteTo {b : Bool} {A B : Prop} (e : b = true) (h : A) : if b = true then A else B := by rw [if_pos e]; exact h
theorem iteFo {b : Bool} {A B : Prop} (e : b = false) (h : B) : if b = true then A else B := by rw [e, if_neg Bool.false_ne_true]; exact h
/-! ### rules with the written part by its own name (inside a comprehension) -/
section
variable {X : Cx} (K : PySem.W.Frag)
theorem ix_listK (h : X.K = K) : IxR X (rIxL K) := h ▸ ix_list
theorem ix_tupK (h : X.K = K) : IxR X (rIxT K) := h ▸ ix_tup
theorem ix_seqK (h : X.K = K) : IxR X (rIx K) := h ▸ ix_seq
def rLenSq : List V → Hp → VK → Prop := fun xs H Q => ∃ p ys, xs = [.ref p] ∧ (SqL K H p ys ∨ SqT K H p ys) ∧ Q (.int ys.length) H
theorem call_lenSK (h : X.K = K) : CallR X (.builtin "len") (rLenSq K) := h ▸ call_len_seq
def rLenV : List V → Hp → VK → Prop := fun xs H Q => ∃ x n, xs = [x] ∧ LenV K x H n ∧ Q (.int n) H
theorem call_lenK (h : X.K = K) : CallR X (.builtin "len") (rLenV K) := h ▸ call_len
theorem op_inK (h : X.K = K) : OpR X (compareOp .In) (rIn K false) := h ▸ op_in_seq
theorem op_notInK (h : X.K = K) : OpR X (compareOp .NotIn) (rIn K true) := h ▸ op_notIn_seq
theorem op_eqDK (h : X.K = K) (hu : X.A.units + 64 < cLine) : OpR X (compareOp .Eq) (rEqD K) := h ▸ op_eqD hu
theorem op_neDK (h : X.K = K) (hu : X.A.units + 64 < cLine) : OpR X (compareOp .NotEq) (rNeD K) := h ▸ op_neD hu
theorem call_isiKK (h : X.K = K) : CallR X (.builtin "isinstance") (rIsi K) := h ▸ call_isi
end
section
variable {X : Cx} (K : PySem.W.Frag)
theorem pgK {e : Expr} {n : Nat} {t : TGs} (h : X.K = K) (p : PG X e (gTup X.K n t)) : PG X e (gTup K n t) := h ▸ p
/-- isinstance(e, C), e what the suite has caught (without or with a dict of its own) -/
def rIsX (cls : Value) (d : Option Addr) (a : Addr) : List V → Hp → VK → Prop := fun xs H Q => ∃ (D : Addr) (c : V) (cv : Value) (b : Bool), cls = .ref D ∧ (d = none ∨ ∃ dd fs, d = some dd ∧ H dd = some (.xd fs)) ∧ ExcC K D ∧ xs = [.ref a, c] ∧ ClsV c cv ∧ PySem.W.kitOne K (.ref D) cv = some b ∧ Q (.bl b) H
theorem call_isX {a : Addr} {oe : Obj} {pn : List (Addr × Obj)} {cls : Value} {d : Option Addr} (h : X.K = K) (hz : Zc cls d oe) (hf : ∃ vs, oe.data = .fields vs) : CallR (X.suite a ((a, oe) :: pn)) (.builtin "isinstance") (rIsX K cls d a) := by
  subst h
  intro pins s σ H xs us Q I r h'
  obtain ⟨D, c, cv, b, rfl, hd, C, rfl, hc, hk, q⟩ := h'
  cases r with | cons rx rr =>
  cases rr with | cons rt rr =>
  cases rr
  cases rx
  have ec := hc.eq rt
  subst ec
  obtain ⟨hget, _⟩ := I.pin (a, oe) (List.mem_append_left _ List.mem_cons_self)
  obtain ⟨vs, hv⟩ := hf
  have hcl : (PySem.W.clsIn X.K D).isSome = true := by
    obtain ⟨cd, hc, _⟩ := PySem.W.any_some C.hd
    rw [hc]
    first | rfl | done
  have nc : PySem.W.notCls oe = true := by
    unfold PySem.W.notCls
    rw [hv]
  rcases hd with rfl | ⟨dd, fs, rfl, hdd⟩
  · have J : PySem.W.InstAt s.heap a oe D none := ⟨hget, hz.1, nc, by rw [hz.2]; trivial⟩
    exact PySem.W.kia_one (PySem.W.kitx_exc hcl C.hg C.hk C.hs C.ha C.hn C.ht C.hm) I.kIn J hk (fun z => nomatch z) fun tk => ⟨.bl b, H, I.kept (t' := tk) fun _ _ z => z, rfl, q⟩
  · obtain ⟨mA, hns, hr⟩ := I.hok dd _ hdd
    obtain ⟨od, ho, hl⟩ := lookIn_ns hns
    have J : PySem.W.InstAt s.heap a oe D (some od) := ⟨hget, hz.1, nc, by rw [hz.2]; exact ho⟩
    exact PySem.W.kia_one (PySem.W.kitx_exc hcl C.hg C.hk C.hs C.ha C.hn C.ht C.hm) I.kIn J hk (fun z => nomatch z) fun tk => ⟨.bl b, H, I.kept (t' := tk) fun _ _ z => z, rfl, q⟩
end
/-! ### isinstance of an own error, by what the written part says of its class -/
theorem kit_sub {K : PySem.W.Frag} {t : Value} {C : Addr} (ic : PySem.W.isClsIn K C = true) (tC : PySem.W.typeIn K (.ref C) = some (.type "type")) (h : PySem.W.subIn K t (.ref C) = some true) : PySem.W.kitOne K t (.ref C) = some true := by
  unfold PySem.W.kitOne
  by_cases e : (t == .ref C) = true
  · rw [if_pos e]
  · rw [if_neg e]
    have h2 : ((PySem.W.clsIn K C).isSome && PySem.W.typeIn K (.ref C) == some (.type "type")) = true := by
      have q : (PySem.W.clsIn K C).isSome = true := ic
      rw [q, tC]
      rfl
    show (if ((PySem.W.clsIn K C).isSome && PySem.W.typeIn K (.ref C) == some (.type "type")) = true then PySem.W.subIn K t (.ref C) else none) = some true
    rw [if_pos h2]
    exact h
theorem kit_not {K : PySem.W.Frag} {t : Value} {C : Addr} (ic : PySem.W.isClsIn K C = true) (tC : PySem.W.typeIn K (.ref C) = some (.type "type")) (h : PySem.W.subIn K t (.ref C) = some false) (hs : PySem.W.subIn K t t = some true) : PySem.W.kitOne K t (.ref C) = some false := by
  unfold PySem.W.kitOne
  have e : ¬ (t == .ref C) = true := fun e => by
    have z : t = .ref C := by simpa using e
    rw [z] at h hs
    rw [h] at hs
    cases hs
  rw [if_neg e]
  have h2 : ((PySem.W.clsIn K C).isSome && PySem.W.typeIn K (.ref C) == some (.type "type")) = true := by
    have q : (PySem.W.clsIn K C).isSome = true := ic
    rw [q, tC]
    rfl
  show (if ((PySem.W.clsIn K C).isSome && PySem.W.typeIn K (.ref C) == some (.type "type")) = true then PySem.W.subIn K t (.ref C) else none) = some false
  rw [if_pos h2]
  exact h
theorem meta_ve : PySem.W.kitMeta "ValueError" = true := by decide +kernel
theorem kit_ve {K : PySem.W.Frag} {C : Addr} (h : PySem.W.subIn K (.ref C) (.type "ValueError") = some true) : PySem.W.kitOne K (.ref C) (.type "ValueError") = some true := by
  unfold PySem.W.kitOne
  rw [if_neg (by intro z; cases z)]
  show (if PySem.W.kitMeta "ValueError" = true then PySem.W.subIn K (.ref C) (.type "ValueError") else none) = some true
  rw [if_pos meta_ve]
  exact h
theorem at_mod (z : Str) {m : Int} {n : Nat} (hn : 0 < n) (hl : z.cps.toList.length = n) : ∃ c, atI z.cps.toList (m % (n : Int)) = some c := by
  have h0 : 0 ≤ m % (n : Int) := Int.emod_nonneg _ (by omega)
  have h1 : m % (n : Int) < (n : Int) := Int.emod_lt_of_pos _ (by omega)
  have hj : (m % (n : Int)).toNat < z.cps.toList.length := by omega
  refine ⟨z.cps.toList[(m % (n : Int)).toNat], ?_⟩
  have e := atI_nat (List.getElem?_eq_getElem hj)
  rw [Int.toNat_of_nonneg h0] at e
  exact e
theorem cutV_map {lo hi : Option Int} {ns : List Int} : ∃ ms : List Int, cutV (ns.map V.int) lo hi = ms.map V.int ∧ (∀ m ∈ ms, m ∈ ns) ∧ ms.length ≤ ns.length := by
  unfold cutV
  rw [List.length_map]
  refine ⟨(ns.drop _).take _, by rw [List.map_take, List.map_drop], fun m h => List.mem_of_mem_drop (List.mem_of_mem_take h), ?_⟩
  rw [List.length_take, List.length_drop]
  omega
theorem mem_ints {ns : List Int} {i : Nat} {x : V} (h : (ns.map V.int)[i]? = some x) : ∃ z, z ∈ ns ∧ x = .int z ∧ ns[i]? = some z := by
  rw [List.getElem?_map] at h
  cases e : ns[i]? with
  | none =>
    rw [e] at h
    cases h
  | some z =>
    rw [e] at h
    exact ⟨z, List.mem_of_getElem? e, (Option.some.inj h).symm, rfl⟩
theorem mem_strs {ns : List Str} {i : Nat} {x : V} (h : (ns.map V.str)[i]? = some x) : ∃ z, z ∈ ns ∧ x = .str z ∧ ns[i]? = some z := by
  rw [List.getElem?_map] at h
  cases e : ns[i]? with
  | none =>
    rw [e] at h
    cases h
  | some z =>
    rw [e] at h
    exact ⟨z, List.mem_of_getElem? e, (Option.some.inj h).symm, rfl⟩
theorem take_snoc {α : Type} {l : List α} {i : Nat} {z : α} (h : l[i]? = some z) : l.take (i + 1) = l.take i ++ [z] := by
  rw [List.take_succ, h]
  rfl
/-! ### all(test for x in a text): the test may read the module's names -/
section
open GxR
variable {X : Cx} {pins : List (Addr × Obj)} {σ : L2.St} {H : Hp} {s : Shared}
/-- the test of one sign, the module's names being mg -/
def EltG (prog : Program) (w : World) (mg : Str → Option Value) (sco : Scope) (x : Str) (elt : Expr) (pb : Nat → Bool) : Prop :=
  ∀ (en : Env) (B : Around) (F : Value → Shared → Prop) (c : Nat) (t : Tok) (z : Shared) (m : Str → Option Value),
    en.scope = sco → en.globals = mainGlobals → z.heap.Ns mainGlobals mg → z.heap.Ns en.locals m → m x = some (.str ⟨#[c]⟩ t) →
    wpAny (model prog w) B (eval elt en) (fun y z' => y = .bool (pb c) ∧ Keeps z z') F z
theorem elt_inG {prog : Program} {w : World} {mg : Str → Option Value} {sco : Scope} {x g : Str} {L : Str} {tl : Tok} {p1 p2 p3 : Pos} (kf : sco.kind = .function) (lx : sco.names.lookup x = some .local) (lg : sco.names.lookup g = some .globalImplicit)
    (hL : mg g = some (.str L tl)) (dx : (x == ("__debug__" : Str)) = false := by decide) (dg : (g == ("__debug__" : Str)) = false := by decide) :
    EltG prog w mg sco x (.Compare (.Name x p1) [.In] [.Name g p2] p3) (fun c => decide (c ∈ L.cps.toList)) := by
  intro en B F c t z m es eg ng nl hm
  have kk : en.scope.kind = .function := by rw [es]; exact kf
  refine wpAny_Compare1 ?_ rfl
  refine wpAny_Name (wpAny_loadName_local kk (show en.scope.names.lookup x = some .local by rw [es]; exact lx) nl hm ?_) dx
  refine Calls.Name_function_global kk (show en.scope.names.lookup g = some .globalImplicit by rw [es]; exact lg) (Calls.loadGlobal_global (mg := mg) (by rw [eg]; exact ng) hL ?_) dg
  refine PyProof.Rows.in_str ⟨?_, keeps_refl _⟩
  rw [PySem.StrLaws.found_one L c]
theorem gen_signs {c P : Addr} {elt src : Expr} {x : Str} {px gp : Pos} {sco : Scope} {pb : Nat → Bool} {te : TE} {k : Nat} {Z : Value → Shared → Prop} {R : Str → Hp → Prop}
    (hr : Room k X.A) (TB : TabB X.base X.mg c P) (hco : X.env.code = .ref c) (S : GenS X.env sco x) (hi : PE X src te) (hel : EltG X.prog X.w X.mg sco x elt pb)
    (hs : ∀ v, genFold src X.env v = pure v) (I : Inv X pins σ H s) (h : te σ H fun v H1 => ∃ a : Str, v = .str a ∧ TabG H1 P ∧ R a H1)
    (hZ : ∀ a H1 g z, R a H1 → Ready X pins σ H1 P a pb g z → Z (.ref g) z) :
    wpAny (model X.prog X.w) X.A (eval (.GeneratorExp elt [⟨.Name x px, src, [], 0⟩] sco gp) X.env) Z X.xe s := by
  refine wpAny_GeneratorExp_walksQ hr.hd S.co (closure_ok S.free) S.cell S.dot S.loc S.kind (by have d := hr.dp; omega) ?_ hs
  refine thn (hi.run pins s σ H _ I h) fun xv z1 ⟨v, H1, J, r1, q⟩ => ?_
  obtain ⟨a, rfl, ⟨ps, hP, ht⟩, q⟩ := q
  obtain ⟨t, rfl⟩ := _root_.id r1
  refine wpAny_pyIter_str fun it St W w0 => ?_
  have gP : z1.heap.get? P = some { cls := .none, data := .fields ps } := J.hok P _ hP
  have gP2 : (z1.heap.push it).get? P = some { cls := .none, data := .fields ps } := Heap.get?_push_of_some _ gP
  have ltP : P < z1.heap.objs.size := Heap.lt_size gP
  have hd2 : PySem.W.CodeHd (z1.heap.push it) c P := TB.code.keeps fun b u e => Heap.get?_push_of_some _ (J.bk b u e)
  have nl2 : (z1.heap.push it).NoLimit := J.nolimit.push it
  have go : ∀ (code : Value) (hh : Heap) (tk : Nat) (qs : Array Value), Heap.ExtBut P (z1.heap.push it) hh → (z1.heap.push it).objs.size ≤ hh.objs.size →
      hh.get? P = some { cls := .none, data := .fields qs } → (∃ more, qs = ps ++ more) → TriplesOk qs.toList →
      wpAny (model X.prog X.w) X.A (builtinsFor X.env.globals X.env.builtins) (fun bi s₄ =>
        ∃ Ia fp wr n₀ Pf St₀ pz F, Value.ref z1.heap.objs.size = .ref Ia ∧ (∀ A' : Around, A'.handled = none → Walks X.prog X.w A' Ia fp wr n₀ Pf St₀) ∧
          St₀ 0 s₄.heap ∧ (∀ b ∈ fp, b < s₄.heap.objs.size) ∧ s₄.heap.NoLimit ∧ cStatics ∉ wr ∧
          (∀ hf : Heap, (∀ b o, s₄.heap.get? b = some o → hf.get? b = some o) →
            QuietGen X.prog X.w (genEnv sco (cloFrom X.env.cells sco.names []) s₄.heap.objs.size code bi X.env) x [] elt (List.range s₄.heap.objs.size) wr Pf pz F hf) ∧
          (∀ a h₅ tk gs, gs.bare = true → s₄.heap.objs.size < a → h₅.objs.size = a + 1 → (∀ b o, s₄.heap.get? b = some o → h₅.get? b = some o) →
            WalksS X.prog X.w X.A.in4 a (a :: s₄.heap.objs.size :: List.range s₄.heap.objs.size) (s₄.heap.objs.size :: wr) (GenOnlyQ s₄.gens.size)
              (passing pz n₀ 0).length (fun j y => ∃ i, (passing pz n₀ 0)[j]? = some i ∧ F i y)
              (GenAt X.prog X.w X.A.in4 a s₄.gens.size s₄.heap.objs.size (List.range s₄.heap.objs.size) wr pz n₀ F) →
            GenAt X.prog X.w X.A.in4 a s₄.gens.size s₄.heap.objs.size (List.range s₄.heap.objs.size) wr pz n₀ F 0 { s₄ with gens := s₄.gens.push gs, toks := tk, heap := h₅ } →
            Z (.ref a) { s₄ with gens := s₄.gens.push gs, toks := tk, heap := h₅ })) X.xe { z1 with heap := hh, toks := tk } := by
    intro code hh tk qs ex sz gq mr tq
    obtain ⟨bm, ob, b1, b2, b3, b4, b5, b6, b7, b8⟩ := TB.bm
    have neS : cStatics ≠ P := fun e => by
      obtain ⟨_, ns, _⟩ := J.nolimit
      obtain ⟨oo, es, ep, go1, gd, _⟩ := ns
      rw [e, gP] at go1
      cases go1
      cases gd
    have ltS : cStatics < z1.heap.objs.size := let ⟨_, ns, _⟩ := J.nolimit; ns.lt
    have szp : (z1.heap.push it).objs.size = z1.heap.objs.size + 1 := Heap.size_push ..
    have kp : ∀ b u, b ≠ P → z1.heap.get? b = some u → hh.get? b = some u := fun b u hb e => ex b u hb (Heap.get?_push_of_some _ e)
    have gl1 : z1.heap.Ns mainGlobals X.mg := J.mod.glob.keeps J.bk
    have glh : hh.Ns mainGlobals X.mg := (gl1.push it).extBut ex TB.gP
    refine wpAny_builtinsFor (m := X.mg) (by rw [J.ok.glob]; exact glh) b1 b2 (kp _ _ b4 (J.bk _ _ b5)) b6 b7 b8 ?_
    refine ⟨z1.heap.objs.size, [z1.heap.objs.size], [z1.heap.objs.size], a.cps.size, SignAt a, St, (fun _ => true), (fun i y => ∃ cc, a.cps[i]? = some cc ∧ y = .bool (pb cc)), rfl, W, ?_, ?_, nl2.extBut ex neS, ?_, ?_, ?_⟩
    · refine (W X.A hr.hd).frame _ _ _ w0 fun b hb u e => ex b u (fun eq => ?_) e
      rw [List.mem_singleton.mp hb] at eq
      exact Nat.ne_of_lt ltP eq.symm
    · intro b hb
      rw [List.mem_singleton.mp hb]
      show z1.heap.objs.size < hh.objs.size
      omega
    · exact fun m => Nat.ne_of_lt ltS (List.mem_singleton.mp m)
    · intro hf keep
      refine ⟨fun A' E' i v z2 m2 _ _ _ _ _ => ?_, fun A' E' i v z2 m2 _ hv _ hn hm hk => ?_⟩
      · simp only [List.forIn_nil]
        exact wpAny_pure ⟨rfl, keeps_refl _⟩
      · obtain ⟨cc, u, hcc, rfl⟩ := hv
        have ngl : z2.heap.Ns mainGlobals X.mg := by
          have lt1 : mainGlobals < z1.heap.objs.size := gl1.lt
          obtain ⟨og, es, ep, e1, er⟩ := glh
          exact ⟨og, es, ep, hk mainGlobals (List.mem_range.mpr (Heap.lt_size e1)) (fun m => Nat.ne_of_lt lt1 (List.mem_singleton.mp m)) og (keep _ _ e1), er⟩
        exact wpAny_mono (hel _ A' E' cc u z2 m2 rfl J.ok.glob ngl hn hm) (fun y z3 r => ⟨⟨cc, hcc, r.1⟩, r.2⟩) fun _ _ e => e
    · intro g h5 tk5 gs bare lt5 sz5 k5 W5 at5
      simp only [GxR.passing_true, List.length_range] at W5
      refine hZ a H1 g _ q ⟨_, _, _, _, _, W5.in4_1, at5, ?_, fun z' mv => ?_⟩
      · intro j y sj Qj Ej hy hQj
        obtain ⟨i, hij, cc, hcc, rfl⟩ := hy
        obtain ⟨lj, ej⟩ := List.getElem?_eq_some_iff.mp hij
        rw [List.getElem_range] at ej
        subst ej
        have e9 : a.cps.toList[j]? = some cc := by rw [Array.getElem?_toList]; exact hcc
        have hQ2 : Qj (trF pb a.cps.toList j) sj := hQj
        rw [trF_some e9] at hQ2
        exact wpAny_truthy_bool hQ2
      · obtain ⟨more, em⟩ := mr
        have out : ∀ b u, z1.heap.get? b = some u → b ∉ hh.objs.size :: [z1.heap.objs.size] := fun b u e hb => by
          have lt := Heap.lt_size e
          rcases List.mem_cons.mp hb with y | y
          · rw [y] at lt
            have lt' : (hh.objs.size : Nat) < z1.heap.objs.size := lt
            omega
          · rw [List.mem_singleton.mp y] at lt
            exact Nat.lt_irrefl _ lt
        have J2 := inv_tab (more := more) (h' := z'.heap) (g' := z'.gens) (d' := z'.drawn) (t' := z'.toks) J hP
          (fun b u hb e => mv.heap b u (out b u e) (k5 b u (kp b u hb e)))
          (by rw [← em]; exact mv.heap P _ (out P _ gP) (k5 P _ gq))
          (AllBare.movedS (J.bare.push bare) mv)
        rw [sh_eta z1 z' mv.os] at J2
        exact ⟨upd H1 P (.tbl (ps ++ more)), ⟨⟨ps ++ more, upd_same, by rw [← em]; exact tq⟩, fun b hb => upd_ne hb⟩, J2⟩
  refine ⟨nl2, ?_⟩
  cases hf : codeAmong gp ps.toList with
  | none =>
    refine wpAny_genexprCodeX hco (hd2.code gP2 ht) (hd2.tab gP2) hf fun c' h' tk ex ge lt hc' _ tab' _ => ?_
    obtain ⟨_, _, _, _, _, _, _, _, _, _, _, _, _, _, _, _, _, _, _, tr, _⟩ := hc'
    exact go _ h' tk _ ex (Nat.le_trans ge (Nat.le_of_lt lt)) tab'.2 ⟨_, rfl⟩ tr
  | some cv =>
    refine wpAny_genexprCode_hit hco (hd2.code gP2 ht) hf ?_
    exact go cv (z1.heap.push it) z1.toks ps (Heap.ExtBut.refl _ _) (Nat.le_refl _) gP2 ⟨#[], by simp⟩ ht
theorem pe_allG {c P : Addr} {elt src : Expr} {x : Str} {px p pos gp : Pos} {sco : Scope} {pb : Nat → Bool} {te : TE} {k : Nat}
    (hr : Room k X.A) (hg : Gl X "all") (hm : X.mg "all" = none) (hb : bootBuiltins "all" = some (.builtin "all")) (TB : TabB X.base X.mg c P) (hco : X.env.code = .ref c) (S : GenS X.env sco x) (hi : PE X src te) (hel : EltG X.prog X.w X.mg sco x elt pb)
    (hs : ∀ v, genFold src X.env v = pure v)
    (he : starEach [.GeneratorExp elt [⟨.Name x px, src, [], 0⟩] sco gp] X.env = (false, eval (.GeneratorExp elt [⟨.Name x px, src, [], 0⟩] sco gp) X.env) :: starEach [] X.env := by rfl) :
    PE X (.Call (.Name "all" p) [.GeneratorExp elt [⟨.Name x px, src, [], 0⟩] sco gp] [] pos) (tAllS P pb te) := by
  refine ⟨fun pins z σ H Q I h => ?_⟩
  refine wpAny_Call_Name_kw (ld_blt I hg hm hb (PyProof.Rows.callWith_builtin1 ?_ he (by rfl)))
  rw [he]
  show wpAny _ _ (spliced ((false, eval (.GeneratorExp elt [⟨.Name x px, src, [], 0⟩] sco gp) X.env) :: backTo pos (starEach [] X.env))) _ _ z
  refine Calls.spliced_cons (gen_signs (R := fun a H1 => ∀ H2, Tabbed P H1 H2 → Q (.bl (a.cps.toList.all pb)) H2) hr TB hco S hi hel hs I h fun a H1 g z5 hR hG => ?_)
  obtain ⟨fp, wr, G, F, St, W, st0, tru, fin⟩ := hG
  refine Calls.spliced_nil (call_all_walkS (W.self 0 _ _ _ st0 ⟨g, fp, wr, G, _, F, St, _, rfl, W, st0, tru, fun z' mv => ?_⟩))
  obtain ⟨H2, tb, J⟩ := fin z' mv
  refine ⟨.bl _, H2, J, rfl, ?_⟩
  rw [all_signs a pb]
  exact hR H2 tb
/-- a table may grow -/
theorem kp_tabbed {P : Addr} {H H' : Hp} (h : TabG H P) (t : Tabbed P H H') : Kp H H' := by
  obtain ⟨ps, hP, _⟩ := h
  obtain ⟨⟨qs, hQ, tq⟩, e⟩ := t
  refine ⟨fun b o n hb => ?_, fun b hb => ?_, fun b hb => ?_⟩
  · have ne : b ≠ P := fun z => by
      rw [z, hP] at hb
      cases hb
      cases n
    rw [e b ne]
    exact hb
  · by_cases z : b = P
    · rw [z]
      exact ⟨qs, hQ, tq⟩
    · obtain ⟨rs, h1, h2⟩ := hb
      exact ⟨rs, by rw [e b z]; exact h1, h2⟩
  · by_cases z : b = P
    · rw [z, hQ] at hb
      cases hb
    · rw [e b z] at hb
      exact hb
end

/-! ### a def whose code object is known, a method that may raise in a try, the end with a table -/
structure FunC (K : PySem.W.Frag) (x qual : Str) (st : Stmt) (f : Addr) (fd : FuncData) (c : Addr) : Prop where
  ex : ∃ (oc : Value) (od : Option Addr) (kV doc pm : Value) (an : Option Addr) (ct : Value) (osl : Array (Option Value)),
    fd = PySem.W.fnOf x qual (defArgs st) (defBody st) (defScope st) .none kV doc pm an (.ref c) ct ∧ K.lookup f = some ⟨oc, od, .func fd, osl⟩ ∧ PySem.W.codeIn K (.ref c) qual = true
theorem FunC.ok {P : Program} {w : World} {K : PySem.W.Frag} {mg : Str → Option Value} {base : Heap} {x qual : Str} {st : Stmt} {f c : Addr} {fd : FuncData} {N ps : List Str} {k : Nat} {sp : Sp} (F : FunC K x qual st f fd c) (S : FnScope N ps (defScope st)) (len : ∀ vs H Q E, sp vs H Q E → vs.length = ps.length)
    (body : ∀ (A : Around) (outer : List Env) (s : Shared) (H : Hp) (vs : List V) (Q : VK) (E : XK), Room k (A.deeper (envOfC qual (defScope st) s.heap.objs.size f (.ref c))) → sp vs H Q E →
      ∃ t, PSs (cxOf CX0 P w K mg base N qual (defScope st) f (.ref c) A outer s H E).nox (defBody st) t ∧ t { nx := fun _ H' => Q .non H', rt := Q } (start N vs) H) : FnOk P w K mg base CX0 (k + 1) f fd ps sp := by
  obtain ⟨oc, od, kV, doc, pm, an, ct, osl, rfl, lk, cd⟩ := F.ex
  refine fn_of lk cd S len fun A outer s H vs Q E hr hs => ?_
  obtain ⟨t, h, q⟩ := body A outer s H vs Q E hr hs
  exact ⟨t, h.nox, q⟩
theorem noFree {names : List (Str × NameKind)} {cells : List (Str × Addr)} (h : names.all (fun y => decide (y.2 ≠ .free)) = true) : ∀ y ∈ names, y.2 = .free → ∃ c, cells.lookup y.1 = some c := fun y hy e =>
  absurd e (of_decide_eq_true (List.all_eq_true.mp h y hy))
theorem noCell {names : List (Str × NameKind)} (h : names.all (fun y => decide (y.2 ≠ .cell)) = true) : ∀ y ∈ names, y.2 ≠ .cell := fun y hy => of_decide_eq_true (List.all_eq_true.mp h y hy)
section
variable {X : Cx} {CX : CXT} {k : Nat} {C f : Addr} {fd : FuncData} {ps : List Str} {sp : Sp} {m : Str} {o e : Expr} {es : List Expr} {ta : TE} {t : TA} {E : L2.St → XK} {apos pos : Pos}
def tMethE (C : Addr) (m : Str) (sp : Sp) (E : L2.St → XK) (ta : TE) (t : TA) : TE := fun σ H Q => ta σ H fun x H1 => ∃ a dx fs, x = .ref a ∧ H1 a = some (.ins C dx fs) ∧ fs.lookup m = none ∧ t σ H1 fun vs H2 => sp (.ref a :: vs) H2 Q (E σ)
theorem pe_methE {pl : Sem Bool} (he : PE X o ta) (c : Cls X.K C) (hm : Meth X.K C m f) (F : FnOk X.prog X.w X.K X.mg X.base CX k f fd ps sp) (hr : Room k X.A) (hb : Binds X.K fd ps []) (hx : ∀ σ, PassesAt CX X σ (E σ)) (ha : PA X (e :: es) t)
    (s1 : starEach (e :: es) X.env = (false, eval e X.env) :: starEach es X.env := by rfl) (s2 : (backTo pos (starEach es X.env)).any (·.1) = false := by rfl)
    (ht : eval (.Call (.Attribute o m apos) (e :: es) [] pos) X.env = (do
      let v ← eval o X.env
      standAt apos.atName
      let (g, fst) ← holding [v] (getMethod v m pl)
      callWith pos g fst (backTo pos (starEach (e :: es) X.env)) (backToKw pos (keywordEach [] X.env))) := by rfl) :
    PE X (.Call (.Attribute o m apos) (e :: es) [] pos) (tMethE C m sp E ta t) := by
  refine ⟨fun pins z σ H Q I h => ?_⟩
  refine PySem.W.methodCall_KW (pl := pl) (thn (he.run pins z σ H _ I h) fun u z1 ⟨x, H1, J, rx, a, dx, fs, ex, ea, l, q⟩ => ?_) ht
  subst ex
  obtain rfl : u = Value.ref a := rx
  refine getmeth_ok J ea c hm l ?_
  refine PySem.W.callWith_K (first := [.ref a]) (h₀ := X.base) I.ok.mod.kin hm.kp (thn (ha.run pos pins z1 σ H1 _ J q) fun us z2 ⟨vs, H2, J2, r, q2⟩ => ⟨J2.kIn, ?_⟩) s1 s2
  exact run_fnS (us := .ref a :: us) (vs := .ref a :: vs) F hr hb (hx σ) J2 (.cons rfl r) q2
end
theorem walk_tab {l : PySem.W.OpenLaw} {n k : Nat} {q : Program} {loose : List Str} {XP : (Str → Option Value) → Heap → Prop} {YP : World → Heap → Prop} {d : DefRec} {K : Params → PySem.W.Frag} {CX : World → CXT} {x : Str} (nms : List Str)
    (hn : l.most = some n) (hz : n ≤ sizeLine) (hdf : d.params.defaults = []) (hr : Room k callerA) (hrec : nms.all (fun y => (recsOf q).any fun e => e.name == y) = true) (hY : ∀ (w : World) (h : Heap), YP w h → (K w.params).In h)
    (F : ∀ (w : World) (mg : Str → Option Value) (fa : Addr) (h : Heap), (K w.params).In h → h.Ns mainGlobals mg → mg d.name = some (.ref fa) → (∀ y ∈ nms, ∀ f, mg y = some (.ref f) → LamX.OwnTab (K w.params) f h) → LamX.LawAtS l w (K w.params) (CX w) k n x mg fa h)
    (hCX : ∀ (w : World) (H : Hp) (s : Shared) (e : Value) (s' : Shared), CX w [] H s (fun _ _ _ => False) e s' → False) :
    PySem.W.WalkO q loose XP YP l.row.toRowW d [] (fun f vs => PySem.call f vs) := by
  refine Att.attach_callB hn hdf fun w s0 s1 mg mb fa o pm cd doc a vs ns G Y ho hd hcd hmg hob hin hlen hbits hg => ?_
  have KX := hY w _ Y
  have own : ∀ y ∈ nms, ∀ f, mg y = some (.ref f) → LamX.OwnTab (K w.params) f s1.heap := fun y hy f hf c P o1 fd1 e dd us sl k1 k2 k3 k4 k5 => by
    obtain ⟨dl, hm, he⟩ := List.any_eq_true.mp (List.all_eq_true.mp hrec y hy)
    have en : dl.name = y := beq_iff_eq.mp he
    obtain ⟨a', o', fd', c', P', t1, t2, t3, t4, t5, t6⟩ := G.T.tab dl hm
    rw [en, hf] at t1
    cases t1
    rw [KX _ _ k1] at t2
    cases t2
    rw [k2] at t3
    cases t3
    rw [k3] at t4
    cases t4
    obtain ⟨⟨oc, vc, u1, _, u3, u4⟩, hP⟩ := t6
    rw [KX _ _ k4] at u1
    cases u1
    cases u3
    rw [k5] at u4
    cases u4
    exact hP
  obtain ⟨fd, cs, sp, hT, nT, C, hb, hsp, hF⟩ := F w mg fa _ KX G.T.g hmg own
  exact LamX.law_callTs KX G.T.g G.T.b G.T.builtins G.T.nolimit hg hT nT C G.T.bmain hob hin (Nat.le_trans hlen hz) hr hF hb (fun H hH hS => hsp H a ns hlen hbits hH hS) fun H e s' => hCX w H s1 e s'
theorem codeHd_mk {K : PySem.W.Frag} {h : Heap} {c P : Addr} {dd : Option Addr} {vs : Array Value} {sl : Array (Option Value)} {fl : Str} {tf tg tt : Tok} {fg tx : Int} {b : Bool} (X : K.In h) (l : K.lookup c = some ⟨.type "code", dd, .fields vs, sl⟩) (h11 : vs[11]? = some (.ref P)) (h18 : vs.getD 18 .none = .str fl tf)
    (h7 : vs.getD 7 .none = .int fg tg) (h9 : vs.getD 9 .none = .bool b) (h10 : vs.getD 10 .none = .int tx tt) (ne : c ≠ P) : PySem.W.CodeHd h c P :=
  ⟨_, vs, fl, tf, fg, tg, b, tx, tt, X _ _ l, rfl, rfl, h11, by rw [Array.getD_eq_getD_getElem?, h11]; rfl, h18, h7, h9, h10, ne⟩

/-! ### sorted of data: a list of tuples of one shape -/
def sortD (ds : List PyData) : List PyData := ds.mergeSort (PySem.W.dataLe false id)
theorem each_of {K : PySem.W.Frag} {H : Hp} : ∀ {xs : List V} {us : List Value} {ds : List PyData}, Vals xs us → DpAll K H xs ds → PySem.W.EachIs (fun v d => ∃ x, RelV x v ∧ Dp K H x d) us ds
  | [], _, _, r, h => by
    cases r
    cases h
    exact .nil
  | x :: xs, _, _, r, h => by
    cases r with
    | cons r1 r2 =>
      cases h with
      | cons h1 h2 => exact .cons ⟨x, r1, h1⟩ (each_of r2 h2)
theorem each_back {K : PySem.W.Frag} {H : Hp} : ∀ {us : List Value} {ds : List PyData}, PySem.W.EachIs (fun v d => ∃ x, RelV x v ∧ Dp K H x d) us ds → ∃ ys, Vals ys us ∧ DpAll K H ys ds
  | _, _, .nil => ⟨[], .nil, .nil⟩
  | _, _, .cons ⟨x, r, h⟩ t => by
    obtain ⟨ys, a, b⟩ := each_back t
    exact ⟨x :: ys, .cons r a, .cons h b⟩
def rSortedD (K : PySem.W.Frag) : List V → Hp → VK → Prop := fun vs H Q => ∃ (a : Addr) (xs : List V) (ds : List PyData), vs = [V.ref a] ∧ SqL K H a xs ∧ DpAll K H xs ds ∧ PySem.W.AllAlike ds ∧ PySem.W.Sortable ds ∧ (∀ d ∈ ds, d.depth ≤ 60) ∧
  ∀ ys p, DpAll K H ys (sortD ds) → H p = none → Q (.ref p) (upd H p (.lst ys))
section
variable {X : Cx}
theorem cr_sortedD (hu : X.A.units + 65 < cLine) : CallR X (.builtin "sorted") (rSortedD X.K) := by
  intro pins s σ H vs us Q I r h
  obtain ⟨a, xs, ds, rfl, hs, hd, hal, hsb, hdp, q⟩ := h
  obtain ⟨its, rv, hl, hz⟩ := I.list hs
  obtain ⟨u, rfl, ru⟩ := vals1 r
  obtain rfl : u = Value.ref a := ru
  have e := each_of rv hd
  have er : PySem.W.EachIs (fun v d => ∃ as, Reads s.heap v (id d) as) its ds := e.mono fun v d ⟨x, r, h⟩ => Dp.reads I d x v h r
  have hlen : ds.length ≤ sizeLine := by rw [← DpAll.len hd]; exact hz
  refine PySem.W.sorted_data (enc := id) (bs := ds) hl.isList e er (by rw [List.map_id]; exact hal) (by rw [List.map_id]; exact hsb) hlen (fun d m => ?_) fun out ho eo => ?_
  · have z := hdp d m
    show X.A.units + 2 + d.depth < cLine
    omega
  · obtain ⟨ys, v1, v2⟩ := each_back eo
    obtain ⟨n, hn⟩ := sortedAll_at s.heap its out.toArray
    refine ⟨.ref (s.heap.objs.size + 1), upd H (s.heap.objs.size + 1) (.lst ys), I.laid (t' := s.toks) (fun b o e => sortedAll_old e) (Nat.le_succ _) ⟨?_, out, n, v1, hn⟩, rfl, q ys _ v2 (I.hok.fresh (Nat.le_succ _))⟩
    rw [v1.length, ho]
    exact hlen
end
theorem hu65 {A : Around} {k : Nat} (hr : Room k A) : A.units + 65 < cLine := by
  have z := hr.un
  omega
theorem op_notInDK {X : Cx} (K : PySem.W.Frag) (h : X.K = K) (hu : X.A.units + 65 < cLine) : OpR X (compareOp .NotIn) (rNotInD K) := h ▸ op_notInD hu

/-! ### d.items() of a locked dict whose keys are tuples -/
theorem raw_pairs {X : Cx} {pins : List (Addr × Obj)} {σ : L2.St} {H : Hp} {s : Shared} {d : Addr} {o : Obj} {kvs : List (List Key × V)} (I : Inv X pins σ H s) (h : H d = some (.frz o (.dT kvs))) :
    (d == sysModules) = false ∧ ∃ (es : Array DictEntry) (ep : Nat), o.data = .dict es ep ∧ s.heap.DictRaw d es ep ∧ es.size = kvs.length ∧
      ∀ (i : Nat) (hi : i < es.size) (k : List Key) (v : V), kvs[i]? = some (k, v) → ∃ q : Addr, es[i].key = .ref q ∧ H q = some (.tup (k.map kV)) ∧ RelV v es[i].val := by
  obtain ⟨g0, _, g1, xs, pr, o1, es, ep, g2, g3, g4, g5, _⟩ := I.hok d _ h
  have eo : o = o1 := Option.some.inj (g0.symm.trans g2)
  subst eo
  have hn : es.size = xs.length := by
    have z := congrArg List.length g5
    rw [List.length_map, Array.length_toList] at z
    exact z
  refine ⟨g1, es, ep, g4, ⟨o, g2, g3, g4⟩, by rw [hn]; exact (Paired.length pr).symm, fun i hi k v hk => ?_⟩
  obtain ⟨b, hb, b1, b2, b3⟩ := L2.paired_get pr hk
  have hl : es.toList[i]? = some (entryOfKey (tupleKind (mixKind X.prog X.w)) b) := by
    rw [g5, List.getElem?_map, hb]
    rfl
  have hv : es[i] = entryOfKey (tupleKind (mixKind X.prog X.w)) b := by
    rw [Array.getElem?_toList, Array.getElem?_eq_getElem hi] at hl
    exact Option.some.inj hl
  rw [hv]
  exact ⟨b.2.1, rfl, b2, b3⟩
def Itit (d : Addr) (o : Obj) (kvs : List (List Key × V)) : It where
  go := fun i H => H d = some (.frz o (.dT kvs)) ∧ i < kvs.length
  yld := fun i H x H' => ∃ (T q : Addr) (k : List Key) (v : V), kvs[i]? = some (k, v) ∧ x = .ref T ∧ H T = none ∧ H q = some (.tup (k.map kV)) ∧ H' = upd H T (.tup [.ref q, v])
  stop := fun i H => H d = some (.frz o (.dT kvs)) ∧ kvs.length ≤ i
/-- where the iterator stands: behind i of n entries -/
def ItAt (d it : Addr) (n ep i : Nat) (h : Heap) : Prop := ∃ ok ov, IsItemIter h it d i n ep ok ov
theorem turn_pairs {P : Program} {w : World} {K : PySem.W.Frag} {d : Addr} {o : Obj} {es : Array DictEntry} {ep : Nat} {kvs : List (List Key × V)} {elts : List Expr} {c : Nat} {pos : Pos} (it : Addr) (hod : o.data = .dict es ep) :
    Turn P w K (.Tuple elts c pos) (Itit d o kvs) [it] it (ItAt d it kvs.length ep) := by
  have one : ∀ b : Addr, b ∈ [it] → b = it := fun b hb => List.mem_singleton.mp hb
  refine ⟨List.mem_singleton.mpr rfl, fun i h st b hb => ?_, fun i h h' st k => ?_, ?_, ?_, fun A i s Q E st h => ?_⟩
  · obtain ⟨ok, ov, e⟩ := st
    rw [one b hb]
    exact ⟨_, e, fun v z => by cases z⟩
  · obtain ⟨ok, ov, e⟩ := st
    exact ⟨ok, ov, k it (List.mem_singleton.mpr rfl) _ e⟩
  · intro X hP hw hK hc i pins s σ H E I hf st hg
    subst hP hw hK
    obtain ⟨hd, hi⟩ := hg
    obtain ⟨hs, es2, ep2, hd2, hraw, hsz, hat⟩ := raw_pairs I hd
    rw [hod] at hd2
    cases hd2
    obtain ⟨k, v, hkv⟩ : ∃ k v, kvs[i]? = some (k, v) := ⟨_, _, List.getElem?_eq_getElem hi⟩
    have hie : i < es.size := by rw [hsz]; exact hi
    obtain ⟨q, key, hq, hv⟩ := hat i hie k v hkv
    obtain ⟨ok, ov, he⟩ := st
    rw [← hsz] at he
    have hlt := Heap.lt_size he
    refine wpAny_pyNext_items_item_raw he hraw hie fun h1 out tup sz kept => ⟨_, rfl, ?_⟩
    refine wpAny_letOwnedTupleGo_items (s := { s with heap := h1 }) out fun h2 at2 sb => ?_
    have tup2 := (sb.2 _ (Nat.ne_of_gt hlt)).trans tup
    have okn : ObjOk X.prog X.w (upd H s.heap.objs.size (.tup [.ref q, v])) h2 s.heap.objs.size (.tup [.ref q, v]) :=
      ⟨szl (by show 2 ≤ 100000; decide), [es[i].key, es[i].val], .cons (by rw [key]; rfl) (.cons hv .nil), ⟨_, tup2, rfl, _, rfl⟩⟩
    have I2 := I.turnedNew (t' := s.toks) (ch := [it]) (fun b ob hb e => (sb.2 b fun z => hb (by rw [z]; exact List.mem_singleton.mpr rfl)).trans (kept b ob (fun z => hb (by rw [z]; exact List.mem_singleton.mpr rfl)) e)) hf (Nat.le_refl _) okn
    refine ⟨.ref s.heap.objs.size, _, I2, rfl, ⟨_, q, k, v, hkv, rfl, I.hok.fresh (Nat.le_refl _), hq, rfl⟩, ⟨_, _, by rw [← hsz]; exact at2⟩, fun b hb => ?_⟩
    rw [one b hb, upd_ne (Nat.ne_of_lt hlt)]
    exact (hf it (List.mem_singleton.mpr rfl)).1
  · intro X hP hw hK hc i pins s σ H E I hf st hg
    subst hP hw hK
    obtain ⟨hd, hi⟩ := hg
    obtain ⟨hs, es2, ep2, hd2, hraw, hsz, hat⟩ := raw_pairs I hd
    rw [hod] at hd2
    cases hd2
    obtain ⟨f0, f1, f2, f3, f4, f5⟩ := hf it (List.mem_singleton.mpr rfl)
    obtain ⟨ok, ov, he⟩ := st
    rw [← hsz] at he
    exact wpAny_pyNext_items_end_raw (I.ok.hd hc) he hraw (by rw [hsz]; exact hi) fun h1 eb => ⟨rfl, I.turned (t' := s.toks) (fun b ob hb e => eb b ob hb e) f0 f1 f3 f4 f5⟩
  · obtain ⟨_, _, e⟩ := st
    exact wpAny_pyIter_itemiter e h
def iPairs (td : TE) : TI := fun σ H R => td σ H fun x H1 => ∃ (d : Addr) (o : Obj) (kvs : List (List Key × V)), x = .ref d ∧ H1 d = some (.frz o (.dT kvs)) ∧ R (Itit d o kvs) H1
theorem pi_pairs {X : Cx} {e : Expr} {td : TE} {apos cpos : Pos} {elts : List Expr} {c : Nat} {pos : Pos} (he : PE X e td) (hbase : attributeBase e "items" X.env (eval e X.env) = eval e X.env := by rfl) (hl : (apos.endLine == cpos.line) = true := by rfl) :
    PI X (.Tuple elts c pos) (.Call (.Attribute e "items" apos) [] [] cpos) (iPairs td) := by
  refine ⟨fun pins s σ H R I h => wpAny_Call_method (T := "dict") (id := "dict.items") hbase rfl hl F.plainAttrs_dict F.slot_dict_items F.type_dict_items (thn (he.run pins s σ H _ I h) fun u s1 z => ?_)⟩
  obtain ⟨x, H1, I1, rx, d, o, kvs, rfl, hd, q⟩ := z
  obtain rfl : u = Value.ref d := rx
  obtain ⟨hs, es, ep, hod, hraw, hsz, _⟩ := raw_pairs I1 hd
  have hraw0 := hraw
  obtain ⟨ob, b1, b2, b3⟩ := hraw0
  have I2 : Inv X pins σ H1 { s1 with heap := s1.heap.push { cls := .type "dict_items", data := .fields #[.ref d] } } := I1.kept (t' := s1.toks) fun _ _ g => Heap.get?_push_of_some _ g
  have fin : wpAny (model X.prog X.w) X.A (pyIter (.ref s1.heap.objs.size)) (PIE X pins σ (.Tuple elts c pos) R) X.xe { s1 with heap := s1.heap.push { cls := .type "dict_items", data := .fields #[.ref d] } } := by
    refine wpAny_pyIter_items_raw (d := d) (es := es) (ep := ep) ⟨_, Heap.get?_push_size _ rfl, rfl, rfl⟩ (hraw.at fun _ g => Heap.get?_push_of_some _ g) (pi_one (tk := s1.toks) I2 _ (turn_pairs _ hod) ⟨.none, .none, ?_⟩ q)
    rw [← hsz]
    exact Heap.get?_push_size _ rfl
  refine ⟨hraw.typeIs, ?_, ?_⟩
  · intro a2 e2
    cases e2
    exact ⟨ob, b1, b2.2.1⟩
  · show wpAny _ _ (callWith cpos (.builtin "dict.items") [.ref d] [] []) _ X.xe s1
    exact method_meetsIn F.slot_dict_items F.entry_dict_items rfl (PySem.evalArgs_none ⟨rfl, hraw.typeIs, F.args_dict_items_1 _, _, meets_dict_items_raw d hs, ⟨es, ep, hraw⟩, fin⟩)
theorem walk_pairs {d : Addr} {o : Obj} {kvs : List (List Key × V)} : Walk (Itit d o kvs) kvs.length (fun H => H d = some (.frz o (.dT kvs))) (fun i H x H' => ∃ (T q : Addr) (k : List Key) (v : V), kvs[i]? = some (k, v) ∧ x = .ref T ∧ H T = none ∧ H q = some (.tup (k.map kV)) ∧ H' = upd H T (.tup [.ref q, v])) := by
  constructor
  · exact fun i H hi g => And.intro g hi
  · exact fun H g => And.intro g (Nat.le_refl _)
  · exact fun i H x H' hi g y => y

/-! ### del d[k] of a dict whose keys are tuples -/
theorem KT.drop {H : Hp} {kvs : List (List Key × V)} {xs : List (List Key × Addr × Value)} (r : KT H kvs xs) (k : List Key) : KT H (dropK kvs k) (withoutH xs k) := by
  unfold dropK withoutH
  induction r with
  | nil => exact .nil
  | @cons p q ps qs h t ih =>
    obtain ⟨h1, h2, h3⟩ := h
    by_cases e : p.1 = k
    · have e' : q.1 = k := h1.symm.trans e
      rw [List.filter_cons_of_neg (by simp [e]), List.filter_cons_of_neg (by simp [e'])]
      exact ih
    · have e' : ¬ q.1 = k := fun z => e (h1.trans z)
      rw [List.filter_cons_of_pos (by simp [e]), List.filter_cons_of_pos (by simp [e'])]
      exact .cons ⟨h1, h2, h3⟩ ih
section
variable {X : Cx} {pins : List (Addr × Obj)} {σ : L2.St} {H : Hp} {s : Shared} {a b : Addr} {kvs : List (List Key × V)} {k : List Key} {A : Around} {E : Value → Shared → Prop}
theorem d_delItemT {Q : Unit → Shared → Prop} (hu : A.units + 1 < cLine) (I : Inv X pins σ H s) (e : H a = some (.dT kvs)) (eb : H b = some (.tup (k.map kV))) (l : (valV kvs k).isSome = true) (h : ∀ s', Inv X pins σ (upd H a (.dT (dropK kvs k))) s' → Q () s') :
    wpAny (model X.prog X.w) A (delItem (.ref a) (.ref b)) Q E s := by
  obtain ⟨z, hd, xs, rel, dd⟩ := dt_of I.hok e
  have hz : xs.length ≤ sizeLine := by rw [← Paired.length rel]; exact z
  have hl : (dropK kvs k).length ≤ sizeLine := Nat.le_trans (dropK_le kvs k) z
  obtain ⟨p, hp⟩ : ∃ p, atKey xs k = some p := by
    have q := (rel.val k).isSome_eq
    rw [l, Option.isSome_map] at q
    exact Option.isSome_iff_exists.mp q.symm
  refine wpAny_delItem_heap (hsz := hz) (tupleKind_room_in1 hu) (key_of I.hok eb) hd dd hp fun h' dd' hs => h _ ?_
  obtain ⟨q, es, ep, hq, h2, h3, h4, _, h5⟩ := dd'
  refine d_write I (by rw [e]; exact True.intro) hs ⟨q, hq⟩ ⟨hl, hd, _, L2.KT.keeps (KT.drop rel k) fun c ys ec => ?_, q, es, ep, hq, h2, h3, h4, h5⟩
  rw [upd_ne (ne_of ec e (fun z => nomatch z))]
  exact ec
end
section
variable {X : Cx} {o i : Expr} {td ty : TE} {tpos pos : Pos}
def sDDelT (td ty : TE) : TS := fun D σ H => td σ H fun x H1 => ty σ H1 fun y H2 => ∃ (a b : Addr) (kvs : List (List Key × V)) (k : List Key), x = .ref a ∧ y = .ref b ∧ H2 a = some (.dT kvs) ∧ H2 b = some (.tup (k.map kV)) ∧ (valV kvs k).isSome = true ∧ D.nx σ (upd H2 a (.dT (dropK kvs k)))
theorem ps_ddelT (hu : X.A.units + 1 < cLine) (ho : PE X o td) (hi : PE X i ty) : PS X (.Delete [.Subscript o i tpos] pos) (sDDelT td ty) := by
  refine ⟨fun pins s σ H D I h => ?_⟩
  refine wpAny_Delete (wpAny_deleteEach_cons (wpAny_delete_Subscript (thn (ho.run pins s σ H _ I h) fun u s1 ⟨x, H1, I1, rx, q1⟩ => thn (hi.run pins s1 σ H1 _ I1 q1) fun iv s2 ⟨y, H2, I2, ry, a, b, kvs, k, ex, ey, e, eb, l, q2⟩ => ?_)))
  subst ex ey
  obtain rfl : u = Value.ref a := rx
  obtain rfl : iv = Value.ref b := ry
  exact d_delItemT hu I2 e eb l fun s3 I3 => wpAny_deleteEach_nil ⟨σ, _, I3, q2⟩
end

/-! ### list.count of flat values -/
theorem tbmK {X : Cx} (K : PySem.W.Frag) {e : Expr} {to : TE} {t : TA} {T : String} {r : V → List V → Hp → VK → Prop} (h : X.K = K) (p : PE X e (tBM X.K T r to t)) : PE X e (tBM K T r to t) := h ▸ p
theorem count_eqU {y : V} : ∀ {ys : List V} {us : List Value}, Vals ys us → ys.all flatV = true → us.countP (eqU y) = ys.countP (fun z => eqV z y)
  | [], _, r, _ => by
    cases r
    rfl
  | z :: ys, _, r, f => by
    cases r with
    | cons r1 r2 =>
      rw [List.all_cons, Bool.and_eq_true] at f
      rw [List.countP_cons, List.countP_cons, count_eqU r2 f.2, eqU_of r1 f.1]
def rCntF (K : PySem.W.Frag) : V → List V → Hp → VK → Prop := fun x xs H Q => ∃ (p : Addr) (ys : List V) (y : V), x = .ref p ∧ xs = [y] ∧ SqL K H p ys ∧ flatV y = true ∧ ys.all flatV = true ∧ Q (.int (ys.countP (fun z => eqV z y) : Nat)) H
theorem mt_fcount {X : Cx} : MtR X "list.count" (rCntF X.K) := by
  intro pins s σ H x xs v us Q I rx rxs h
  obtain ⟨p, ys, y, rfl, rfl, hs, fy, fys, q⟩ := h
  cases rx
  obtain ⟨uy, rfl, ry⟩ := rxs.one
  obtain ⟨its, rv, ⟨⟨cls, dd, data, sl⟩, n, ho, hc, hdn, hd⟩, hlen⟩ := I.list hs
  simp only at hc hd
  subst hc hd
  refine call_meets PySem.F.slot_list_count ⟨_, ho, rfl⟩ PySem.F.entry_list_count (PySem.F.args_list_count_2 _ _)
    (SeqAt.list_countAt p its.toArray n dd sl uy (eqU y)) ⟨ho, fun u' hu' => mem_eqAt ry fy rv fys u' (by simpa using hu'), ?_⟩
  have ec : its.toArray.toList.countP (eqU y) = ys.countP (fun z => eqV z y) := count_eqU rv fys
  refine ⟨.int (ys.countP (fun z => eqV z y) : Nat), H, I.tok _, ⟨s.toks, ?_⟩, q⟩
  show Value.int ((its.toArray.toList.countP (eqU y) : Nat) : Int) s.toks = _
  rw [ec]
theorem mt_indexK {X : Cx} (K : PySem.W.Frag) (h : X.K = K) : MtR X "list.index" (rIndex K) := h ▸ mt_index
theorem mt_fcountK {X : Cx} (K : PySem.W.Frag) (h : X.K = K) : MtR X "list.count" (rCntF K) := h ▸ mt_fcount

/-! ### a def that is handed the error which the suite has caught -/
abbrev SpE := Addr → Value → Option Addr → Sp
structure FnE (P : Program) (w : World) (K : PySem.W.Frag) (mg : Str → Option Value) (base : Heap) (k : Nat) (f : Addr) (fd : FuncData) (ps : List Str) (sp : SpE) : Prop where
  len : ∀ a c d vs H Q E, sp a c d vs H Q E → vs.length = ps.length
  run : ∀ (A : Around) (outer : List Env) (s : Shared) (H : Hp) (args : Args) (us : List Value) (vs : List V) (Q : VK) (E : XK) (a : Addr) (oe : Obj) (c : Value) (d : Option Addr), L2H.RoomH k A → L2H.PinOk outer H s (a, oe) → Zc c d oe → (∃ vs, oe.data = .fields vs) → Env0 P w K mg base A outer s H → BindsTo s fd args (ps.zip us) → Vals vs us → sp a c d vs H Q E →
    codeAny (model P w) A (.call (.ref f) args) (CR CX0 outer P w H s Q E) s
theorem fn_ofE {P : Program} {w : World} {K : PySem.W.Frag} {mg : Str → Option Value} {base : Heap} {k : Nat} {f : Addr} {name qual : Str} {params : Arguments} {body : List Stmt} {scope : Scope} {dV kV doc pm cdv ct oc : Value} {an od : Option Addr}
    {osl : Array (Option Value)} {N ps : List Str} {sp : SpE} (lk : K.lookup f = some ⟨oc, od, .func (PySem.W.fnOf name qual params body scope dV kV doc pm an cdv ct), osl⟩) (hcd : PySem.W.codeIn K cdv qual = true) (S : FnScope N ps scope)
    (len : ∀ a c d vs H Q E, sp a c d vs H Q E → vs.length = ps.length)
    (hbody : ∀ (A : Around) (outer : List Env) (s : Shared) (H : Hp) (vs : List V) (Q : VK) (E : XK) (a : Addr) (oe : Obj) (c : Value) (d : Option Addr), Zc c d oe → (∃ vs, oe.data = .fields vs) → L2H.RoomH k (A.deeper (envOfC qual scope s.heap.objs.size f cdv)) → sp a c d vs H Q E →
      ∃ t, PSs (L2H.cxH CX0 P w K mg base N qual scope f cdv A outer s H E (a, oe)) body t ∧ t { nx := fun _ H' => Q .non H', rt := Q } (L2.start N vs) H) :
    FnE P w K mg base (k + 1) f (PySem.W.fnOf name qual params body scope dV kV doc pm an cdv ct) ps sp := by
  refine ⟨len, fun A outer s H args us vs Q E a oe c d hr hpin hz hf e0 hb r hsp => ?_⟩
  have hl := len _ _ _ _ _ _ _ hsp
  have KX : K.In s.heap := e0.mod.kin.keeps fun b o e => (e0.bs b o e).1
  have lim : s.heap.NoLimit := e0.mod.nolimit.keeps fun b o e => (e0.bs b o e).1
  have hkind : ∀ y ∈ ps.zip us, scope.names.lookup y.1 = some .local ∨ (scope.names.lookup y.1 = some .cell ∧ ((cellsFrom (s.heap.objs.size + 1) scope.names []).lookup y.1).isSome = true) := fun ⟨n, v⟩ hy => by
    rcases S.par n (List.of_mem_zip hy).1 with q | q
    · exact .inl q
    · exact .inr ⟨q, PySem.W.cellsFrom_some _ _ _ (.inl q)⟩
  refine codeAny_call_function hr.depth (KX _ _ lk) rfl S.co S.gen rfl (PySem.W.codeRec_of KX hcd) (hb _ _ _ _ ?_)
  refine wpAny_newFunctionEnv_cells S.kind hkind fun env he s1 x => ?_
  subst he
  refine ⟨lim.keeps x.toInCall.keep, codeAny_func ?_⟩
  obtain ⟨t, ht, hq⟩ := hbody A outer s H vs Q E a oe c d hz hf (hr.deeper _) hsp
  have I : Inv (L2H.cxH CX0 P w K mg base N qual scope f cdv A outer s H E (a, oe)) [] (L2.start N vs) H s1 := L2H.inv_startH S hpin e0 hl r x
  refine wpAny_mono (ht.run [] s1 (L2.start N vs) H _ I hq) (fun fl s' hs => ?_) fun e s' hs => hs
  have fin : ∀ {σ' : L2.St} {H' : Hp} {v : V} {u : Value}, Inv (L2H.cxH CX0 P w K mg base N qual scope f cdv A outer s H E (a, oe)) [] σ' H' s' → RelV v u → Q v H' → CE outer P w H s Q u s' :=
    fun {σ' H' v u} J rv q => ⟨v, H', J.os, J.bare, J.base, J.hok, rv, q⟩
  cases fl with
  | ret u =>
    obtain ⟨v, σ', H', J, rv, q⟩ := hs
    exact fin J rv q
  | next =>
    obtain ⟨σ', H', J, q⟩ := hs
    exact fin (v := V.non) (u := Value.none) J rfl q
  | brk =>
    obtain ⟨_, _, _, q⟩ := hs
    exact False.elim q
  | cont =>
    obtain ⟨_, _, _, q⟩ := hs
    exact False.elim q
theorem Fun.okE {P : Program} {w : World} {K : PySem.W.Frag} {mg : Str → Option Value} {base : Heap} {x qual : Str} {st : Stmt} {f : Addr} {fd : FuncData} {N ps : List Str} {k : Nat} {sp : SpE} (F : Fun K x qual st f fd) (S : FnScope N ps (defScope st))
    (len : ∀ a c d vs H Q E, sp a c d vs H Q E → vs.length = ps.length)
    (hbody : ∀ (cdv : Value) (A : Around) (outer : List Env) (s : Shared) (H : Hp) (vs : List V) (Q : VK) (E : XK) (a : Addr) (oe : Obj) (c : Value) (d : Option Addr), Zc c d oe → (∃ vs, oe.data = .fields vs) → L2H.RoomH k (A.deeper (envOfC qual (defScope st) s.heap.objs.size f cdv)) → sp a c d vs H Q E →
      ∃ t, PSs (L2H.cxH CX0 P w K mg base N qual (defScope st) f cdv A outer s H E (a, oe)) (defBody st) t ∧ t { nx := fun _ H' => Q .non H', rt := Q } (L2.start N vs) H) :
    FnE P w K mg base (k + 1) f fd ps sp := by
  obtain ⟨oc, od, kV, doc, pm, an, cdv, ct, osl, rfl, lk, hcd⟩ := F.ex
  exact fn_ofE lk hcd S len (hbody cdv)
/-- the call f(e) in the suite -/
def tCallE (sp : SpE) (a : Addr) (c : Value) (d : Option Addr) (t : TA) : TE := fun σ H Q => t σ H fun vs H1 => sp a c d vs H1 Q fun _ _ _ => False
theorem pe_callE {X : Cx} {k : Nat} {f : Addr} {fd : FuncData} {ps : List Str} {sp : SpE} {x : Str} {q pos : Pos} {e : Expr} {es : List Expr} {t : TA} {a : Addr} {oe : Obj} {pn : List (Addr × Obj)} {c : Value} {d : Option Addr}
    (F : FnE X.prog X.w X.K X.mg X.base k f fd ps sp) (hr : Room k X.A) (hz : Zc c d oe) (hf : ∃ vs, oe.data = .fields vs) (hg : Gl (X.suite a ((a, oe) :: pn)) x) (hm : X.mg x = some (.ref f)) (hk : PySem.W.keepIn X.K (.ref f) = true) (hb : Binds X.K fd ps [])
    (ha : PA (X.suite a ((a, oe) :: pn)) (e :: es) t) (hdb : (x == ("__debug__" : Str)) = false := by decide) (he : starEach (e :: es) X.env = (false, eval e X.env) :: starEach es X.env := by rfl) (hpl : (backTo pos (starEach es X.env)).any (·.1) = false := by rfl) :
    PE (X.suite a ((a, oe) :: pn)) (.Call (.Name x q) (e :: es) [] pos) (tCallE sp a c d t) := by
  refine ⟨fun pins s σ H Q I h => ?_⟩
  refine wpAny_Call_Name_kw (ld_glob I hg hm ?_ hdb)
  refine PySem.W.callWith_K (h₀ := X.base) I.ok.mod.kin hk (thn (ha.run pos pins s σ H _ I h) fun us s1 ⟨vs, H1, I1, r, q⟩ => ⟨I1.kIn, ?_⟩) he hpl
  have hl : us.length = ps.length := by rw [← r.length]; exact F.len _ _ _ _ _ _ _ q
  have b := hb s1 us I1.kIn (by rw [List.append_nil]; exact hl)
  rw [List.append_nil] at b
  have P1 := I1.pin (a, oe) (List.mem_append_left _ List.mem_cons_self)
  have hpin : L2H.PinOk X.stack H1 s1 (a, oe) := ⟨P1.1, P1.2.1, fun hm => (List.mem_cons.mp (I1.stkSub a hm)).elim P1.2.2.1 P1.2.2.2.1, P1.2.2.2.2⟩
  have hr2 : L2H.RoomH k (X.suite a ((a, oe) :: pn)).A := ⟨hr.dp, hr.un⟩
  refine wpAny_call (codeAny_mono (F.run _ X.stack s1 H1 ⟨us, []⟩ us vs Q _ a oe c d hr2 hpin hz hf I1.env0 b r q) fun r s' hq => ?_)
  cases r with
  | error e => exact False.elim hq
  | ok fl =>
    cases fl with
    | ret u => exact I1.after hq
    | next => exact False.elim hq
    | brk => exact False.elim hq
    | cont => exact False.elim hq
/-- isinstance(e, C) in the def that was handed e -/
theorem call_isP {X : Cx} (K : PySem.W.Frag) {a : Addr} {oe : Obj} {cls : Value} {d : Option Addr} (h : X.K = K) (hp : (a, oe) ∈ X.pn) (hz : Zc cls d oe) (hf : ∃ vs, oe.data = .fields vs) : CallR X (.builtin "isinstance") (rIsX K cls d a) := by
  subst h
  intro pins s σ H xs us Q I r h'
  obtain ⟨D, c, cv, b, rfl, hd, C, rfl, hc, hk, q⟩ := h'
  cases r with | cons rx rr =>
  cases rr with | cons rt rr =>
  cases rr
  cases rx
  have ec := hc.eq rt
  subst ec
  obtain ⟨hget, _⟩ := I.pin (a, oe) (List.mem_append_left _ hp)
  obtain ⟨vs, hv⟩ := hf
  have hcl : (PySem.W.clsIn X.K D).isSome = true := by
    obtain ⟨cd, hc, _⟩ := PySem.W.any_some C.hd
    rw [hc]
    first | rfl | done
  have nc : PySem.W.notCls oe = true := by
    unfold PySem.W.notCls
    rw [hv]
  rcases hd with rfl | ⟨dd, fs, rfl, hdd⟩
  · have J : PySem.W.InstAt s.heap a oe D none := ⟨hget, hz.1, nc, by rw [hz.2]; trivial⟩
    exact PySem.W.kia_one (PySem.W.kitx_exc hcl C.hg C.hk C.hs C.ha C.hn C.ht C.hm) I.kIn J hk (fun z => nomatch z) fun tk => ⟨.bl b, H, I.kept (t' := tk) fun _ _ z => z, rfl, q⟩
  · obtain ⟨mA, hns, hr⟩ := I.hok dd _ hdd
    obtain ⟨od, ho, hl⟩ := lookIn_ns hns
    have J : PySem.W.InstAt s.heap a oe D (some od) := ⟨hget, hz.1, nc, by rw [hz.2]; exact ho⟩
    exact PySem.W.kia_one (PySem.W.kitx_exc hcl C.hg C.hk C.hs C.ha C.hn C.ht C.hm) I.kIn J hk (fun z => nomatch z) fun tk => ⟨.bl b, H, I.kept (t' := tk) fun _ _ z => z, rfl, q⟩

/-! ### min, max of a tuple of ints -/
def rMinT (K : PySem.W.Frag) : List V → Hp → VK → Prop := fun vs H Q => ∃ (a : Addr) (n : Int) (ns : List Int), vs = [V.ref a] ∧ SqT K H a ((n :: ns).map V.int) ∧ Q (.int (ns.foldl min n)) H
def rMaxT (K : PySem.W.Frag) : List V → Hp → VK → Prop := fun vs H Q => ∃ (a : Addr) (n : Int) (ns : List Int), vs = [V.ref a] ∧ SqT K H a ((n :: ns).map V.int) ∧ Q (.int (ns.foldl max n)) H
section
variable {X : Cx}
theorem alikeT_ints (ns : List Int) : PySem.W.AlikeAll (ns.map PyData.int) := by
  refine ⟨fun x hx y hy => ?_, fun x hx => ?_⟩
  · obtain ⟨a, _, rfl⟩ := List.mem_map.mp hx
    obtain ⟨b, _, rfl⟩ := List.mem_map.mp hy
    rfl
  · obtain ⟨a, _, rfl⟩ := List.mem_map.mp hx
    intro z
    cases z
theorem dep_intsT : ∀ ns : List Int, PyData.depthAll (ns.map PyData.int) ≤ 1
  | [] => by simp [PyData.depthAll]
  | n :: r => by
    have h := dep_intsT r
    simp only [List.map_cons, PyData.depthAll, PyData.depth]
    omega
theorem cr_minT (hc : X.calm = true) (hu : X.A.units + 64 < cLine) : CallR X (.builtin "min") (rMinT X.K) := by
  intro pins s σ H xs us Q I r h
  obtain ⟨a, n, ns, rfl, hs, q⟩ := h
  obtain ⟨its, rv, hl, _⟩ := I.tuple hs
  rw [Vals.ref1 r]
  refine PySem.W.min_tuple_data (I.ok.hd hc) hl (IntsAre.reads _ rv.ints) (alikeT_ints (n :: ns)) (by have := dep_intsT (n :: ns); rw [List.map_cons] at this; omega) fun i v h' tk bs hv hr hk => ?_
  rw [PySem.W.minD_ints] at hr
  cases hr
  exact ⟨.int _, H, I.kept hk, ⟨_, rfl⟩, q⟩
theorem cr_maxT (hc : X.calm = true) (hu : X.A.units + 64 < cLine) : CallR X (.builtin "max") (rMaxT X.K) := by
  intro pins s σ H xs us Q I r h
  obtain ⟨a, n, ns, rfl, hs, q⟩ := h
  obtain ⟨its, rv, hl, _⟩ := I.tuple hs
  rw [Vals.ref1 r]
  refine PySem.W.max_tuple_data (I.ok.hd hc) hl (IntsAre.reads _ rv.ints) (alikeT_ints (n :: ns)) (by have := dep_intsT (n :: ns); rw [List.map_cons] at this; omega) fun i v h' tk bs hv hr hk => ?_
  rw [PySem.W.maxD_ints] at hr
  cases hr
  exact ⟨.int _, H, I.kept hk, ⟨_, rfl⟩, q⟩
end
theorem sl_tupK {X : Cx} (K : PySem.W.Frag) (h : X.K = K) : SlR X (rSlT K) := h ▸ sl_tup
theorem sl_listK {X : Cx} (K : PySem.W.Frag) (h : X.K = K) : SlR X (rSlL K) := h ▸ sl_list

def top (i : Nat) : Stmt := PySem.Challenge.pw_mastword_k05_a_phrasebook.main.body.getD i (.Pass ⟨0, 0, 0, 0⟩)
abbrev s_p_is_word : Stmt := top 11
theorem sc_p_is_word : FnScope ["text", "letter"] ["text"] (defScope s_p_is_word) := ⟨rfl, rfl, rfl, by decide +kernel, rfl, by decide +kernel, by decide +kernel⟩
abbrev s_p_check_word : Stmt := top 12
theorem sc_p_check_word : FnScope ["text"] ["text"] (defScope s_p_check_word) := ⟨rfl, rfl, rfl, by decide +kernel, rfl, by decide +kernel, by decide +kernel⟩
abbrev s_p_check_place : Stmt := top 13
theorem sc_p_check_place : FnScope ["page", "line"] ["page", "line"] (defScope s_p_check_place) := ⟨rfl, rfl, rfl, by decide +kernel, rfl, by decide +kernel, by decide +kernel⟩
abbrev s_p_Phrasebook_init : Stmt := inClass (top 14) 0
theorem sc_p_Phrasebook_init : FnScope ["self"] ["self"] (defScope s_p_Phrasebook_init) := ⟨rfl, rfl, rfl, by decide +kernel, rfl, by decide +kernel, by decide +kernel⟩
abbrev s_p_Phrasebook_enter : Stmt := inClass (top 14) 1
theorem sc_p_Phrasebook_enter : FnScope ["self", "page", "line", "word"] ["self", "page", "line", "word"] (defScope s_p_Phrasebook_enter) := ⟨rfl, rfl, rfl, by decide +kernel, rfl, by decide +kernel, by decide +kernel⟩
abbrev s_p_Phrasebook_strike : Stmt := inClass (top 14) 2
theorem sc_p_Phrasebook_strike : FnScope ["self", "page", "line", "word"] ["self", "page", "line"] (defScope s_p_Phrasebook_strike) := ⟨rfl, rfl, rfl, by decide +kernel, rfl, by decide +kernel, by decide +kernel⟩
abbrev s_p_Phrasebook_place_of : Stmt := inClass (top 14) 3
theorem sc_p_Phrasebook_place_of : FnScope ["self", "word"] ["self", "word"] (defScope s_p_Phrasebook_place_of) := ⟨rfl, rfl, rfl, by decide +kernel, rfl, by decide +kernel, by decide +kernel⟩
abbrev s_p_Phrasebook_word_at : Stmt := inClass (top 14) 4
theorem sc_p_Phrasebook_word_at : FnScope ["self", "page", "line"] ["self", "page", "line"] (defScope s_p_Phrasebook_word_at) := ⟨rfl, rfl, rfl, by decide +kernel, rfl, by decide +kernel, by decide +kernel⟩
abbrev s_p_Phrasebook_words : Stmt := inClass (top 14) 5
theorem sc_p_Phrasebook_words : FnScope ["self", "word", "page", "line"] ["self"] (defScope s_p_Phrasebook_words) := ⟨rfl, rfl, rfl, by decide +kernel, rfl, by decide +kernel, by decide +kernel⟩
abbrev s_l_cell : Stmt := top 16
theorem sc_l_cell : FnScope ["_law_script", "_law_at"] ["_law_script", "_law_at"] (defScope s_l_cell) := ⟨rfl, rfl, rfl, by decide +kernel, rfl, by decide +kernel, by decide +kernel⟩
abbrev s_l_row : Stmt := top 17
theorem sc_l_row : FnScope ["_law_cell_here", "_law_many", "_law_size", "_law_row_here", "_law_rest", "_law_k", "_law_seed", "_law_mixed"] ["_law_cell_here", "_law_many", "_law_size"] (defScope s_l_row) := ⟨rfl, rfl, rfl, by decide +kernel, rfl, by decide +kernel, by decide +kernel⟩
abbrev s_l_like : Stmt := top 18
theorem sc_l_like : FnScope ["_law_found", "_law_due", "_law_k"] ["_law_found", "_law_due"] (defScope s_l_like) := ⟨rfl, rfl, rfl, by decide +kernel, rfl, by decide +kernel, by decide +kernel⟩
abbrev s_l_word : Stmt := top 19
theorem sc_l_word : FnScope ["_law_cell_here", "_law_nums", "_law_some", "_law_num", "_law_size"] ["_law_cell_here"] (defScope s_l_word) := ⟨rfl, rfl, rfl, by decide +kernel, rfl, by decide +kernel, by decide +kernel⟩
abbrev s_l_is_word : Stmt := top 20
theorem sc_l_is_word : FnScope ["_law_text", "_law_sign"] ["_law_text"] (defScope s_l_is_word) := ⟨rfl, rfl, rfl, by decide +kernel, rfl, by decide +kernel, by decide +kernel⟩
abbrev s_l_word_deed : Stmt := top 21
theorem sc_l_word_deed : FnScope ["_law_state", "_law_deed", "_law_there", "_law_word_here"] ["_law_state", "_law_deed"] (defScope s_l_word_deed) := ⟨rfl, rfl, rfl, by decide +kernel, rfl, by decide +kernel, by decide +kernel⟩
abbrev s_l_book_deeds : Stmt := top 22
theorem sc_l_book_deeds : FnScope ["_law_script", "_law_at", "_law_many", "_law_deeds", "_law_k", "_law_nums", "_law_spot", "_law_word_here"] ["_law_script", "_law_at", "_law_many"] (defScope s_l_book_deeds) := ⟨rfl, rfl, rfl, by decide +kernel, rfl, by decide +kernel, by decide +kernel⟩
abbrev s_l_kind : Stmt := top 23
theorem sc_l_kind : FnScope ["_law_e", "_law_kinds"] ["_law_e"] (defScope s_l_kind) := ⟨rfl, rfl, rfl, by decide +kernel, rfl, by decide +kernel, by decide +kernel⟩
abbrev s_l_tried : Stmt := top 24
theorem sc_l_tried : FnScope ["_law_book", "_law_deed", "_law_told", "_law_e"] ["_law_book", "_law_deed"] (defScope s_l_tried) := ⟨rfl, rfl, rfl, by decide +kernel, rfl, by decide +kernel, by decide +kernel⟩
abbrev s_l_right : Stmt := top 25
theorem sc_l_right : FnScope ["_law_book", "_law_words", "_law_deed", "_law_word_here", "_law_there", "_law_told", "_law_e"] ["_law_book", "_law_words", "_law_deed"] (defScope s_l_right) := ⟨rfl, rfl, rfl, by decide +kernel, rfl, by decide +kernel, by decide +kernel⟩
abbrev s_law : Stmt := top 26
theorem sc_law : FnScope ["_law_script", "_law_book", "_law_other", "_law_state", "_law_deed", "_law_due", "_law_told"] ["_law_script"] (defScope s_law) := ⟨rfl, rfl, rfl, by decide +kernel, rfl, by decide +kernel, by decide +kernel⟩
structure Txt (K : PySem.W.Frag) (mg : Str → Option Value) where
  a_MastError : Addr
  a_BadPlace : Addr
  a_BadWord : Addr
  a_Taken : Addr
  a_Known : Addr
  a_NoWord : Addr
  g_MastError : mg "MastError" = some (.ref a_MastError)
  x_MastError : PySem.W.excIn K a_MastError [.type "ValueError", .type "Exception", .type "BaseException", .type "object"] "ValueError.__new__" = true
  k_MastError : PySem.W.keepIn K (.ref a_MastError) = true
  b_MastError : PySem.W.subIn K (.ref a_MastError) (.type "BaseException") = some true
  t_MastError : PySem.W.typeIn K (.ref a_MastError) = some (.type "type")
  i_MastError : PySem.W.isClsIn K a_MastError = true
  h_MastError : PySem.W.hasDictIn K a_MastError = true
  ga_MastError : PySem.W.findIn K (.ref a_MastError) "__getattribute__" = some (some (.builtin "BaseException.__getattribute__"))
  gg_MastError : PySem.W.findIn K (.ref a_MastError) "__getattr__" = some none
  cl_MastError : PySem.W.findIn K (.ref a_MastError) "__class__" = some (some (.builtin "object.__class__"))
  mo_MastError : PySem.W.mroIn K a_MastError (.type "object") = some true
  v_MastError : PySem.W.subIn K (.ref a_MastError) (.type "ValueError") = some true
  s_MastError_MastError : PySem.W.subIn K (.ref a_MastError) (.ref a_MastError) = some true
  g_BadPlace : mg "BadPlace" = some (.ref a_BadPlace)
  x_BadPlace : PySem.W.excIn K a_BadPlace [.type "ValueError", .type "Exception", .type "BaseException", .type "object"] "ValueError.__new__" = true
  k_BadPlace : PySem.W.keepIn K (.ref a_BadPlace) = true
  b_BadPlace : PySem.W.subIn K (.ref a_BadPlace) (.type "BaseException") = some true
  t_BadPlace : PySem.W.typeIn K (.ref a_BadPlace) = some (.type "type")
  i_BadPlace : PySem.W.isClsIn K a_BadPlace = true
  h_BadPlace : PySem.W.hasDictIn K a_BadPlace = true
  ga_BadPlace : PySem.W.findIn K (.ref a_BadPlace) "__getattribute__" = some (some (.builtin "BaseException.__getattribute__"))
  gg_BadPlace : PySem.W.findIn K (.ref a_BadPlace) "__getattr__" = some none
  cl_BadPlace : PySem.W.findIn K (.ref a_BadPlace) "__class__" = some (some (.builtin "object.__class__"))
  mo_BadPlace : PySem.W.mroIn K a_BadPlace (.type "object") = some true
  v_BadPlace : PySem.W.subIn K (.ref a_BadPlace) (.type "ValueError") = some true
  s_BadPlace_MastError : PySem.W.subIn K (.ref a_BadPlace) (.ref a_MastError) = some true
  s_BadPlace_BadPlace : PySem.W.subIn K (.ref a_BadPlace) (.ref a_BadPlace) = some true
  s_BadPlace_BadWord : PySem.W.subIn K (.ref a_BadPlace) (.ref a_BadWord) = some false
  s_BadPlace_Taken : PySem.W.subIn K (.ref a_BadPlace) (.ref a_Taken) = some false
  s_BadPlace_Known : PySem.W.subIn K (.ref a_BadPlace) (.ref a_Known) = some false
  s_BadPlace_NoWord : PySem.W.subIn K (.ref a_BadPlace) (.ref a_NoWord) = some false
  g_BadWord : mg "BadWord" = some (.ref a_BadWord)
  x_BadWord : PySem.W.excIn K a_BadWord [.type "ValueError", .type "Exception", .type "BaseException", .type "object"] "ValueError.__new__" = true
  k_BadWord : PySem.W.keepIn K (.ref a_BadWord) = true
  b_BadWord : PySem.W.subIn K (.ref a_BadWord) (.type "BaseException") = some true
  t_BadWord : PySem.W.typeIn K (.ref a_BadWord) = some (.type "type")
  i_BadWord : PySem.W.isClsIn K a_BadWord = true
  h_BadWord : PySem.W.hasDictIn K a_BadWord = true
  ga_BadWord : PySem.W.findIn K (.ref a_BadWord) "__getattribute__" = some (some (.builtin "BaseException.__getattribute__"))
  gg_BadWord : PySem.W.findIn K (.ref a_BadWord) "__getattr__" = some none
  cl_BadWord : PySem.W.findIn K (.ref a_BadWord) "__class__" = some (some (.builtin "object.__class__"))
  mo_BadWord : PySem.W.mroIn K a_BadWord (.type "object") = some true
  v_BadWord : PySem.W.subIn K (.ref a_BadWord) (.type "ValueError") = some true
  s_BadWord_MastError : PySem.W.subIn K (.ref a_BadWord) (.ref a_MastError) = some true
  s_BadWord_BadPlace : PySem.W.subIn K (.ref a_BadWord) (.ref a_BadPlace) = some false
  s_BadWord_BadWord : PySem.W.subIn K (.ref a_BadWord) (.ref a_BadWord) = some true
  s_BadWord_Taken : PySem.W.subIn K (.ref a_BadWord) (.ref a_Taken) = some false
  s_BadWord_Known : PySem.W.subIn K (.ref a_BadWord) (.ref a_Known) = some false
  s_BadWord_NoWord : PySem.W.subIn K (.ref a_BadWord) (.ref a_NoWord) = some false
  g_Taken : mg "Taken" = some (.ref a_Taken)
  x_Taken : PySem.W.excIn K a_Taken [.type "ValueError", .type "Exception", .type "BaseException", .type "object"] "ValueError.__new__" = true
  k_Taken : PySem.W.keepIn K (.ref a_Taken) = true
  b_Taken : PySem.W.subIn K (.ref a_Taken) (.type "BaseException") = some true
  t_Taken : PySem.W.typeIn K (.ref a_Taken) = some (.type "type")
  i_Taken : PySem.W.isClsIn K a_Taken = true
  h_Taken : PySem.W.hasDictIn K a_Taken = true
  ga_Taken : PySem.W.findIn K (.ref a_Taken) "__getattribute__" = some (some (.builtin "BaseException.__getattribute__"))
  gg_Taken : PySem.W.findIn K (.ref a_Taken) "__getattr__" = some none
  cl_Taken : PySem.W.findIn K (.ref a_Taken) "__class__" = some (some (.builtin "object.__class__"))
  mo_Taken : PySem.W.mroIn K a_Taken (.type "object") = some true
  v_Taken : PySem.W.subIn K (.ref a_Taken) (.type "ValueError") = some true
  s_Taken_MastError : PySem.W.subIn K (.ref a_Taken) (.ref a_MastError) = some true
  s_Taken_BadPlace : PySem.W.subIn K (.ref a_Taken) (.ref a_BadPlace) = some false
  s_Taken_BadWord : PySem.W.subIn K (.ref a_Taken) (.ref a_BadWord) = some false
  s_Taken_Taken : PySem.W.subIn K (.ref a_Taken) (.ref a_Taken) = some true
  s_Taken_Known : PySem.W.subIn K (.ref a_Taken) (.ref a_Known) = some false
  s_Taken_NoWord : PySem.W.subIn K (.ref a_Taken) (.ref a_NoWord) = some false
  g_Known : mg "Known" = some (.ref a_Known)
  x_Known : PySem.W.excIn K a_Known [.type "ValueError", .type "Exception", .type "BaseException", .type "object"] "ValueError.__new__" = true
  k_Known : PySem.W.keepIn K (.ref a_Known) = true
  b_Known : PySem.W.subIn K (.ref a_Known) (.type "BaseException") = some true
  t_Known : PySem.W.typeIn K (.ref a_Known) = some (.type "type")
  i_Known : PySem.W.isClsIn K a_Known = true
  h_Known : PySem.W.hasDictIn K a_Known = true
  ga_Known : PySem.W.findIn K (.ref a_Known) "__getattribute__" = some (some (.builtin "BaseException.__getattribute__"))
  gg_Known : PySem.W.findIn K (.ref a_Known) "__getattr__" = some none
  cl_Known : PySem.W.findIn K (.ref a_Known) "__class__" = some (some (.builtin "object.__class__"))
  mo_Known : PySem.W.mroIn K a_Known (.type "object") = some true
  v_Known : PySem.W.subIn K (.ref a_Known) (.type "ValueError") = some true
  s_Known_MastError : PySem.W.subIn K (.ref a_Known) (.ref a_MastError) = some true
  s_Known_BadPlace : PySem.W.subIn K (.ref a_Known) (.ref a_BadPlace) = some false
  s_Known_BadWord : PySem.W.subIn K (.ref a_Known) (.ref a_BadWord) = some false
  s_Known_Taken : PySem.W.subIn K (.ref a_Known) (.ref a_Taken) = some false
  s_Known_Known : PySem.W.subIn K (.ref a_Known) (.ref a_Known) = some true
  s_Known_NoWord : PySem.W.subIn K (.ref a_Known) (.ref a_NoWord) = some false
  g_NoWord : mg "NoWord" = some (.ref a_NoWord)
  x_NoWord : PySem.W.excIn K a_NoWord [.type "ValueError", .type "Exception", .type "BaseException", .type "object"] "ValueError.__new__" = true
  k_NoWord : PySem.W.keepIn K (.ref a_NoWord) = true
  b_NoWord : PySem.W.subIn K (.ref a_NoWord) (.type "BaseException") = some true
  t_NoWord : PySem.W.typeIn K (.ref a_NoWord) = some (.type "type")
  i_NoWord : PySem.W.isClsIn K a_NoWord = true
  h_NoWord : PySem.W.hasDictIn K a_NoWord = true
  ga_NoWord : PySem.W.findIn K (.ref a_NoWord) "__getattribute__" = some (some (.builtin "BaseException.__getattribute__"))
  gg_NoWord : PySem.W.findIn K (.ref a_NoWord) "__getattr__" = some none
  cl_NoWord : PySem.W.findIn K (.ref a_NoWord) "__class__" = some (some (.builtin "object.__class__"))
  mo_NoWord : PySem.W.mroIn K a_NoWord (.type "object") = some true
  v_NoWord : PySem.W.subIn K (.ref a_NoWord) (.type "ValueError") = some true
  s_NoWord_MastError : PySem.W.subIn K (.ref a_NoWord) (.ref a_MastError) = some true
  s_NoWord_BadPlace : PySem.W.subIn K (.ref a_NoWord) (.ref a_BadPlace) = some false
  s_NoWord_BadWord : PySem.W.subIn K (.ref a_NoWord) (.ref a_BadWord) = some false
  s_NoWord_Taken : PySem.W.subIn K (.ref a_NoWord) (.ref a_Taken) = some false
  s_NoWord_Known : PySem.W.subIn K (.ref a_NoWord) (.ref a_Known) = some false
  s_NoWord_NoWord : PySem.W.subIn K (.ref a_NoWord) (.ref a_NoWord) = some true
  a_Phrasebook : Addr
  g_Phrasebook : mg "Phrasebook" = some (.ref a_Phrasebook)
  cl_Phrasebook : Cls K a_Phrasebook
  n_Phrasebook_word_by_place : NoAttr K a_Phrasebook "word_by_place"
  n_Phrasebook_place_by_word : NoAttr K a_Phrasebook "place_by_word"
  f_p_is_word : Addr
  d_p_is_word : FuncData
  c_tab : Addr
  P_tab : Addr
  W_p_is_word : FunC K "is_word" "is_word" s_p_is_word f_p_is_word d_p_is_word c_tab
  F_p_is_word : Fun K "is_word" "is_word" s_p_is_word f_p_is_word d_p_is_word
  b_p_is_word : Binds K d_p_is_word ["text"] []
  g_p_is_word : mg "is_word" = some (.ref f_p_is_word)
  f_p_check_word : Addr
  d_p_check_word : FuncData
  F_p_check_word : Fun K "check_word" "check_word" s_p_check_word f_p_check_word d_p_check_word
  b_p_check_word : Binds K d_p_check_word ["text"] []
  g_p_check_word : mg "check_word" = some (.ref f_p_check_word)
  f_p_check_place : Addr
  d_p_check_place : FuncData
  F_p_check_place : Fun K "check_place" "check_place" s_p_check_place f_p_check_place d_p_check_place
  b_p_check_place : Binds K d_p_check_place ["page", "line"] []
  g_p_check_place : mg "check_place" = some (.ref f_p_check_place)
  f_p_Phrasebook_init : Addr
  d_p_Phrasebook_init : FuncData
  F_p_Phrasebook_init : Fun K "__init__" "Phrasebook.__init__" s_p_Phrasebook_init f_p_Phrasebook_init d_p_Phrasebook_init
  b_p_Phrasebook_init : Binds K d_p_Phrasebook_init ["self"] []
  M_p_Phrasebook_init : Meth K a_Phrasebook "__init__" f_p_Phrasebook_init
  K_Phrasebook : Mk K a_Phrasebook f_p_Phrasebook_init
  f_p_Phrasebook_enter : Addr
  d_p_Phrasebook_enter : FuncData
  F_p_Phrasebook_enter : Fun K "enter" "Phrasebook.enter" s_p_Phrasebook_enter f_p_Phrasebook_enter d_p_Phrasebook_enter
  b_p_Phrasebook_enter : Binds K d_p_Phrasebook_enter ["self", "page", "line", "word"] []
  M_p_Phrasebook_enter : Meth K a_Phrasebook "enter" f_p_Phrasebook_enter
  f_p_Phrasebook_strike : Addr
  d_p_Phrasebook_strike : FuncData
  F_p_Phrasebook_strike : Fun K "strike" "Phrasebook.strike" s_p_Phrasebook_strike f_p_Phrasebook_strike d_p_Phrasebook_strike
  b_p_Phrasebook_strike : Binds K d_p_Phrasebook_strike ["self", "page", "line"] []
  M_p_Phrasebook_strike : Meth K a_Phrasebook "strike" f_p_Phrasebook_strike
  f_p_Phrasebook_place_of : Addr
  d_p_Phrasebook_place_of : FuncData
  F_p_Phrasebook_place_of : Fun K "place_of" "Phrasebook.place_of" s_p_Phrasebook_place_of f_p_Phrasebook_place_of d_p_Phrasebook_place_of
  b_p_Phrasebook_place_of : Binds K d_p_Phrasebook_place_of ["self", "word"] []
  M_p_Phrasebook_place_of : Meth K a_Phrasebook "place_of" f_p_Phrasebook_place_of
  f_p_Phrasebook_word_at : Addr
  d_p_Phrasebook_word_at : FuncData
  F_p_Phrasebook_word_at : Fun K "word_at" "Phrasebook.word_at" s_p_Phrasebook_word_at f_p_Phrasebook_word_at d_p_Phrasebook_word_at
  b_p_Phrasebook_word_at : Binds K d_p_Phrasebook_word_at ["self", "page", "line"] []
  M_p_Phrasebook_word_at : Meth K a_Phrasebook "word_at" f_p_Phrasebook_word_at
  f_p_Phrasebook_words : Addr
  d_p_Phrasebook_words : FuncData
  F_p_Phrasebook_words : Fun K "words" "Phrasebook.words" s_p_Phrasebook_words f_p_Phrasebook_words d_p_Phrasebook_words
  b_p_Phrasebook_words : Binds K d_p_Phrasebook_words ["self"] []
  M_p_Phrasebook_words : Meth K a_Phrasebook "words" f_p_Phrasebook_words
  f_l_cell : Addr
  d_l_cell : FuncData
  F_l_cell : Fun K "_law_cell" "_law_cell" s_l_cell f_l_cell d_l_cell
  b_l_cell : Binds K d_l_cell ["_law_script", "_law_at"] []
  g_l_cell : mg "_law_cell" = some (.ref f_l_cell)
  f_l_row : Addr
  d_l_row : FuncData
  F_l_row : Fun K "_law_row" "_law_row" s_l_row f_l_row d_l_row
  b_l_row : Binds K d_l_row ["_law_cell_here", "_law_many", "_law_size"] []
  g_l_row : mg "_law_row" = some (.ref f_l_row)
  f_l_like : Addr
  d_l_like : FuncData
  F_l_like : Fun K "_law_like" "_law_like" s_l_like f_l_like d_l_like
  b_l_like : Binds K d_l_like ["_law_found", "_law_due"] []
  g_l_like : mg "_law_like" = some (.ref f_l_like)
  f_l_word : Addr
  d_l_word : FuncData
  F_l_word : Fun K "_law_word" "_law_word" s_l_word f_l_word d_l_word
  b_l_word : Binds K d_l_word ["_law_cell_here"] []
  g_l_word : mg "_law_word" = some (.ref f_l_word)
  f_l_is_word : Addr
  d_l_is_word : FuncData
  F_l_is_word : Fun K "_law_is_word" "_law_is_word" s_l_is_word f_l_is_word d_l_is_word
  b_l_is_word : Binds K d_l_is_word ["_law_text"] []
  g_l_is_word : mg "_law_is_word" = some (.ref f_l_is_word)
  f_l_word_deed : Addr
  d_l_word_deed : FuncData
  F_l_word_deed : Fun K "_law_word_deed" "_law_word_deed" s_l_word_deed f_l_word_deed d_l_word_deed
  b_l_word_deed : Binds K d_l_word_deed ["_law_state", "_law_deed"] []
  g_l_word_deed : mg "_law_word_deed" = some (.ref f_l_word_deed)
  f_l_book_deeds : Addr
  d_l_book_deeds : FuncData
  F_l_book_deeds : Fun K "_law_book_deeds" "_law_book_deeds" s_l_book_deeds f_l_book_deeds d_l_book_deeds
  b_l_book_deeds : Binds K d_l_book_deeds ["_law_script", "_law_at", "_law_many"] []
  g_l_book_deeds : mg "_law_book_deeds" = some (.ref f_l_book_deeds)
  f_l_kind : Addr
  d_l_kind : FuncData
  F_l_kind : Fun K "_law_kind" "_law_kind" s_l_kind f_l_kind d_l_kind
  b_l_kind : Binds K d_l_kind ["_law_e"] []
  g_l_kind : mg "_law_kind" = some (.ref f_l_kind)
  f_l_tried : Addr
  d_l_tried : FuncData
  F_l_tried : Fun K "_law_tried" "_law_tried" s_l_tried f_l_tried d_l_tried
  b_l_tried : Binds K d_l_tried ["_law_book", "_law_deed"] []
  g_l_tried : mg "_law_tried" = some (.ref f_l_tried)
  f_l_right : Addr
  d_l_right : FuncData
  F_l_right : Fun K "_law_right" "_law_right" s_l_right f_l_right d_l_right
  b_l_right : Binds K d_l_right ["_law_book", "_law_words", "_law_deed"] []
  g_l_right : mg "_law_right" = some (.ref f_l_right)
  u_LETTERS : Value
  c_LETTERS : mg "LETTERS" = some u_LETTERS
  r_LETTERS : RelV (.str "abcdefghijklmnopqrstuvwxyz") u_LETTERS
  u_LAST_PAGE : Value
  c_LAST_PAGE : mg "LAST_PAGE" = some u_LAST_PAGE
  r_LAST_PAGE : RelV (.int 40) u_LAST_PAGE
  u_LONGEST_WORD : Value
  c_LONGEST_WORD : mg "LONGEST_WORD" = some u_LONGEST_WORD
  r_LONGEST_WORD : RelV (.int 12) u_LONGEST_WORD
  m_all : mg "all" = none
  m_len : mg "len" = none
  m_sorted : mg "sorted" = none
  m_range : mg "range" = none
  m_isinstance : mg "isinstance" = none
  m_bool : mg "bool" = none
  m_int : mg "int" = none
  m_str : mg "str" = none
  m_list : mg "list" = none
  m_tuple : mg "tuple" = none
  m_max : mg "max" = none
  m_min : mg "min" = none
  oc_get : PySem.W.specialIn K (.builtin "object.__class__") "__get__" = some (some (.builtin "getset_descriptor.__get__"))
  oc_tak : PySem.W.takesIn K (.builtin "object.__class__") = some true
section
variable {P : Program} {w : World} {K : PySem.W.Frag} {mg : Str → Option Value} {base : Heap}
/-! ### _law_cell: an int of the script -/
def cellV (ns : List Int) (j : Nat) : Int :=
  if j < ns.length then ns.getD j 0 else if ns.length = 0 then 29 * (j : Int) + 5 else ns.getD (j % ns.length) 0 % 1000003 + 103 * (j : Int)
def sp_l_cell (K : PySem.W.Frag) : Sp := fun vs H Q _ => ∃ (l : Addr) (ns : List Int) (j : Nat), vs = [.ref l, .int j] ∧ SqL K H l (ns.map V.int) ∧ j ≤ 100000 ∧ Q (.int (cellV ns j)) H
theorem getD_at {ns : List Int} {j : Nat} (h : j < ns.length) : atI (ns.map V.int) (j : Int) = some (.int (ns.getD j 0)) := by
  rw [at_int h, List.getD_eq_getElem?_getD, List.getElem?_eq_getElem h]
  rfl
theorem ok_l_cell (T : Txt K mg) : FnOk P w K mg base CX0 1 T.f_l_cell T.d_l_cell ["_law_script", "_law_at"] (sp_l_cell K) := by
  refine T.F_l_cell.ok sc_l_cell (fun vs H Q E h => ?_) (fun cdv A outer s H vs Q E hr h => ?_)
  · obtain ⟨l, ns, j, rfl, _⟩ := h
    rfl
  · obtain ⟨l, ns, j, rfl, hS, hj, k⟩ := h
    have hlen : ((ns.map V.int).length : Int) = (ns.length : Int) := by rw [List.length_map]
    refine ⟨_, (pss_cons (ps_if (pt_cmpR op_lt (pv 1) (pe_callB call_len_seq (by rfl) T.m_len PySem.boot_len (pa_cons (pv 0) pa_nil)) (nomark _))
      (pss_one (ps_ret (pe_ix ix_list (pv 0) (pv 1) (fun _ _ => rfl))))
      pss_nil)
      (pss_cons (ps_if (pt_cmpR op_eq (pe_callB call_len_seq (by rfl) T.m_len PySem.boot_len (pa_cons (pv 0) pa_nil)) pe_int (nomark _))
      (pss_one (ps_ret (pe_op op_add (pe_op op_mul pe_int (pv 1)) pe_int)))
      pss_nil)
      (pss_one (ps_ret (pe_op op_add (pe_op op_mod (pe_ix ix_list (pv 0) (pe_op op_mod (pv 1) (pe_callB call_len_seq (by rfl) T.m_len PySem.boot_len (pa_cons (pv 0) pa_nil))) (fun _ _ => rfl)) pe_int) (pe_op op_mul pe_int (pv 1))))))), ?_⟩
    refine ⟨_, rfl, _, rfl, l, _, rfl, .inl hS, _, _, rfl, rfl, _, rfl, iteD (fun c => ?_) (fun c => ?_)⟩
    · rw [hlen] at c
      refine ⟨_, rfl, _, rfl, l, _, _, _, rfl, rfl, hS, getD_at (show j < ns.length by omega), ?_⟩
      have e : cellV ns j = ns.getD j 0 := if_pos (by omega)
      rw [e] at k
      exact k
    · rw [hlen] at c
      refine ⟨_, rfl, l, _, rfl, .inl hS, rfl, _, rfl, iteD (fun c2 => ?_) (fun c2 => ?_)⟩
      · have c3 : (ns.length : Int) = 0 := by
          have z := V.int.inj c2
          rw [hlen] at z
          exact z
        have e : cellV ns j = 29 * (j : Int) + 5 := by
          unfold cellV
          rw [if_neg (by omega), if_pos (by omega)]
        rw [e] at k
        exact ⟨_, rfl, _, _, rfl, rfl, .inl ⟨by decide, by decide⟩, _, _, rfl, rfl, k⟩
      · have c3 : ns.length ≠ 0 := fun z => c2 (by rw [hlen, z]; rfl)
        have hm : j % ns.length < ns.length := Nat.mod_lt _ (by omega)
        have e : cellV ns j = ns.getD (j % ns.length) 0 % 1000003 + 103 * (j : Int) := by
          unfold cellV
          rw [if_neg (by omega), if_neg c3]
        rw [e] at k
        have ea : atI (ns.map V.int) ((j : Int) % ((ns.map V.int).length : Int)) = some (.int (ns.getD (j % ns.length) 0)) := by
          rw [hlen, ← Int.natCast_emod]
          exact getD_at hm
        exact ⟨_, rfl, _, rfl, _, rfl, l, _, rfl, .inl hS, _, _, rfl, rfl, (by show (0 : Int) < ((ns.map V.int).length : Int); rw [hlen]; omega), l, _, _, _, rfl, rfl, hS, ea, _, _, rfl, rfl, (by show (0 : Int) < 1000003; decide), _, rfl, _, _, rfl, rfl, .inl ⟨by decide, by decide⟩, _, _, rfl, rfl, k⟩
/-! ### _law_like of one datum with itself -/
inductive Dn : Nat → PyData → Prop
  | non (n : Nat) : Dn (n + 1) .none
  | bl (n : Nat) (b : Bool) : Dn (n + 1) (.bool b)
  | int (n : Nat) (i : Int) : Dn (n + 1) (.int i)
  | str (n : Nat) (x : Str) : Dn (n + 1) (.str x)
  | lst {n : Nat} {ds : List PyData} : (∀ d ∈ ds, Dn n d) → ds.length ≤ 10000 → Dn (n + 1) (.list ds)
  | tup {n : Nat} {ds : List PyData} : (∀ d ∈ ds, Dn n d) → ds.length ≤ 10000 → Dn (n + 1) (.tuple ds)
def tyN : PyData → String
  | .none => "NoneType" | .bool _ => "bool" | .int _ => "int" | .str _ => "str" | .list _ => "list" | .tuple _ => "tuple" | .dict _ => "dict"
theorem ty_of {K : PySem.W.Frag} {H : Hp} {v : V} {d : PyData} (h : Dp K H v d) : TyX K H v (.type (tyN d)) := by
  cases h with
  | non => exact .base .non
  | bl b => exact .base (.bl b)
  | int i => exact .base (.int i)
  | str x => exact .base (.str x)
  | lst h _ =>
    rcases h with (h | ⟨o, h⟩) | ⟨o, its, n, e, c, _⟩
    · exact .base (.lst h)
    · exact .base (.frz h)
    · exact .kList e c
  | tup h _ =>
    rcases h with (h | ⟨o, h⟩) | ⟨o, its, n, e, c, _⟩
    · exact .base (.tup h)
    · exact .fTuple h
    · exact .kTuple e c
def sp_l_like (K : PySem.W.Frag) (n : Nat) : Sp := fun vs H Q _ => ∃ (u v : V) (d : PyData), vs = [u, v] ∧ Dp K H u d ∧ Dp K H v d ∧ Dn n d ∧ ∀ H', Kp H H' → Q (.bl true) H'
theorem fn_none {P : Program} {w : World} {K : PySem.W.Frag} {mg : Str → Option Value} {base : Heap} {f : Addr} {fd : FuncData} {ps : List Str} {sp : Sp} {k : Nat} (h : ∀ vs H Q E, ¬ sp vs H Q E) : FnOk P w K mg base CX0 k f fd ps sp :=
  ⟨fun vs H Q E q => (h vs H Q E q).elim, fun _ _ _ H _ _ vs Q E _ _ _ _ q => (h vs H Q E q).elim⟩
theorem bl_all {n : Nat} : ((List.replicate n true).map V.bl) = List.replicate n (V.bl true) := List.map_replicate
theorem all_rep (n : Nat) : (List.replicate n true).all id = true := by
  rw [List.all_eq_true]
  intro x hx
  rw [List.eq_of_mem_replicate hx]
  rfl
theorem k_bb : kitB "bool" "bool" = some true := by decide +kernel
theorem k_bi : kitB "bool" "int" = some true := by decide +kernel
theorem k_bs : kitB "bool" "str" = some false := by decide +kernel
theorem k_bl : kitB "bool" "list" = some false := by decide +kernel
theorem k_bt : kitB "bool" "tuple" = some false := by decide +kernel
theorem k_ib : kitB "int" "bool" = some false := by decide +kernel
theorem k_ii : kitB "int" "int" = some true := by decide +kernel
theorem k_is : kitB "int" "str" = some false := by decide +kernel
theorem k_il : kitB "int" "list" = some false := by decide +kernel
theorem k_it : kitB "int" "tuple" = some false := by decide +kernel
theorem k_sb : kitB "str" "bool" = some false := by decide +kernel
theorem k_si : kitB "str" "int" = some false := by decide +kernel
theorem k_ss : kitB "str" "str" = some true := by decide +kernel
theorem k_sl : kitB "str" "list" = some false := by decide +kernel
theorem k_st : kitB "str" "tuple" = some false := by decide +kernel
theorem k_lb : kitB "list" "bool" = some false := by decide +kernel
theorem k_li : kitB "list" "int" = some false := by decide +kernel
theorem k_ls : kitB "list" "str" = some false := by decide +kernel
theorem k_ll : kitB "list" "list" = some true := by decide +kernel
theorem k_lt : kitB "list" "tuple" = some false := by decide +kernel
theorem k_tb : kitB "tuple" "bool" = some false := by decide +kernel
theorem k_ti : kitB "tuple" "int" = some false := by decide +kernel
theorem k_ts : kitB "tuple" "str" = some false := by decide +kernel
theorem k_tl : kitB "tuple" "list" = some false := by decide +kernel
theorem k_tt : kitB "tuple" "tuple" = some true := by decide +kernel
theorem dec_self {x : V} : decide (x = x) = true := decide_eq_true rfl
theorem ok_l_like (T : Txt K mg) : ∀ n : Nat, FnOk P w K mg base CX0 n T.f_l_like T.d_l_like ["_law_found", "_law_due"] (sp_l_like K n)
  | 0 => fn_none fun vs H Q E ⟨u, v, d, _, _, _, h, _⟩ => nomatch h
  | n + 1 => by
    have IH := ok_l_like T n
    refine T.F_l_like.ok sc_l_like (fun vs H Q E h => ?_) (fun cdv A outer s H vs Q E hr h => ?_)
    · obtain ⟨u, v, d, rfl, _⟩ := h
      rfl
    · obtain ⟨u, v, d, rfl, hu, hv, hn, k⟩ := h
      have tu := ty_of hu
      have tv := ty_of hv
      refine ⟨_, (pss_cons (ps_if (pt_cmpR op_isN (pv 1) pe_non (nomark _))
      (pss_one (ps_ret (pe_cmpR op_isN (pv 0) pe_non (nomark _))))
      pss_nil)
      (pss_cons (ps_if (pt_val (pe_callB call_isi (by rfl) T.m_isinstance (by decide +kernel) (pa_cons (pv 1) (pa_cons (pe_bltn (v := .ty "bool") (by rfl) T.m_bool (by decide +kernel) rfl) pa_nil))))
      (pss_one (ps_ret (pe_and (pe_callB call_isi (by rfl) T.m_isinstance (by decide +kernel) (pa_cons (pv 0) (pa_cons (pe_bltn (v := .ty "bool") (by rfl) T.m_bool (by decide +kernel) rfl) pa_nil))) (pe_one (pe_cmpR op_eq (pv 0) (pv 1) (nomark _))))))
      pss_nil)
      (pss_cons (ps_if (pt_val (pe_callB call_isi (by rfl) T.m_isinstance (by decide +kernel) (pa_cons (pv 1) (pa_cons (pe_bltn (v := .ty "int") (by rfl) T.m_int (by decide +kernel) rfl) pa_nil))))
      (pss_one (ps_ret (pe_and (pe_callB call_isi (by rfl) T.m_isinstance (by decide +kernel) (pa_cons (pv 0) (pa_cons (pe_bltn (v := .ty "int") (by rfl) T.m_int (by decide +kernel) rfl) pa_nil))) (pe_and (pe_not (pe_callB call_isi (by rfl) T.m_isinstance (by decide +kernel) (pa_cons (pv 0) (pa_cons (pe_bltn (v := .ty "bool") (by rfl) T.m_bool (by decide +kernel) rfl) pa_nil)))) (pe_one (pe_cmpR op_eq (pv 0) (pv 1) (nomark _)))))))
      pss_nil)
      (pss_cons (ps_if (pt_val (pe_callB call_isi (by rfl) T.m_isinstance (by decide +kernel) (pa_cons (pv 1) (pa_cons (pe_bltn (v := .ty "str") (by rfl) T.m_str (by decide +kernel) rfl) pa_nil))))
      (pss_one (ps_ret (pe_and (pe_callB call_isi (by rfl) T.m_isinstance (by decide +kernel) (pa_cons (pv 0) (pa_cons (pe_bltn (v := .ty "str") (by rfl) T.m_str (by decide +kernel) rfl) pa_nil))) (pe_one (pe_cmpR op_eq (pv 0) (pv 1) (nomark _))))))
      pss_nil)
      (pss_cons (ps_if (PW.pt (pw_or (pt_cmpR op_ne (pe_callB call_isi (by rfl) T.m_isinstance (by decide +kernel) (pa_cons (pv 1) (pa_cons (pe_bltn (v := .ty "list") (by rfl) T.m_list (by decide +kernel) rfl) pa_nil))) (pe_callB call_isi (by rfl) T.m_isinstance (by decide +kernel) (pa_cons (pv 0) (pa_cons (pe_bltn (v := .ty "list") (by rfl) T.m_list (by decide +kernel) rfl) pa_nil))) (nomark _)) (pw_or1 (pt_cmpR op_ne (pe_callB call_isi (by rfl) T.m_isinstance (by decide +kernel) (pa_cons (pv 1) (pa_cons (pe_bltn (v := .ty "tuple") (by rfl) T.m_tuple (by decide +kernel) rfl) pa_nil))) (pe_callB call_isi (by rfl) T.m_isinstance (by decide +kernel) (pa_cons (pv 0) (pa_cons (pe_bltn (v := .ty "tuple") (by rfl) T.m_tuple (by decide +kernel) rfl) pa_nil))) (nomark _)))))
      (pss_one (ps_ret pe_bl))
      pss_nil)
      (pss_one (ps_ret (pe_and (pe_cmpR op_eq (pe_callB call_len (by rfl) T.m_len PySem.boot_len (pa_cons (pv 0) pa_nil)) (pe_callB call_len (by rfl) T.m_len PySem.boot_len (pa_cons (pv 1) pa_nil)) (nomark _)) (pe_one (pe_callB (cr_all rfl) (by rfl) T.m_all (by decide +kernel) (pa_cons (pe_lc (own := [("_law_k", 2)]) (g := gName 2) (tt := tYes) (by rfl) sc_l_like.nd (pi_range1 (by rfl) T.m_range (pa_cons (pe_callB call_len (by rfl) T.m_len PySem.boot_len (pa_cons (pv 1) pa_nil)) pa_nil)) (blkOk_by (own := [("_law_k", 2)]) (N := ["_law_found", "_law_due", "_law_k"]) (sc := defScope s_l_like) (by decide +kernel)) (fun _ _ _ _ _ => (pg_name (i := 2) sc_l_like.nd rfl (by first | exact Or.inl rfl | exact Or.inr rfl))) (fun _ _ _ _ _ => pts_nil) (fun _ _ _ _ _ => (pe_call IH hr rfl T.g_l_like T.F_l_like.kp T.b_l_like .nil pass0 (pa_cons (pe_ix (ix_seqK K rfl) (pv 0) (pv 2) (fun _ _ => rfl)) (pa_cons (pe_ix (ix_seqK K rfl) (pv 1) (pv 2) (fun _ _ => rfl)) pa_nil))))) pa_nil))))))))))), ?_⟩
      cases hn with
      | non n =>
        cases hu
        cases hv
        refine ⟨_, rfl, rfl, _, rfl, iteTo dec_self ?_⟩
        exact ⟨_, rfl, rfl, k _ (.refl _)⟩
      | bl n b =>
        cases hu
        cases hv
        refine ⟨_, rfl, rfl, _, rfl, iteFo rfl ?_⟩
        refine ⟨_, rfl, _, _, _, _, true, rfl, .ty _, tv, kit_ty k_bb, _, rfl, iteTo rfl ?_⟩
        refine ⟨_, rfl, _, _, _, _, true, rfl, .ty _, tu, kit_ty k_bb, _, rfl, iteTo rfl ?_⟩
        refine ⟨_, rfl, _, rfl, rfl, ?_⟩
        rw [dec_self]
        exact k _ (.refl _)
      | int n i =>
        cases hu
        cases hv
        refine ⟨_, rfl, rfl, _, rfl, iteFo rfl ?_⟩
        refine ⟨_, rfl, _, _, _, _, false, rfl, .ty _, tv, kit_ty k_ib, _, rfl, iteFo rfl ?_⟩
        refine ⟨_, rfl, _, _, _, _, true, rfl, .ty _, tv, kit_ty k_ii, _, rfl, iteTo rfl ?_⟩
        refine ⟨_, rfl, _, _, _, _, true, rfl, .ty _, tu, kit_ty k_ii, _, rfl, iteTo rfl ?_⟩
        refine ⟨_, rfl, _, _, _, _, false, rfl, .ty _, tu, kit_ty k_ib, _, rfl, _, rfl, iteTo rfl ?_⟩
        refine ⟨_, rfl, _, rfl, rfl, ?_⟩
        rw [dec_self]
        exact k _ (.refl _)
      | str n x =>
        cases hu
        cases hv
        refine ⟨_, rfl, rfl, _, rfl, iteFo rfl ?_⟩
        refine ⟨_, rfl, _, _, _, _, false, rfl, .ty _, tv, kit_ty k_sb, _, rfl, iteFo rfl ?_⟩
        refine ⟨_, rfl, _, _, _, _, false, rfl, .ty _, tv, kit_ty k_si, _, rfl, iteFo rfl ?_⟩
        refine ⟨_, rfl, _, _, _, _, true, rfl, .ty _, tv, kit_ty k_ss, _, rfl, iteTo rfl ?_⟩
        refine ⟨_, rfl, _, _, _, _, true, rfl, .ty _, tu, kit_ty k_ss, _, rfl, iteTo rfl ?_⟩
        refine ⟨_, rfl, _, rfl, rfl, ?_⟩
        rw [dec_self]
        exact k _ (.refl _)
      | lst hd hl =>
        rename_i ds
        cases hu with | lst hsu hau =>
        cases hv with | lst hsv hav =>
        rename_i a xs b ys
        have lx := DpAll.len hau
        have ly := DpAll.len hav
        refine ⟨_, rfl, rfl, _, rfl, iteFo rfl ?_⟩
        refine ⟨_, rfl, _, _, _, _, false, rfl, .ty _, tv, kit_ty k_lb, _, rfl, iteFo rfl ?_⟩
        refine ⟨_, rfl, _, _, _, _, false, rfl, .ty _, tv, kit_ty k_li, _, rfl, iteFo rfl ?_⟩
        refine ⟨_, rfl, _, _, _, _, false, rfl, .ty _, tv, kit_ty k_ls, _, rfl, iteFo rfl ?_⟩
        refine ⟨_, rfl, _, _, _, _, true, rfl, .ty _, tv, kit_ty k_ll, _, rfl, _, _, _, _, true, rfl, .ty _, tu, kit_ty k_ll, rfl, _, rfl, iteFo rfl ?_⟩
        refine ⟨_, rfl, _, _, _, _, false, rfl, .ty _, tv, kit_ty k_lt, _, rfl, _, _, _, _, false, rfl, .ty _, tu, kit_ty k_lt, rfl, _, rfl, iteFo rfl ?_⟩
        refine ⟨_, rfl, _, _, rfl, .inl ⟨_, hsu, rfl⟩, _, rfl, _, _, rfl, .inl ⟨_, hsv, rfl⟩, rfl, _, rfl, iteTo (decide_eq_true (congrArg (fun z : Nat => V.int (z : Int)) (lx.trans ly.symm))) ?_⟩
        refine ⟨_, rfl, _, _, rfl, .inl ⟨_, hsv, rfl⟩, _, rfl, by omega, by omega, fun D hD => ?_⟩
        rw [Int.toNat_natCast]
        refine lc_range (lo := 0) (n := ys.length) (fun i H' => Kp H H' ∧ H' D = some (.lst (List.replicate i (V.bl true)))) ⟨Kp.new hD, upd_same⟩ (fun i H' hi ⟨kp, hDl⟩ => ?_) (fun H' ⟨kp, hDl⟩ => ?_)
        · have e0 : (0 : Int) + (i : Int) = (i : Int) := Int.zero_add _
          obtain ⟨d, hdi⟩ : ∃ d, ds[i]? = some d := ⟨_, List.getElem?_eq_getElem (by omega)⟩
          obtain ⟨x, hx, dx⟩ := DpAll.get hau hdi
          obtain ⟨y, hy, dy⟩ := DpAll.get hav hdi
          refine ⟨rfl, ?_⟩
          refine ⟨_, rfl, _, rfl, .inl ⟨_, _, _, x, rfl, rfl, kp.sqL hsu, by rw [e0]; exact atI_nat hx, _, rfl, _, rfl, .inl ⟨_, _, _, y, rfl, rfl, kp.sqL hsv, by rw [e0]; exact atI_nat hy, ?_⟩⟩⟩
          refine ⟨x, y, d, rfl, kp.dp dx, kp.dp dy, hd d (List.mem_of_getElem? hdi), fun H2 k2 => ⟨_, k2.same _ _ rfl hDl, szt (by rw [List.length_replicate]; omega), ?_⟩⟩
          exact ⟨(kp.trans k2).mut hD, by rw [upd_same, List.replicate_succ']⟩
        · refine ⟨D, List.replicate ys.length true, rfl, .inl (.inl (by rw [bl_all]; exact hDl)), ?_⟩
          rw [all_rep]
          exact k _ kp
      | tup hd hl =>
        rename_i ds
        cases hu with | tup hsu hau =>
        cases hv with | tup hsv hav =>
        rename_i a xs b ys
        have lx := DpAll.len hau
        have ly := DpAll.len hav
        refine ⟨_, rfl, rfl, _, rfl, iteFo rfl ?_⟩
        refine ⟨_, rfl, _, _, _, _, false, rfl, .ty _, tv, kit_ty k_tb, _, rfl, iteFo rfl ?_⟩
        refine ⟨_, rfl, _, _, _, _, false, rfl, .ty _, tv, kit_ty k_ti, _, rfl, iteFo rfl ?_⟩
        refine ⟨_, rfl, _, _, _, _, false, rfl, .ty _, tv, kit_ty k_ts, _, rfl, iteFo rfl ?_⟩
        refine ⟨_, rfl, _, _, _, _, false, rfl, .ty _, tv, kit_ty k_tl, _, rfl, _, _, _, _, false, rfl, .ty _, tu, kit_ty k_tl, rfl, _, rfl, iteFo rfl ?_⟩
        refine ⟨_, rfl, _, _, _, _, true, rfl, .ty _, tv, kit_ty k_tt, _, rfl, _, _, _, _, true, rfl, .ty _, tu, kit_ty k_tt, rfl, _, rfl, iteFo rfl ?_⟩
        refine ⟨_, rfl, _, _, rfl, .inr ⟨_, hsu, rfl⟩, _, rfl, _, _, rfl, .inr ⟨_, hsv, rfl⟩, rfl, _, rfl, iteTo (decide_eq_true (congrArg (fun z : Nat => V.int (z : Int)) (lx.trans ly.symm))) ?_⟩
        refine ⟨_, rfl, _, _, rfl, .inr ⟨_, hsv, rfl⟩, _, rfl, by omega, by omega, fun D hD => ?_⟩
        rw [Int.toNat_natCast]
        refine lc_range (lo := 0) (n := ys.length) (fun i H' => Kp H H' ∧ H' D = some (.lst (List.replicate i (V.bl true)))) ⟨Kp.new hD, upd_same⟩ (fun i H' hi ⟨kp, hDl⟩ => ?_) (fun H' ⟨kp, hDl⟩ => ?_)
        · have e0 : (0 : Int) + (i : Int) = (i : Int) := Int.zero_add _
          obtain ⟨d, hdi⟩ : ∃ d, ds[i]? = some d := ⟨_, List.getElem?_eq_getElem (by omega)⟩
          obtain ⟨x, hx, dx⟩ := DpAll.get hau hdi
          obtain ⟨y, hy, dy⟩ := DpAll.get hav hdi
          refine ⟨rfl, ?_⟩
          refine ⟨_, rfl, _, rfl, .inr (.inl ⟨_, _, _, x, rfl, rfl, kp.sqT hsu, by rw [e0]; exact atI_nat hx, _, rfl, _, rfl, .inr (.inl ⟨_, _, _, y, rfl, rfl, kp.sqT hsv, by rw [e0]; exact atI_nat hy, ?_⟩)⟩)⟩
          refine ⟨x, y, d, rfl, kp.dp dx, kp.dp dy, hd d (List.mem_of_getElem? hdi), fun H2 k2 => ⟨_, k2.same _ _ rfl hDl, szt (by rw [List.length_replicate]; omega), ?_⟩⟩
          exact ⟨(kp.trans k2).mut hD, by rw [upd_same, List.replicate_succ']⟩
        · refine ⟨D, List.replicate ys.length true, rfl, .inl (.inl (by rw [bl_all]; exact hDl)), ?_⟩
          rw [all_rep]
          exact k _ kp
/-! ### _law_row: so many ints from nought to below a size -/
def Drawn0 (many size : Int) (xs : List Int) : Prop := (xs.length : Int) = many ∧ ∀ x ∈ xs, 0 ≤ x ∧ x < size
def sp_l_row : Sp := fun vs H Q _ => ∃ (c many size : Int), vs = [.int c, .int many, .int size] ∧ 0 ≤ many ∧ many ≤ 1000 ∧ 0 < size ∧ size < 1073741824 ∧
  ∀ (xs : List Int) (p : Addr) (H' : Hp), H p = none → Kp H H' → H' p = some (.lst (xs.map V.int)) → Drawn0 many size xs → Q (.ref p) H'
theorem snoc_in {size z : Int} {xs : List Int} (hs : 0 < size) (h : ∀ x ∈ xs, 0 ≤ x ∧ x < size) : ∀ x ∈ xs ++ [z % size], 0 ≤ x ∧ x < size := by
  intro x hx
  rcases List.mem_append.mp hx with hx | hx
  · exact h x hx
  · rw [List.mem_singleton.mp hx]
    exact ⟨Int.emod_nonneg _ (by omega), Int.emod_lt_of_pos _ hs⟩
theorem ok_l_row (T : Txt K mg) : FnOk P w K mg base CX0 1 T.f_l_row T.d_l_row ["_law_cell_here", "_law_many", "_law_size"] sp_l_row := by
  refine T.F_l_row.ok sc_l_row (fun vs H Q E h => ?_) (fun cdv A outer s H vs Q E hr h => ?_)
  · obtain ⟨c, many, size, rfl, _⟩ := h
    rfl
  · obtain ⟨c, many, size, rfl, hm0, hm1, hs0, hs1, k⟩ := h
    refine ⟨_, (pss_cons (ps_set (i := 3) sc_l_row.nd rfl (by first | exact Or.inl rfl | exact Or.inr rfl) (pe_lst pa_nil))
      (pss_cons (ps_if (pt_cmpR op_ge (pv 0) (pe_op op_pow pe_int pe_int) (nomark _))
      (pss_cons (ps_set (i := 4) sc_l_row.nd rfl (by first | exact Or.inl rfl | exact Or.inr rfl) (pe_op op_sub (pv 0) (pe_op op_pow pe_int pe_int)))
      (pss_cons (ps_for PassesOwn.never rfl (pi_range1 (by rfl) T.m_range (pa_cons (pv 1) pa_nil)) (pg_name (i := 5) sc_l_row.nd rfl (by first | exact Or.inl rfl | exact Or.inr rfl))
      (pss_cons (ps_expr (pe_bm PySem.F.plainAttrs_list PySem.F.slot_list_append PySem.F.type_list_append mt_append (pv 3) (pa_cons (pe_op op_mod (pv 4) (pv 2)) pa_nil)))
      (pss_one (ps_set (i := 4) sc_l_row.nd rfl (by first | exact Or.inl rfl | exact Or.inr rfl) (pe_op op_fdiv (pv 4) (pv 2))))))
      (pss_one (ps_ret (pv 3)))))
      pss_nil)
      (pss_cons (ps_set (i := 6) sc_l_row.nd rfl (by first | exact Or.inl rfl | exact Or.inr rfl) (pe_op op_mod (pv 0) pe_int))
      (pss_cons (ps_for PassesOwn.never rfl (pi_range1 (by rfl) T.m_range (pa_cons (pv 1) pa_nil)) (pg_name (i := 5) sc_l_row.nd rfl (by first | exact Or.inl rfl | exact Or.inr rfl))
      (pss_cons (ps_set (i := 6) sc_l_row.nd rfl (by first | exact Or.inl rfl | exact Or.inr rfl) (pe_op op_mod (pe_op op_add (pe_op op_add (pe_op op_mul (pv 6) pe_int) pe_int) (pv 5)) pe_int))
      (pss_cons (ps_set (i := 7) sc_l_row.nd rfl (by first | exact Or.inl rfl | exact Or.inr rfl) (pe_op op_mod (pe_op op_fdiv (pe_op op_mul (pv 6) (pe_op op_add (pe_op op_mod (pv 6) pe_int) pe_int)) pe_int) pe_int))
      (pss_one (ps_expr (pe_bm PySem.F.plainAttrs_list PySem.F.slot_list_append PySem.F.type_list_append mt_append (pv 3) (pa_cons (pe_op op_mod (pv 7) (pv 2)) pa_nil)))))))
      (pss_one (ps_ret (pv 3))))))), ?_⟩
    refine ⟨Nat.zero_le _, fun p np => ?_⟩
    generalize h_H1 : upd H p _ = H1
    have k_H1 : Kp H H1 := by rw [← h_H1]; exact .new np
    have q_H1 := (congrFun h_H1 p).symm.trans upd_same
    clear h_H1
    refine ⟨_, rfl, _, _, rfl, rfl, ⟨by decide, by decide, by decide⟩, _, _, rfl, rfl, _, rfl, iteD (fun c1 => ?_) (fun c1 => ?_)⟩
    · refine ⟨_, rfl, _, _, rfl, rfl, ⟨by decide, by decide, by decide⟩, _, _, rfl, rfl, ?_⟩
      refine ⟨_, rfl, many, rfl, by omega, by omega, ?_⟩
      refine for_range (lo := 0) (n := many.toNat) (fun i σ H' => ∃ (xs : List Int) (r : Int) (y : Option V), σ = [some (.int c), some (.int many), some (.int size), some (.ref p), some (.int r), y, none, none] ∧ Kp H H' ∧ H' p = some (.lst (xs.map V.int)) ∧ xs.length = i ∧ ∀ x ∈ xs, 0 ≤ x ∧ x < size)
        ⟨[], _, none, rfl, k_H1, q_H1, rfl, by simp⟩ ?_ ?_
      · rintro i σ H' hi ⟨xs, r, y, rfl, kp, hp, hl, hb⟩
        refine ⟨_, rfl, .inl ⟨rfl, _, SqL.of hp⟩, _, rfl, _, rfl, _, _, rfl, rfl, hs0, p, _, _, rfl, rfl, hp, szt (by rw [List.length_map]; omega), ?_⟩
        refine ⟨_, rfl, _, rfl, _, _, rfl, rfl, ⟨hs0, hs1⟩, ?_⟩
        refine ⟨xs ++ [r % size], _, _, rfl, kp.mut np, ?_, by rw [List.length_append, hl]; rfl, snoc_in hs0 hb⟩
        rw [upd_same, List.map_append]
        rfl
      · rintro σ H' ⟨xs, r, y, rfl, kp, hp, hl, hb⟩
        exact ⟨_, rfl, k xs p H' np kp hp ⟨by omega, hb⟩⟩
    · refine ⟨_, rfl, _, _, rfl, rfl, (by show (0 : Int) < 2147483647; decide), ?_⟩
      refine ⟨_, rfl, many, rfl, by omega, by omega, ?_⟩
      refine for_range (lo := 0) (n := many.toNat) (fun i σ H' => ∃ (xs : List Int) (r : Int) (y y2 : Option V), σ = [some (.int c), some (.int many), some (.int size), some (.ref p), none, y, some (.int r), y2] ∧ Kp H H' ∧ H' p = some (.lst (xs.map V.int)) ∧ xs.length = i ∧ ∀ x ∈ xs, 0 ≤ x ∧ x < size)
        ⟨[], _, none, none, rfl, k_H1, q_H1, rfl, by simp⟩ ?_ ?_
      · rintro i σ H' hi ⟨xs, r, y, y2, rfl, kp, hp, hl, hb⟩
        refine ⟨_, rfl, _, _, rfl, rfl, .inr ⟨by decide, by decide⟩, _, _, rfl, rfl, _, rfl, _, _, rfl, rfl, _, _, rfl, rfl, (by show (0 : Int) < 2147483647; decide), ?_⟩
        generalize hr2 : (fun (i j : Int) => V.int (i % j)) _ _ = sv
        obtain ⟨r2, rfl⟩ : ∃ r2 : Int, sv = .int r2 := ⟨_, hr2.symm⟩
        clear hr2
        have b0 : 0 ≤ r2 % 65521 := Int.emod_nonneg _ (by decide)
        have b1 : r2 % 65521 < 65521 := Int.emod_lt_of_pos _ (by decide)
        refine ⟨_, rfl, _, rfl, _, _, rfl, rfl, (by show (0 : Int) < 65521; decide), _, _, rfl, rfl, _, _, rfl, rfl, .inr ⟨by omega, by omega⟩, _, _, rfl, rfl, ⟨by decide, by decide⟩, _, _, rfl, rfl, (by show (0 : Int) < 1000003; decide), ?_⟩
        refine ⟨_, rfl, .inl ⟨rfl, _, SqL.of hp⟩, _, rfl, _, rfl, _, _, rfl, rfl, hs0, p, _, _, rfl, rfl, hp, szt (by rw [List.length_map]; omega), ?_⟩
        refine ⟨xs ++ [r2 * (r2 % 65521 + 3) / 1009 % 1000003 % size], r2, _, _, rfl, kp.mut np, ?_, by rw [List.length_append, hl]; rfl, snoc_in hs0 hb⟩
        rw [upd_same, List.map_append]
        rfl
      · rintro σ H' ⟨xs, r, y, y2, rfl, kp, hp, hl, hb⟩
        exact ⟨_, rfl, k xs p H' np kp hp ⟨by omega, hb⟩⟩
/-! ### data of few levels can be compared -/
theorem lay_all {ds : List PyData} (h : ∀ d ∈ ds, PyData.canLay0 d = true) : PyData.canLayAll0 ds = true := by
  induction ds with
  | nil => simp [PyData.canLayAll0]
  | cons d r ih => simp [PyData.canLayAll0, h d List.mem_cons_self, ih fun x hx => h x (List.mem_cons_of_mem _ hx)]
theorem dep_all {ds : List PyData} {n : Nat} (h : ∀ d ∈ ds, PyData.depth d ≤ n) : PyData.depthAll ds ≤ n := by
  induction ds with
  | nil => simp [PyData.depthAll]
  | cons d r ih =>
    have h1 := h d List.mem_cons_self
    have h2 := ih fun x hx => h x (List.mem_cons_of_mem _ hx)
    simp only [PyData.depthAll]
    omega
/-- the same without texts -/
inductive Dm : Nat → PyData → Prop
  | non (n : Nat) : Dm (n + 1) .none
  | bl (n : Nat) (b : Bool) : Dm (n + 1) (.bool b)
  | int (n : Nat) (i : Int) : Dm (n + 1) (.int i)
  | lst {n : Nat} {ds : List PyData} : (∀ d ∈ ds, Dm n d) → ds.length ≤ 10000 → Dm (n + 1) (.list ds)
  | tup {n : Nat} {ds : List PyData} : (∀ d ∈ ds, Dm n d) → ds.length ≤ 10000 → Dm (n + 1) (.tuple ds)
theorem Dm.dn {n : Nat} {d : PyData} (h : Dm n d) : Dn n d := by
  induction h with
  | non n => exact .non _
  | bl n b => exact .bl _ _
  | int n i => exact .int _ _
  | lst h1 h2 ih => exact .lst ih h2
  | tup h1 h2 ih => exact .tup ih h2
theorem Dm.lay {n : Nat} {d : PyData} (h : Dm n d) : PyData.canLay0 d = true ∧ PyData.depth d ≤ n := by
  induction h with
  | non n => exact ⟨by simp [PyData.canLay0], by simp [PyData.depth]⟩
  | bl n b => exact ⟨by simp [PyData.canLay0], by simp [PyData.depth]⟩
  | int n i => exact ⟨by simp [PyData.canLay0], by simp [PyData.depth]⟩
  | lst h1 h2 ih =>
    refine ⟨by simp only [PyData.canLay0]; exact lay_all fun d hd => (ih d hd).1, ?_⟩
    have := dep_all fun d hd => (ih d hd).2
    simp only [PyData.depth]
    omega
  | tup h1 h2 ih =>
    refine ⟨by simp only [PyData.canLay0]; exact lay_all fun d hd => (ih d hd).1, ?_⟩
    have := dep_all fun d hd => (ih d hd).2
    simp only [PyData.depth]
    omega
theorem Dm.shaped {n : Nat} {d : PyData} (h : Dm n d) (hn : n ≤ 64) : SeqAt.shaped d = true := by
  have ⟨h1, h2⟩ := h.lay
  show (PyData.canLay0 d && decide (PyData.depth d ≤ 64)) = true
  rw [h1, decide_eq_true (by omega)]
  rfl
theorem Dm.same {n : Nat} {d : PyData} (h : Dm n d) (hn : n ≤ 64) : PyData.eqv d d = true := SeqAt.eqv_refl _ (SeqAt.canLay_of_shaped (h.shaped hn))
theorem dm_dI {n : Nat} {ns : List Int} (h : ns.length ≤ 10000) : Dm (n + 2) (dI ns) := .lst (fun d hd => by obtain ⟨z, _, rfl⟩ := List.mem_map.mp hd; exact .int _ _) (by rw [List.length_map]; exact h)
/-! ### words -/
def abcW : Str := "abcdefghijklmnopqrstuvwxyz"
def isW (t : Str) : Bool := decide (1 ≤ (t.length : Int)) && (decide ((t.length : Int) ≤ 12) && t.cps.toList.all fun c => decide (c ∈ abcW.cps.toList))
def sp_p_is_word (P : Addr) : Sp := fun vs H Q _ => ∃ t : Str, vs = [.str t] ∧ t.length ≤ 1000 ∧ GxR.TabG H P ∧ ∀ H', Kp H H' → Q (.bl (isW t)) H'
theorem ok_p_is_word (T : Txt K mg) (TB : GxR.TabB base mg T.c_tab T.P_tab) : FnOk P w K mg base CX0 2 T.f_p_is_word T.d_p_is_word ["text"] (sp_p_is_word T.P_tab) := by
  obtain ⟨tl, hu⟩ := T.r_LETTERS
  have hL : mg "LETTERS" = some (.str abcW tl) := by rw [T.c_LETTERS, hu]; rfl
  refine T.W_p_is_word.ok sc_p_is_word (fun vs H Q E h => ?_) (fun A outer s H vs Q E hr h => ?_)
  · obtain ⟨t, rfl, _⟩ := h
    rfl
  · obtain ⟨t, rfl, hl, hT, k⟩ := h
    refine ⟨_, (pss_one (ps_ret (pe_and (pe_chain op_le op_le pe_int (pe_callB call_len_str (by rfl) T.m_len PySem.boot_len (pa_cons (pv 0) pa_nil)) (pe_glob rfl T.c_LONGEST_WORD T.r_LONGEST_WORD)) (pe_one (pe_allG hr (by rfl) T.m_all (by decide +kernel) TB rfl ⟨rfl, rfl, noCell (by decide +kernel), rfl, rfl, noFree (by decide +kernel)⟩ (pv 0) (elt_inG rfl rfl rfl hL) (fun _ => rfl)))))), ?_⟩
    refine ⟨_, rfl, t, rfl, szl (by omega), _, _, rfl, rfl, _, rfl, ?_⟩
    unfold isW at k
    by_cases c1 : 1 ≤ (t.length : Int)
    · rw [decide_eq_true c1] at k
      refine iteTo (decide_eq_true c1) ⟨_, _, rfl, rfl, _, rfl, ?_⟩
      by_cases c2 : (t.length : Int) ≤ 12
      · rw [decide_eq_true c2] at k
        exact iteTo (decide_eq_true c2) ⟨_, rfl, t, rfl, hT, fun H2 t2 => k _ (kp_tabbed hT t2)⟩
      · rw [decide_eq_false c2] at k
        exact iteFo (decide_eq_false c2) (k _ (.refl _))
    · rw [decide_eq_false c1] at k
      exact iteFo (decide_eq_false c1) ⟨_, rfl, iteF (k _ (.refl _))⟩
def sp_p_check_word (P C : Addr) : Sp := fun vs H Q E => ∃ t : Str, vs = [.str t] ∧ t.length ≤ 1000 ∧ GxR.TabG H P ∧ (isW t = true → ∀ H', Kp H H' → Q .non H') ∧ (isW t = false → ∀ H', Kp H H' → E (.ref C) none H')
theorem ok_p_check_word (T : Txt K mg) (TB : GxR.TabB base mg T.c_tab T.P_tab) : FnOk P w K mg base (L2.CX P w) 4 T.f_p_check_word T.d_p_check_word ["text"] (sp_p_check_word T.P_tab T.a_BadWord) := by
  refine T.F_p_check_word.okX sc_p_check_word (fun vs H Q E h => ?_) (fun cdv A outer s H vs Q E hr h => ?_)
  · obtain ⟨t, rfl, _⟩ := h
    rfl
  · obtain ⟨t, rfl, hl, hT, k, kE⟩ := h
    refine ⟨_, (pss_one (ps_if (pt_not (pt_val (pe_call (ok_p_is_word T TB) (hr.mono (by decide)) rfl T.g_p_is_word T.F_p_is_word.kp T.b_p_is_word .nil pass0 (pa_cons (pv 0) pa_nil))))
      (pss_one (ps_raise rfl (takes_of rfl rfl rfl rfl) (pmk_own PySem.F.excBase_ValueError T.x_BadWord T.g_BadWord T.k_BadWord (raises_own T.b_BadWord T.t_BadWord) rfl)))
      pss_nil)), ?_⟩
    refine ⟨_, rfl, t, rfl, hl, hT, fun H' kp => ⟨_, rfl, iteB (fun c => ?_) (fun c => ?_)⟩⟩
    · exact kE (by simpa using c) H' kp
    · exact k (by simpa using c) H' kp
def let1 (c : Nat) : Int := 41 + ((c - 97 : Nat) : Int)
def letS (w : Str) : List Int := w.cps.toList.map let1
theorem isW_len {t : Str} (h : isW t = true) : 1 ≤ t.length ∧ t.length ≤ 12 := by
  unfold isW at h
  simp only [Bool.and_eq_true, decide_eq_true_eq] at h
  omega
theorem abcW_mem {c : Nat} : c ∈ abcW.cps.toList ↔ 97 ≤ c ∧ c < 123 := by
  have e : abcW.cps.toList = (List.range 26).map (97 + ·) := by decide +kernel
  rw [e]
  constructor
  · intro h
    obtain ⟨j, hj, rfl⟩ := List.mem_map.mp h
    have := List.mem_range.mp hj
    omega
  · intro h
    exact List.mem_map.mpr ⟨c - 97, List.mem_range.mpr (by omega), by omega⟩
theorem isW_signs {t : Str} (h : isW t = true) : ∀ c ∈ t.cps.toList, 97 ≤ c ∧ c < 123 := by
  unfold isW at h
  simp only [Bool.and_eq_true] at h
  intro c hc
  exact abcW_mem.mp (of_decide_eq_true (List.all_eq_true.mp h.2.2 c hc))
/-! ### a phrasebook -/
/-- what is kept but at the places of S -/
structure KpE (S : List Addr) (H H' : Hp) : Prop where
  same : ∀ a o, isT o = false → a ∉ S → H a = some o → H' a = some o
  tab : ∀ a, GxR.TabG H a → GxR.TabG H' a
  free : ∀ a, H' a = none → H a = none
theorem KpE.kp {S : List Addr} {H0 H H' : Hp} (k : Kp H0 H) (e : KpE S H H') (h : ∀ b ∈ S, H0 b = none) : Kp H0 H' :=
  ⟨fun a o t q => e.same a o t (fun m => by rw [h a m] at q; cases q) (k.same a o t q), fun a q => e.tab a (k.tab a q), fun a q => k.free a (e.free a q)⟩
theorem KpE.of {S : List Addr} {H H' : Hp} (k : Kp H H') : KpE S H H' := ⟨fun a o t _ q => k.same a o t q, k.tab, k.free⟩
theorem KpE.trans {S : List Addr} {H H1 H2 : Hp} (a : KpE S H H1) (b : KpE S H1 H2) : KpE S H H2 :=
  ⟨fun x o t m q => b.same x o t m (a.same x o t m q), fun x q => b.tab x (a.tab x q), fun x q => a.free x (b.free x q)⟩
theorem KpE.put {S : List Addr} {H : Hp} {d : Addr} {o u : HO} (hd : H d = some u) (nt : isT u = false) (m : d ∈ S) : KpE S H (upd H d o) := by
  refine ⟨fun a v t n q => ?_, fun a ⟨ps, q, tr⟩ => ⟨ps, ?_, tr⟩, fun a q => ?_⟩
  · rw [upd_ne (fun z => n (by rw [z]; exact m))]
    exact q
  · have ne : a ≠ d := fun z => by
      rw [z, hd] at q
      cases q
      cases nt
    rw [upd_ne ne]
    exact q
  · by_cases z : a = d
    · rw [z, upd_same] at q
      cases q
    · rw [upd_ne z] at q
      exact q
abbrev Ent := (Str × Int × Int) × Addr
def flds (d1 d2 : Addr) : List (Str × V) := putF "place_by_word" (.ref d2) (putF "word_by_place" (.ref d1) [])
theorem flds_place (d1 d2 : Addr) : (flds d1 d2).lookup ("place_by_word" : Str) = some (.ref d2) := by
  unfold flds
  rw [lookup_putF, if_pos rfl]
theorem flds_word (d1 d2 : Addr) : (flds d1 d2).lookup ("word_by_place" : Str) = some (.ref d1) := by
  unfold flds
  rw [lookup_putF, if_neg (by decide +kernel), lookup_putF, if_pos rfl]
theorem flds_no (d1 d2 : Addr) {m : Str} (h1 : ¬ m = "place_by_word") (h2 : ¬ m = "word_by_place") : (flds d1 d2).lookup m = none := by
  unfold flds
  rw [lookup_putF, if_neg h1, lookup_putF, if_neg h2]
  rfl
def kvP (bs : List Ent) : List (List Key × V) := bs.map fun b => ([Sum.inl b.1.2.1, Sum.inl b.1.2.2], V.str b.1.1)
def kvW (bs : List Ent) : List (Key × V) := bs.map fun b => (Sum.inr b.1.1, V.ref b.2)
def atP (bs : List Ent) (p l : Int) : Option Ent := bs.find? fun b => decide (b.1.2.1 = p ∧ b.1.2.2 = l)
def atW (bs : List Ent) (t : Str) : Option Ent := bs.find? fun b => decide (b.1.1 = t)
theorem valP (bs : List Ent) (p l : Int) : valV (kvP bs) [Sum.inl p, Sum.inl l] = (atP bs p l).map fun b => V.str b.1.1 := by
  unfold valV kvP atP
  rw [List.find?_map, Option.map_map]
  have e : ((fun kv : List Key × V => decide (kv.1 = ([Sum.inl p, Sum.inl l] : List Key))) ∘ fun b : Ent => (([Sum.inl b.1.2.1, Sum.inl b.1.2.2] : List Key), V.str b.1.1)) = fun b => decide (b.1.2.1 = p ∧ b.1.2.2 = l) := by
    funext b
    simp
  rw [e]
  rfl
theorem valW (bs : List Ent) (t : Str) : valV (kvW bs) (Sum.inr t) = (atW bs t).map fun b => V.ref b.2 := by
  unfold valV kvW atW
  rw [List.find?_map, Option.map_map]
  have e : ((fun kv : Key × V => decide (kv.1 = (Sum.inr t : Key))) ∘ fun b : Ent => ((Sum.inr b.1.1 : Key), V.ref b.2)) = fun b => decide (b.1.1 = t) := by
    funext b
    simp
  rw [e]
  rfl
structure BookAt (C : Addr) (H : Hp) (p d1 d2 : Addr) (bs : List Ent) : Prop where
  ob : ∃ dx, H p = some (.ins C dx (flds d1 d2))
  pl : H d1 = some (.dT (kvP bs))
  wd : H d2 = some (.dK (kvW bs))
  tu : ∀ b ∈ bs, H b.2 = some (.tup [.int b.1.2.1, .int b.1.2.2])
theorem BookAt.kp {C : Addr} {H H' : Hp} {p d1 d2 : Addr} {bs : List Ent} (b : BookAt C H p d1 d2 bs) (k : Kp H H') : BookAt C H' p d1 d2 bs :=
  ⟨let ⟨dx, h⟩ := b.ob; ⟨dx, k.same _ _ rfl h⟩, k.same _ _ rfl b.pl, k.same _ _ rfl b.wd, fun e he => k.same _ _ rfl (b.tu e he)⟩
theorem BookAt.ne {C : Addr} {H : Hp} {p d1 d2 : Addr} {bs : List Ent} (b : BookAt C H p d1 d2 bs) : p ≠ d1 ∧ p ≠ d2 ∧ d1 ≠ d2 := by
  obtain ⟨dx, h⟩ := b.ob
  exact ⟨ne_of h b.pl (by intro z; cases z), ne_of h b.wd (by intro z; cases z), ne_of b.pl b.wd (by intro z; cases z)⟩
def okP (p l : Int) : Bool := (decide (1 ≤ p) && decide (p ≤ 40)) && (decide (1 ≤ l) && decide (l ≤ 40))
def sp_p_check_place (C : Addr) : Sp := fun vs H Q E => ∃ p l : Int, vs = [.int p, .int l] ∧ (okP p l = true → Q .non H) ∧ (okP p l = false → E (.ref C) none H)
theorem ok_p_check_place (T : Txt K mg) : FnOk P w K mg base (L2.CX P w) 2 T.f_p_check_place T.d_p_check_place ["page", "line"] (sp_p_check_place T.a_BadPlace) := by
  refine T.F_p_check_place.okX sc_p_check_place (fun vs H Q E h => ?_) (fun cdv A outer s H vs Q E hr h => ?_)
  · obtain ⟨p, l, rfl, _⟩ := h
    rfl
  · obtain ⟨p, l, rfl, k, kE⟩ := h
    refine ⟨_, (pss_one (ps_if (pt_not (PW.pt (pw_and (pt_chain op_le op_le pe_int (pv 0) (pe_glob rfl T.c_LAST_PAGE T.r_LAST_PAGE)) (pw_and1 (pt_chain op_le op_le pe_int (pv 1) (pe_glob rfl T.c_LAST_PAGE T.r_LAST_PAGE))))))
      (pss_one (ps_raise rfl (takes_of rfl rfl rfl rfl) (pmk_own PySem.F.excBase_ValueError T.x_BadPlace T.g_BadPlace T.k_BadPlace (raises_own T.b_BadPlace T.t_BadPlace) rfl)))
      pss_nil)), ?_⟩
    unfold okP at k kE
    refine ⟨_, rfl, _, _, rfl, rfl, _, rfl, ?_⟩
    by_cases c1 : 1 ≤ p
    · rw [decide_eq_true c1] at k kE
      refine iteTo (decide_eq_true c1) ⟨_, _, rfl, rfl, _, rfl, ?_⟩
      by_cases c2 : p ≤ 40
      · rw [decide_eq_true c2] at k kE
        refine iteTo (decide_eq_true c2) ⟨_, rfl, _, _, rfl, rfl, _, rfl, ?_⟩
        by_cases c3 : 1 ≤ l
        · rw [decide_eq_true c3] at k kE
          refine iteTo (decide_eq_true c3) ⟨_, _, rfl, rfl, _, rfl, ?_⟩
          by_cases c4 : l ≤ 40
          · rw [decide_eq_true c4] at k
            exact iteFo (by rw [decide_eq_true c4]; rfl) (k rfl)
          · rw [decide_eq_false c4] at kE
            exact iteTo (by rw [decide_eq_false c4]; rfl) (kE rfl)
        · rw [decide_eq_false c3] at kE
          exact iteFo (decide_eq_false c3) ⟨_, rfl, iteT (kE rfl)⟩
      · rw [decide_eq_false c2] at kE
        exact iteFo (decide_eq_false c2) (iteT (kE rfl))
    · rw [decide_eq_false c1] at kE
      exact iteFo (decide_eq_false c1) ⟨_, rfl, iteF (iteT (kE rfl))⟩
/-! ### Phrasebook's methods -/
def sp_p_Phrasebook_init (C : Addr) : Sp := fun vs H Q _ => ∃ (p dx : Addr), vs = [.ref p] ∧ H p = some (.ins C dx []) ∧ ∀ (d1 d2 : Addr) (H' : Hp), H d1 = none → H d2 = none → BookAt C H' p d1 d2 [] → KpE [p] H H' → Q .non H'
theorem ok_p_Phrasebook_init (T : Txt K mg) : FnOk P w K mg base CX0 1 T.f_p_Phrasebook_init T.d_p_Phrasebook_init ["self"] (sp_p_Phrasebook_init T.a_Phrasebook) := by
  refine T.F_p_Phrasebook_init.ok sc_p_Phrasebook_init (fun vs H Q E h => ?_) (fun cdv A outer s H vs Q E hr h => ?_)
  · obtain ⟨p, dx, rfl, _⟩ := h
    rfl
  · obtain ⟨p, dx, rfl, hp, k⟩ := h
    refine ⟨_, (pss_cons (ps_fld (pv 0) pe_dnewT rfl)
      (pss_one (ps_fld (pv 0) pe_dnewK rfl))), ?_⟩
    intro d1 h1
    have n1 : p ≠ d1 := ne_of_none hp h1
    refine ⟨_, rfl, p, _, dx, [], rfl, (by rw [upd_ne n1]; exact hp), T.cl_Phrasebook, T.n_Phrasebook_word_by_place, (by show 0 < 1000; decide), ?_⟩
    intro d2 h2
    have n2 : p ≠ d2 := ne_of_none upd_same h2
    have n12 : d1 ≠ d2 := fun e => by
      rw [← e, upd_ne n1.symm, upd_same] at h2
      cases h2
    refine ⟨_, rfl, p, _, dx, _, rfl, (by rw [upd_ne n2]; exact upd_same), T.cl_Phrasebook, T.n_Phrasebook_place_by_word, (by show 1 < 1000; decide), ?_⟩
    have f2 : H d2 = none := by
      rw [upd_ne n2.symm, upd_ne n12.symm] at h2
      exact h2
    have hp1 : (upd H d1 (.dT [])) p = some (.ins T.a_Phrasebook dx []) := by rw [upd_ne n1]; exact hp
    have e1 : KpE [p] H (upd (upd H d1 (.dT [])) p (.ins T.a_Phrasebook dx (putF "word_by_place" (.ref d1) []))) := (KpE.of (Kp.new h1)).trans (KpE.put hp1 rfl List.mem_cons_self)
    refine k d1 d2 _ h1 f2 ⟨⟨dx, upd_same⟩, ?_, ?_, by simp⟩ (e1.trans ((KpE.of (Kp.new h2)).trans (KpE.put (by rw [upd_ne n2]; exact upd_same) rfl List.mem_cons_self)))
    · rw [upd_ne n1.symm, upd_ne n12, upd_ne n1.symm, upd_same]
      rfl
    · rw [upd_ne n2.symm, upd_same]
      rfl
theorem kp_made {C H H1 x dx} (nx : H x = none) (ndx : H dx = none) (ne : dx ≠ x) (k : KpE [x] (upd (upd H dx (.own x)) x (.ins C dx [])) H1) : Kp H H1 :=
  KpE.kp ((Kp.new ndx).trans (.new (by rw [upd_ne ne.symm]; exact nx))) ⟨k.same, k.tab, k.free⟩ (fun b hb => by rw [List.mem_singleton.mp hb]; exact nx)
def sp_p_Phrasebook_word_at (C B : Addr) : Sp := fun vs H Q E => ∃ (p d1 d2 : Addr) (bs : List Ent) (a l : Int), vs = [.ref p, .int a, .int l] ∧ BookAt C H p d1 d2 bs ∧
  (okP a l = true → ∀ H', Kp H H' → Q (((atP bs a l).map fun b => V.str b.1.1).getD .non) H') ∧ (okP a l = false → E (.ref B) none H)
theorem ok_p_Phrasebook_word_at (T : Txt K mg) : FnOk P w K mg base (L2.CX P w) 3 T.f_p_Phrasebook_word_at T.d_p_Phrasebook_word_at ["self", "page", "line"] (sp_p_Phrasebook_word_at T.a_Phrasebook T.a_BadPlace) := by
  refine T.F_p_Phrasebook_word_at.okX sc_p_Phrasebook_word_at (fun vs H Q E h => ?_) (fun cdv A outer s H vs Q E hr h => ?_)
  · obtain ⟨p, d1, d2, bs, a, l, rfl, _⟩ := h
    rfl
  · obtain ⟨p, d1, d2, bs, a, l, rfl, hB, k, kE⟩ := h
    have hu := hu_of hr
    refine ⟨_, (pss_cons (ps_expr (pe_call (ok_p_check_place T) (hr.mono (by decide)) rfl T.g_p_check_place T.F_p_check_place.kp T.b_p_check_place .nil (passes_call (takes_of rfl rfl rfl rfl) (fun _ _ _ _ z => z)) (pa_cons (pv 1) (pa_cons (pv 2) pa_nil))))
      (pss_one (ps_ret (pe_dget1 hu (pe_fld (pv 0) rfl) (pe_tup (pa_cons (pv 1) (pa_cons (pv 2) pa_nil))) ⟨rfl, rfl, rfl, rfl⟩)))), ?_⟩
    refine ⟨_, rfl, _, rfl, a, l, rfl, fun c => ?_, fun c => kE c⟩
    obtain ⟨dx, hp⟩ := hB.ob
    refine ⟨_, rfl, p, _, dx, _, _, rfl, hp, T.cl_Phrasebook, T.n_Phrasebook_word_by_place, flds_word _ _, d1, rfl, .inr ⟨_, .inl hB.pl⟩, _, rfl, _, rfl, szl (by show 2 ≤ 100000; decide), fun t nt => ?_⟩
    generalize h_H1 : upd H t _ = H1
    have k_H1 : Kp H H1 := by rw [← h_H1]; exact .new nt
    have q_H1 := (congrFun h_H1 t).symm.trans upd_same
    clear h_H1
    have B1 := hB.kp k_H1
    have z := k c _ k_H1
    rw [← valP] at z
    exact ⟨_, DGet.t (k := [Sum.inl a, Sum.inl l]) B1.pl q_H1, z⟩
/-- why a word is not entered: the place, the word, the place has one, the word has one -/
inductive Why where
  | place | word | taken | known
def enterV (bs : List Ent) (a l : Int) (t : Str) : Option Why :=
  if okP a l = false then some .place else if isW t = false then some .word else if (atP bs a l).isSome then some .taken else if (atW bs t).isSome then some .known else none
def sp_p_Phrasebook_enter (T : Txt K mg) : Sp := fun vs H Q E => ∃ (p d1 d2 : Addr) (bs : List Ent) (a l : Int) (t : Str), vs = [.ref p, .int a, .int l, .str t] ∧ BookAt T.a_Phrasebook H p d1 d2 bs ∧ bs.length ≤ 1000 ∧ t.length ≤ 1000 ∧ GxR.TabG H T.P_tab ∧
  (enterV bs a l t = none → ∀ (u : Addr) (H' : Hp), KpE [d1, d2] H H' → BookAt T.a_Phrasebook H' p d1 d2 (bs ++ [((t, a, l), u)]) → Q .non H') ∧
  (∀ y, enterV bs a l t = some y → ∀ H', Kp H H' → E (.ref (match y with | .place => T.a_BadPlace | .word => T.a_BadWord | .taken => T.a_Taken | .known => T.a_Known)) none H')
theorem ok_p_Phrasebook_enter (T : Txt K mg) (TB : GxR.TabB base mg T.c_tab T.P_tab) : FnOk P w K mg base (L2.CX P w) 5 T.f_p_Phrasebook_enter T.d_p_Phrasebook_enter ["self", "page", "line", "word"] (sp_p_Phrasebook_enter T) := by
  refine T.F_p_Phrasebook_enter.okX sc_p_Phrasebook_enter (fun vs H Q E h => ?_) (fun cdv A outer s H vs Q E hr h => ?_)
  · obtain ⟨p, d1, d2, bs, a, l, t, rfl, _⟩ := h
    rfl
  · obtain ⟨p, d1, d2, bs, a, l, t, rfl, hB, hbl, hl, hT, k, kE⟩ := h
    have hu := hu_of hr
    refine ⟨_, (pss_cons (ps_expr (pe_call (ok_p_check_place T) (hr.mono (by decide)) rfl T.g_p_check_place T.F_p_check_place.kp T.b_p_check_place .nil (passes_call (takes_of rfl rfl rfl rfl) (fun _ _ _ _ z => z)) (pa_cons (pv 1) (pa_cons (pv 2) pa_nil))))
      (pss_cons (ps_expr (pe_call (ok_p_check_word T TB) (hr.mono (by decide)) rfl T.g_p_check_word T.F_p_check_word.kp T.b_p_check_word .nil (passes_call (takes_of rfl rfl rfl rfl) (fun _ _ _ _ z => z)) (pa_cons (pv 3) pa_nil)))
      (pss_cons (ps_if (pt_cmp (pc_din hu (pe_tup (pa_cons (pv 1) (pa_cons (pv 2) pa_nil))) (pe_fld (pv 0) rfl)))
      (pss_one (ps_raise rfl (takes_of rfl rfl rfl rfl) (pmk_own PySem.F.excBase_ValueError T.x_Taken T.g_Taken T.k_Taken (raises_own T.b_Taken T.t_Taken) rfl)))
      pss_nil)
      (pss_cons (ps_if (pt_cmp (pc_din hu (pv 3) (pe_fld (pv 0) rfl)))
      (pss_one (ps_raise rfl (takes_of rfl rfl rfl rfl) (pmk_own PySem.F.excBase_ValueError T.x_Known T.g_Known T.k_Known (raises_own T.b_Known T.t_Known) rfl)))
      pss_nil)
      (pss_cons (ps_dput hu (pe_fld (pv 0) rfl) (pe_tup (pa_cons (pv 1) (pa_cons (pv 2) pa_nil))) (pv 3) rfl)
      (pss_one (ps_dput hu (pe_fld (pv 0) rfl) (pv 3) (pe_tup (pa_cons (pv 1) (pa_cons (pv 2) pa_nil))) rfl))))))), ?_⟩
    refine ⟨_, rfl, _, rfl, a, l, rfl, fun c1 => ?_, fun c1 => kE .place (by unfold enterV; rw [if_pos c1]) H (.refl _)⟩
    have v1 : enterV bs a l t = if isW t = false then some .word else if (atP bs a l).isSome then some .taken else if (atW bs t).isSome then some .known else none := by
      unfold enterV
      rw [if_neg (by rw [c1]; decide)]
    refine ⟨_, rfl, t, rfl, hl, hT, fun c2 H1 k1 => ?_, fun c2 H1 k1 => kE .word (by rw [v1, if_pos c2]) H1 k1⟩
    rw [if_neg (by rw [c2]; decide)] at v1
    have B1 := hB.kp k1
    obtain ⟨dx, hp⟩ := B1.ob
    refine ⟨_, rfl, _, rfl, szl (by show 2 ≤ 100000; decide), fun u nu => ?_⟩
    generalize h_H2 : upd H1 u _ = H2
    have k_H2 : Kp H1 H2 := by rw [← h_H2]; exact .new nu
    have q_H2 := (congrFun h_H2 u).symm.trans upd_same
    clear h_H2
    have B2 := B1.kp k_H2
    have hp2 := k_H2.same _ _ rfl hp
    refine ⟨_, rfl, p, _, dx, _, _, rfl, hp2, T.cl_Phrasebook, T.n_Phrasebook_word_by_place, flds_word _ _, d1, _, rfl, DGet.t (k := [Sum.inl a, Sum.inl l]) B2.pl q_H2, _, rfl, ?_⟩
    cases e1 : atP bs a l with
    | some b =>
      refine iteTo (by rw [valP, e1]; rfl) ?_
      exact kE .taken (by rw [v1, e1]; rfl) H2 (k1.trans k_H2)
    | none =>
      refine iteFo (by rw [valP, e1]; rfl) ?_
      rw [e1] at v1
      refine ⟨_, rfl, _, rfl, p, _, dx, _, _, rfl, hp2, T.cl_Phrasebook, T.n_Phrasebook_place_by_word, flds_place _ _, d2, _, rfl, DGet.k (k := Sum.inr t) B2.wd, _, rfl, ?_⟩
      cases e2 : atW bs t with
      | some b =>
        refine iteTo (by rw [valW, e2]; rfl) ?_
        exact kE .known (by rw [v1, e2]; rfl) H2 (k1.trans k_H2)
      | none =>
        refine iteFo (by rw [valW, e2]; rfl) ?_
        rw [e2] at v1
        obtain ⟨np1, np2, n12⟩ := B2.ne
        have hbl1 : (kvP bs).length < sizeLine := szt (by unfold kvP; rw [List.length_map]; omega)
        have hbl2 : (kvW bs).length < sizeLine := szt (by unfold kvW; rw [List.length_map]; omega)
        refine ⟨_, rfl, _, rfl, p, _, dx, _, _, rfl, hp2, T.cl_Phrasebook, T.n_Phrasebook_word_by_place, flds_word _ _, _, rfl, _, rfl, szl (by show 2 ≤ 100000; decide), fun u3 nu3 => ?_⟩
        generalize h_H3 : upd H2 u3 _ = H3
        have k_H3 : Kp H2 H3 := by rw [← h_H3]; exact .new nu3
        have q_H3 := (congrFun h_H3 u3).symm.trans upd_same
        clear h_H3
        have B3 := B2.kp k_H3
        have hp3 := k_H3.same _ _ rfl hp2
        refine ⟨d1, _, rfl, DPut.t (k := [Sum.inl a, Sum.inl l]) B3.pl q_H3 hbl1, ?_⟩
        have eP : putK (kvP bs) [Sum.inl a, Sum.inl l] (V.str t) = kvP (bs ++ [((t, a, l), 0)]) := by
          rw [putK_new _ (by rw [valP, e1]; rfl)]
          unfold kvP
          rw [List.map_append]
          rfl
        rw [eP]
        have m1 : KpE [d1, d2] H3 (upd H3 d1 (.dT (kvP (bs ++ [((t, a, l), 0)])))) := KpE.put B3.pl rfl List.mem_cons_self
        refine ⟨_, rfl, _, rfl, szl (by show 2 ≤ 100000; decide), fun u4 nu4 => ?_⟩
        have n41 : d1 ≠ u4 := ne_of_none upd_same nu4
        have n42 : d2 ≠ u4 := ne_of_none (by rw [upd_ne n12.symm]; exact B3.wd) nu4
        have n4p : p ≠ u4 := ne_of_none (by rw [upd_ne np1]; exact hp3) nu4
        have w4 : (upd (upd H3 d1 (.dT (kvP (bs ++ [((t, a, l), 0)])))) u4 (.tup [V.int a, V.int l])) d2 = some (.dK (kvW bs)) := by
          rw [upd_ne n42, upd_ne n12.symm]
          exact B3.wd
        refine ⟨_, rfl, p, _, dx, _, _, rfl, (by rw [upd_ne n4p, upd_ne np1]; exact hp3), T.cl_Phrasebook, T.n_Phrasebook_place_by_word, flds_place _ _, _, rfl, d2, _, rfl, DPut.k (k := Sum.inr t) w4 hbl2, ?_⟩
        have eW : putK (kvW bs) (Sum.inr t) (V.ref u4) = kvW (bs ++ [((t, a, l), u4)]) := by
          rw [putK_new _ (by rw [valW, e2]; rfl)]
          unfold kvW
          rw [List.map_append]
          rfl
        rw [eW]
        have eP2 : kvP (bs ++ [((t, a, l), 0)]) = kvP (bs ++ [((t, a, l), u4)]) := by
          unfold kvP
          rw [List.map_append, List.map_append]
          rfl
        refine k (by rw [v1]; rfl) u4 _ (((KpE.of ((k1.trans k_H2).trans k_H3)).trans m1).trans ((KpE.of (Kp.new nu4)).trans (KpE.put w4 rfl (List.mem_cons_of_mem _ List.mem_cons_self)))) ⟨⟨dx, ?_⟩, ?_, upd_same, fun e he => ?_⟩
        · rw [upd_ne np2, upd_ne n4p, upd_ne np1]
          exact hp3
        · rw [upd_ne n12, upd_ne n41, upd_same, eP2]
        · rcases List.mem_append.mp he with he | he
          · have q := B3.tu e he
            have x1 : e.2 ≠ d1 := ne_of q B3.pl (by intro z; cases z)
            have x2 : e.2 ≠ d2 := ne_of q B3.wd (by intro z; cases z)
            have x4 : e.2 ≠ u4 := ne_of_none (by rw [upd_ne x1]; exact q) nu4
            rw [upd_ne x2, upd_ne x4, upd_ne x1]
            exact q
          · rw [List.mem_singleton.mp he]
            rw [upd_ne n42.symm, upd_same]
theorem Kp.unlock {H H' : Hp} {d : Addr} {u : HO} {od : Obj} (hd : H d = some u) (nt : isT u = false) (k : Kp (upd H d (.frz od u)) H') : Kp H (upd H' d u) := by
  refine ⟨fun a o t q => ?_, fun a ⟨ps, q, tr⟩ => ?_, fun a q => ?_⟩
  · by_cases e : a = d
    · rw [e] at q ⊢
      rw [hd] at q
      rw [upd_same, Option.some.inj q]
    · rw [upd_ne e]
      exact k.same a o t (by rw [upd_ne e]; exact q)
  · have e : a ≠ d := fun z => by
      rw [z, hd] at q
      rw [Option.some.inj q] at nt
      cases nt
    obtain ⟨ps', h1, h2⟩ := k.tab a ⟨ps, by rw [upd_ne e]; exact q, tr⟩
    exact ⟨ps', by rw [upd_ne e]; exact h1, h2⟩
  · by_cases e : a = d
    · rw [e, upd_same] at q
      cases q
    · rw [upd_ne e] at q
      have z := k.free a q
      rw [upd_ne e] at z
      exact z
/-! ### Phrasebook.place_of -/
def sp_p_Phrasebook_place_of (P C B : Addr) : Sp := fun vs H Q E => ∃ (p d1 d2 : Addr) (bs : List Ent) (t : Str), vs = [.ref p, .str t] ∧ BookAt C H p d1 d2 bs ∧ t.length ≤ 1000 ∧ GxR.TabG H P ∧
  (isW t = true → ∀ H', Kp H H' → Q (((atW bs t).map fun b => V.ref b.2).getD .non) H') ∧ (isW t = false → ∀ H', Kp H H' → E (.ref B) none H')
theorem ok_p_Phrasebook_place_of (T : Txt K mg) (TB : GxR.TabB base mg T.c_tab T.P_tab) : FnOk P w K mg base (L2.CX P w) 5 T.f_p_Phrasebook_place_of T.d_p_Phrasebook_place_of ["self", "word"] (sp_p_Phrasebook_place_of T.P_tab T.a_Phrasebook T.a_BadWord) := by
  refine T.F_p_Phrasebook_place_of.okX sc_p_Phrasebook_place_of (fun vs H Q E h => ?_) (fun cdv A outer s H vs Q E hr h => ?_)
  · obtain ⟨p, d1, d2, bs, t, rfl, _⟩ := h
    rfl
  · obtain ⟨p, d1, d2, bs, t, rfl, hB, hl, hT, k, kE⟩ := h
    have hu := hu_of hr
    refine ⟨_, (pss_cons (ps_expr (pe_call (ok_p_check_word T TB) (hr.mono (by decide)) rfl T.g_p_check_word T.F_p_check_word.kp T.b_p_check_word .nil (passes_call (takes_of rfl rfl rfl rfl) (fun _ _ _ _ z => z)) (pa_cons (pv 1) pa_nil)))
      (pss_one (ps_ret (pe_dget1 hu (pe_fld (pv 0) rfl) (pv 1) ⟨rfl, rfl, rfl, rfl⟩)))), ?_⟩
    refine ⟨_, rfl, t, rfl, hl, hT, fun c H1 k1 => ?_, fun c H1 k1 => kE c H1 k1⟩
    have B1 := hB.kp k1
    obtain ⟨dx, hp⟩ := B1.ob
    have z := k c H1 k1
    rw [← valW] at z
    exact ⟨_, rfl, p, _, dx, _, _, rfl, hp, T.cl_Phrasebook, T.n_Phrasebook_place_by_word, flds_place _ _, d2, rfl, .inl ⟨_, .inl B1.wd⟩, _, rfl, _, DGet.k (k := Sum.inr t) B1.wd, z⟩
/-! ### Phrasebook.strike -/
def sp_p_Phrasebook_strike (T : Txt K mg) : Sp := fun vs H Q E => ∃ (p d1 d2 : Addr) (bs : List Ent) (a l : Int), vs = [.ref p, .int a, .int l] ∧ BookAt T.a_Phrasebook H p d1 d2 bs ∧
  (okP a l = false → ∀ H', Kp H H' → E (.ref T.a_BadPlace) none H') ∧ (okP a l = true → atP bs a l = none → ∀ H', Kp H H' → E (.ref T.a_NoWord) none H') ∧
  (okP a l = true → ∀ b, atP bs a l = some b → ∃ bs2 : List Ent, dropK (kvP bs) [Sum.inl a, Sum.inl l] = kvP bs2 ∧ dropK (kvW bs) (Sum.inr b.1.1) = kvW bs2 ∧ (∀ e ∈ bs2, e ∈ bs) ∧
    ∀ H', KpE [d1, d2] H H' → BookAt T.a_Phrasebook H' p d1 d2 bs2 → Q .non H')
theorem ok_p_Phrasebook_strike (T : Txt K mg) : FnOk P w K mg base (L2.CX P w) 4 T.f_p_Phrasebook_strike T.d_p_Phrasebook_strike ["self", "page", "line"] (sp_p_Phrasebook_strike T) := by
  refine T.F_p_Phrasebook_strike.okX sc_p_Phrasebook_strike (fun vs H Q E h => ?_) (fun cdv A outer s H vs Q E hr h => ?_)
  · obtain ⟨p, d1, d2, bs, a, l, rfl, _⟩ := h
    rfl
  · obtain ⟨p, d1, d2, bs, a, l, rfl, hB, kP, kN, k⟩ := h
    have hu := hu_of hr
    refine ⟨_, (pss_cons (ps_set (i := 3) sc_p_Phrasebook_strike.nd rfl (by first | exact Or.inl rfl | exact Or.inr rfl) (pe_meth (pv 0) T.cl_Phrasebook T.M_p_Phrasebook_word_at (ok_p_Phrasebook_word_at T) (hr.mono (by decide)) T.b_p_Phrasebook_word_at .nil (passes_call (takes_of rfl rfl rfl rfl) (fun _ _ _ _ z => z)) (pa_cons (pv 1) (pa_cons (pv 2) pa_nil))))
      (pss_cons (ps_if (pt_cmpR op_isN (pv 3) pe_non (nomark _))
      (pss_one (ps_raise rfl (takes_of rfl rfl rfl rfl) (pmk_own PySem.F.excBase_ValueError T.x_NoWord T.g_NoWord T.k_NoWord (raises_own T.b_NoWord T.t_NoWord) rfl)))
      pss_nil)
      (pss_cons (ps_ddelT hu (pe_fld (pv 0) rfl) (pe_tup (pa_cons (pv 1) (pa_cons (pv 2) pa_nil))))
      (pss_one (ps_ddel (pe_fld (pv 0) rfl) (pv 3)))))), ?_⟩
    obtain ⟨dx, hp⟩ := hB.ob
    refine ⟨_, rfl, p, dx, _, rfl, hp, flds_no _ _ (by decide +kernel) (by decide +kernel), _, rfl, _, rfl, p, d1, d2, bs, a, l, rfl, hB, fun c H1 k1 => ?_, fun c => kP c H (.refl _)⟩
    cases e : atP bs a l with
    | none =>
      refine ⟨_, rfl, rfl, _, rfl, iteTo dec_self ?_⟩
      exact kN c e H1 k1
    | some b =>
      refine ⟨_, rfl, rfl, _, rfl, iteFo rfl ?_⟩
      obtain ⟨bs2, e1, e2, sub, k⟩ := k c b e
      have B1 := hB.kp k1
      obtain ⟨np1, np2, n12⟩ := B1.ne
      have hp1 := k1.same _ _ rfl hp
      refine ⟨_, rfl, p, _, dx, _, _, rfl, hp1, T.cl_Phrasebook, T.n_Phrasebook_word_by_place, flds_word _ _, _, rfl, _, rfl, szl (by show 2 ≤ 100000; decide), fun t nt => ?_⟩
      generalize h_H2 : upd H1 t _ = H2
      have k_H2 : Kp H1 H2 := by rw [← h_H2]; exact .new nt
      have q_H2 := (congrFun h_H2 t).symm.trans upd_same
      clear h_H2
      have B2 := B1.kp k_H2
      have hp2 := k_H2.same _ _ rfl hp1
      refine ⟨d1, t, _, [Sum.inl a, Sum.inl l], rfl, rfl, B2.pl, q_H2, by rw [valP, e]; rfl, ?_⟩
      rw [e1]
      have m1 : KpE [d1, d2] H2 (upd H2 d1 (.dT (kvP bs2))) := KpE.put B2.pl rfl List.mem_cons_self
      have w2 : (upd H2 d1 (.dT (kvP bs2))) d2 = some (.dK (kvW bs)) := by rw [upd_ne n12.symm]; exact B2.wd
      have hbb : (atW bs b.1.1).isSome = true := by
        unfold atW
        rw [List.find?_isSome]
        exact ⟨b, List.mem_of_find?_eq_some e, by simp⟩
      refine ⟨_, rfl, p, _, dx, _, _, rfl, (by rw [upd_ne np1]; exact hp2), T.cl_Phrasebook, T.n_Phrasebook_place_by_word, flds_place _ _, _, rfl, d2, _, Sum.inr b.1.1, rfl, w2, rfl, by rw [valW, Option.isSome_map]; exact hbb, ?_⟩
      rw [e2]
      refine k _ (((KpE.of (k1.trans k_H2)).trans m1).trans (KpE.put w2 rfl (List.mem_cons_of_mem _ List.mem_cons_self))) ⟨⟨dx, ?_⟩, ?_, upd_same, fun x hx => ?_⟩
      · rw [upd_ne np2, upd_ne np1]
        exact hp2
      · rw [upd_ne n12, upd_same]
      · have q := B2.tu x (sub x hx)
        have x1 : x.2 ≠ d1 := ne_of q B2.pl (by intro z; cases z)
        have x2 : x.2 ≠ d2 := ne_of q B2.wd (by intro z; cases z)
        rw [upd_ne x2, upd_ne x1]
        exact q
/-! ### Phrasebook.words: a sorted list of rows -/
def dTrip (b : Ent) : PyData := .tuple [.int b.1.2.1, .int b.1.2.2, .str b.1.1]
def wordsD (bs : List Ent) : List PyData := sortD (bs.map dTrip)
theorem kvP_at {bs : List Ent} {i : Nat} {k : List Key} {v : V} (h : (kvP bs)[i]? = some (k, v)) : ∃ e, bs[i]? = some e ∧ k = [Sum.inl e.1.2.1, Sum.inl e.1.2.2] ∧ v = V.str e.1.1 := by
  unfold kvP at h
  rw [List.getElem?_map] at h
  cases e : bs[i]? with
  | none =>
    rw [e] at h
    cases h
  | some b =>
    rw [e] at h
    have z := Option.some.inj h
    rw [Prod.mk.injEq] at z
    exact ⟨b, rfl, z.1.symm, z.2.symm⟩
theorem nl_trips {bs : List Ent} {b : Ent} : ∀ d ∈ bs.map dTrip ++ [b].map dTrip, Nl d := by
  intro d hd
  rw [← List.map_append] at hd
  obtain ⟨e, _, rfl⟩ := List.mem_map.mp hd
  exact .tup (by intro d hd; simp only [List.mem_cons, List.not_mem_nil, or_false] at hd; rcases hd with rfl | rfl | rfl <;> first | exact .str _ | exact .int _)
mutual
theorem Dp.putD {K : PySem.W.Frag} {H : Hp} {p : Addr} {o : HO} {od : Obj} {kvs : List (List Key × V)} (hp : H p = some (.frz od (.dT kvs))) : ∀ {d : PyData} {v : V}, Dp K H v d → Dp K (upd H p o) v d
  | _, _, .non => .non
  | _, _, .bl b => .bl b
  | _, _, .int i => .int i
  | _, _, .str x => .str x
  | _, _, .lst h a => by
    refine .lst ?_ (DpAll.putD hp a)
    rcases h with (h | ⟨ob, h⟩) | h
    · exact .inl (.inl (by rw [upd_ne (ne_of h hp (by intro z; cases z))]; exact h))
    · exact .inl (.inr ⟨ob, by rw [upd_ne (ne_of h hp (by intro z; cases z))]; exact h⟩)
    · exact .inr h
  | _, _, .tup h a => by
    refine .tup ?_ (DpAll.putD hp a)
    rcases h with (h | ⟨ob, h⟩) | h
    · exact .inl (.inl (by rw [upd_ne (ne_of h hp (by intro z; cases z))]; exact h))
    · exact .inl (.inr ⟨ob, by rw [upd_ne (ne_of h hp (by intro z; cases z))]; exact h⟩)
    · exact .inr h
theorem DpAll.putD {K : PySem.W.Frag} {H : Hp} {p : Addr} {o : HO} {od : Obj} {kvs : List (List Key × V)} (hp : H p = some (.frz od (.dT kvs))) : ∀ {ds : List PyData} {vs : List V}, DpAll K H vs ds → DpAll K (upd H p o) vs ds
  | _, _, .nil => .nil
  | _, _, .cons h t => .cons (Dp.putD hp h) (DpAll.putD hp t)
end
def sp_p_Phrasebook_words (K : PySem.W.Frag) (C : Addr) : Sp := fun vs H Q _ => ∃ (p d1 d2 : Addr) (bs : List Ent), vs = [.ref p] ∧ BookAt C H p d1 d2 bs ∧ bs.length ≤ 1000 ∧
  ∀ (r : Addr) (ys : List V) (H' : Hp), H r = none → Kp H H' → H' r = some (.lst ys) → DpAll K H' ys (wordsD bs) → Q (.ref r) H'
theorem ok_p_Phrasebook_words (T : Txt K mg) : FnOk P w K mg base CX0 2 T.f_p_Phrasebook_words T.d_p_Phrasebook_words ["self"] (sp_p_Phrasebook_words K T.a_Phrasebook) := by
  refine T.F_p_Phrasebook_words.ok sc_p_Phrasebook_words (fun vs H Q E h => ?_) (fun cdv A outer s H vs Q E hr h => ?_)
  · obtain ⟨p, d1, d2, bs, rfl, _⟩ := h
    rfl
  · obtain ⟨p, d1, d2, bs, rfl, hB, hbl, k⟩ := h
    have hu := hu_of hr
    refine ⟨_, (pss_one (ps_ret (pe_callB (cr_sortedD (hu65 hr)) (by rfl) T.m_sorted PyProof.Rows.boot_sorted (pa_cons (pe_lock (pe_lc (own := [("word", 1), ("page", 2), ("line", 3)]) (tt := tYes) (by rfl) sc_p_Phrasebook_words.nd (pi_pairs (pe_fld (pv 0) rfl)) (blkOk_by (own := [("word", 1), ("page", 2), ("line", 3)]) (N := ["self", "word", "page", "line"]) (sc := defScope s_p_Phrasebook_words) (by decide +kernel)) (fun _ _ _ _ _ => (pgK K rfl (pg_tup (n := 2) rfl (pgs_cons (pgK K rfl (pg_tup (n := 2) rfl (pgs_cons (pg_name (i := 2) sc_p_Phrasebook_words.nd rfl (by first | exact Or.inl rfl | exact Or.inr rfl)) (pgs_cons (pg_name (i := 3) sc_p_Phrasebook_words.nd rfl (by first | exact Or.inl rfl | exact Or.inr rfl)) pgs_nil)))) (pgs_cons (pg_name (i := 1) sc_p_Phrasebook_words.nd rfl (by first | exact Or.inl rfl | exact Or.inr rfl)) pgs_nil))))) (fun _ _ _ _ _ => pts_nil) (fun _ _ _ _ _ => (pe_tup (pa_cons (pv 2) (pa_cons (pv 3) (pa_cons (pv 1) pa_nil))))))) pa_nil)))), ?_⟩
    obtain ⟨dx, hp⟩ := hB.ob
    obtain ⟨np1, np2, n12⟩ := hB.ne
    refine ⟨d1, _, hB.pl, trivial, fun od => ?_⟩
    refine ⟨_, rfl, p, _, dx, _, _, rfl, (by rw [upd_ne np1]; exact hp), T.cl_Phrasebook, T.n_Phrasebook_word_by_place, flds_word _ _, d1, od, kvP bs, rfl, upd_same, fun D hD => ?_⟩
    refine lc_it (walk_pairs (d := d1) (o := od) (kvs := kvP bs)) (fun i H' => Kp (upd H d1 (.frz od (.dT (kvP bs)))) H' ∧ ∃ rs : List V, H' D = some (.lst rs) ∧ DpAll K H' rs ((bs.take i).map dTrip)) ⟨Kp.new hD, [], upd_same, .nil⟩ (fun i H' _ ⟨kk, _⟩ => kk.same _ _ rfl upd_same) (fun i x H7 H8 hi ⟨kk, rs, hrs, hd⟩ ⟨t, q, ky, v, hkv, hx, nt, hq, e8⟩ => ?_) (fun H7 ⟨kk, rs, hrs, hd⟩ => ?_)
    · subst e8
      subst hx
      obtain ⟨b, hb, rfl, rfl⟩ := kvP_at hkv
      generalize h_H9 : upd H7 t _ = H9
      have k_H9 : Kp H7 H9 := by rw [← h_H9]; exact .new nt
      have q_H9 := (congrFun h_H9 t).symm.trans upd_same
      clear h_H9
      have hq9 : H9 q = some (.tup [.int b.1.2.1, .int b.1.2.2]) := k_H9.same _ _ rfl hq
      have hil : i < bs.length := (List.getElem?_eq_some_iff.mp hb).1
      refine ⟨t, _, rfl, .inl (.inl q_H9), rfl, _, _, rfl, q, _, rfl, .inl (.inl hq9), rfl, _, _, rfl, _, _, rfl, rfl, _, _, rfl, rfl, rfl, ?_⟩
      refine ⟨_, rfl, _, rfl, _, rfl, szl (by show 3 ≤ 100000; decide), fun u nu => ?_⟩
      generalize h_Ha : upd H9 u _ = Ha
      have k_Ha : Kp H9 Ha := by rw [← h_Ha]; exact .new nu
      have q_Ha := (congrFun h_Ha u).symm.trans upd_same
      clear h_Ha
      have hra := k_Ha.same _ _ rfl (k_H9.same _ _ rfl hrs)
      have hl := DpAll.len hd
      rw [List.length_map, List.length_take] at hl
      refine ⟨rs, hra, szt (by omega), ((kk.trans k_H9).trans k_Ha).mut hD, _, upd_same, ?_⟩
      rw [take_snoc hb, List.map_append]
      refine DpAll.mut hra nl_trips (DpAll.snoc (k_Ha.dpAll (k_H9.dpAll hd)) (.tup (.inl (.inl q_Ha)) (.cons (.int _) (.cons (.int _) (.cons (.str _) .nil)))))
    · have ekl : (kvP bs).length = bs.length := by unfold kvP; rw [List.length_map]
      rw [ekl, List.take_length] at hd
      have hf := kk.same _ _ rfl (upd_same (H := H) (a := d1) (o := .frz od (.dT (kvP bs))))
      refine ⟨hf, ?_⟩
      have ku := Kp.unlock hB.pl rfl kk
      have nD : D ≠ d1 := fun z => by
        rw [z, upd_same] at hD
        cases hD
      have hDD : H D = none := by
        rw [upd_ne nD] at hD
        exact hD
      have h9 : upd H7 d1 (.dT (kvP bs)) D = some (.lst rs) := by
        rw [upd_ne nD]
        exact hrs
      have hd9 := DpAll.putD (o := .dT (kvP bs)) hf hd
      generalize upd H7 d1 (.dT (kvP bs)) = H9 at ku h9 hd9 ⊢
      refine ⟨D, rs, bs.map dTrip, rfl, .inl (.inl h9), hd9, PySem.W.AllAlike.of fun _ _ => rfl, PySem.W.Sortable.tuples fun _ => ⟨_, _, rfl⟩, ?_, fun ys r hy nr => k r ys _ (ku.free _ nr) (ku.trans (.new nr)) upd_same ((Kp.new nr).dpAll hy)⟩
      intro d hd
      obtain ⟨b, _, rfl⟩ := List.mem_map.mp hd
      show 1 ≤ 60
      decide
/-! ### letter_of and sign_of -/
def abc : Str := "abcdefghijklmnopqrstuvwxyz"
theorem abc_len : abc.length = 26 := by decide +kernel
theorem abc_at {j : Nat} (h : j < 26) : atI abc.cps.toList (j : Int) = some (97 + j) := by
  have e : abc.cps.toList = (List.range 26).map (97 + ·) := by decide +kernel
  rw [e]
  exact atI_nat (by rw [List.getElem?_map, List.getElem?_range h]; rfl)
theorem abc_ix : ∀ j, j < 26 → ∃ rest, Builtin.Str.occurrences abc ⟨#[97 + j]⟩ 0 abc.length 1 = j :: rest := by
  have h : ∀ j : Fin 26, (Builtin.Str.occurrences abc ⟨#[97 + j.val]⟩ 0 abc.length 1) = [j.val] := by decide +kernel
  exact fun j hj => ⟨[], h ⟨j, hj⟩⟩
/-! ### a method of a text inside a comprehension -/
/-! ### _law_word: a drawn word -/
theorem joinL_nil : ∀ zs : List (List Nat), TL.joinL [] zs = zs.flatten
  | [] => rfl
  | [z] => by show z = _; simp
  | z :: z2 :: r => by
    show z ++ ([] ++ TL.joinL [] (z2 :: r)) = _
    rw [joinL_nil (z2 :: r), List.nil_append]
    rfl
def one (c : Nat) : Str := ⟨#[c]⟩
theorem join_ones (cs : List Nat) : (Txt.join "" (cs.map one)).cps.toList = cs := by
  have e : TL.tl (Txt.join "" (cs.map one)) = TL.joinL (TL.tl "") ((cs.map one).map TL.tl) := by rw [TL.join_eq, TL.tl_join]
  have e0 : TL.tl "" = [] := by decide +kernel
  rw [e0, joinL_nil, List.map_map] at e
  have e2 : (cs.map (TL.tl ∘ one)).flatten = cs := by
    clear e
    induction cs with
    | nil => rfl
    | cons c r ih =>
      rw [List.map_cons, List.flatten_cons, ih]
      rfl
  rw [e2] at e
  exact e
theorem sum_ones (cs : List Nat) : ((cs.map one).map (·.length)).sum = cs.length := by
  induction cs with
  | nil => rfl
  | cons c r ih =>
    rw [List.map_cons, List.map_cons, List.sum_cons, ih, List.length_cons]
    show 1 + r.length = r.length + 1
    omega
theorem isW_of {t : Str} (h1 : 1 ≤ t.cps.toList.length) (h2 : t.cps.toList.length ≤ 12) (h : ∀ c ∈ t.cps.toList, c ∈ abcW.cps.toList) : isW t = true := by
  have et : t.length = t.cps.toList.length := by simp [Str.length]
  unfold isW
  rw [et, decide_eq_true (show 1 ≤ (t.cps.toList.length : Int) by omega), decide_eq_true (show (t.cps.toList.length : Int) ≤ 12 by omega)]
  show (t.cps.toList.all fun c => decide (c ∈ abcW.cps.toList)) = true
  exact List.all_eq_true.mpr fun c hc => decide_eq_true (h c hc)
theorem isW_cut {t : Str} {z : Int} (hl : t.cps.toList.length = 12) (h : ∀ c ∈ t.cps.toList, c ∈ abcW.cps.toList) (h1 : 1 ≤ z) (h2 : z ≤ 12) : isW (cutS t none (some z)) = true := by
  have et : t.length = 12 := by simpa [Str.length] using hl
  have e1 : HT.sIx t.length 0 none = 0 := rfl
  have e2 : HT.sIx t.length t.length (some z) = z.toNat := by
    rw [et]
    obtain ⟨n, rfl⟩ : ∃ n : Nat, z = (n : Int) := ⟨z.toNat, by omega⟩
    have hn : n ≤ 12 := by omega
    rw [Int.toNat_natCast]
    have key : ∀ n : Fin 13, HT.sIx 12 12 (some ((n.val : Nat) : Int)) = n.val := by decide +kernel
    exact key ⟨n, by omega⟩
  have e : (cutS t none (some z)).cps.toList = t.cps.toList.take z.toNat := by
    unfold cutS
    rw [e1, e2]
    simp
  refine isW_of ?_ ?_ ?_
  · rw [e, List.length_take]
    omega
  · rw [e, List.length_take]
    omega
  · rw [e]
    intro c hc
    exact h c (List.mem_of_mem_take hc)
def W7 : List Str := ["tide", "tides", "out", "aaaaaaaaaaaa", "a", "b", "zaaaaaaaaaaa"]
theorem isW_7 : ∀ t ∈ W7, isW t = true := by decide +kernel
theorem at_7 (n : Int) : ∃ t ∈ W7, atI (W7.map V.str) (n % 7) = some (.str t) := by
  have h0 : 0 ≤ n % 7 := Int.emod_nonneg _ (by decide)
  have h1 : n % 7 < 7 := Int.emod_lt_of_pos _ (by decide)
  have hj : (n % 7).toNat < W7.length := by
    show (n % 7).toNat < 7
    omega
  refine ⟨W7[(n % 7).toNat], List.getElem_mem _, ?_⟩
  have e := atI_nat (xs := W7.map V.str) (j := (n % 7).toNat) (v := .str W7[(n % 7).toNat]) (by rw [List.getElem?_map, List.getElem?_eq_getElem hj]; rfl)
  rw [Int.toNat_of_nonneg h0] at e
  exact e
theorem at_abc (m : Int) : ∃ c ∈ abcW.cps.toList, atI abcW.cps.toList (m % 26) = some c := by
  have h0 : 0 ≤ m % 26 := Int.emod_nonneg _ (by decide)
  have h1 : m % 26 < 26 := Int.emod_lt_of_pos _ (by decide)
  have hl : abcW.cps.toList.length = 26 := by decide +kernel
  have hj : (m % 26).toNat < abcW.cps.toList.length := by omega
  refine ⟨abcW.cps.toList[(m % 26).toNat], List.getElem_mem _, ?_⟩
  have e := atI_nat (List.getElem?_eq_getElem hj)
  rw [Int.toNat_of_nonneg h0] at e
  exact e
theorem cut1 {ns : List Int} : cutV (ns.map V.int) (some 1) none = (ns.drop 1).map V.int := by
  unfold cutV
  rw [List.length_map]
  cases ns with
  | nil => rfl
  | cons n r =>
    have e1 : HT.sIx (n :: r).length 0 (some 1) = 1 := by
      show HT.sIx (r.length + 1) 0 (some 1) = 1
      unfold HT.sIx
      simp
      try omega
    have e2 : HT.sIx (n :: r).length (n :: r).length none = (n :: r).length := rfl
    rw [e1, e2, List.drop_succ_cons, List.drop_zero, List.map_cons, List.drop_succ_cons, List.drop_zero, List.length_cons]
    rw [List.take_of_length_le (by rw [List.length_map]; omega)]
def sp_l_word : Sp := fun vs H Q _ => ∃ c : Int, vs = [.int c] ∧ ∀ (t : Str) (H' : Hp), isW t = true → Kp H H' → Q (.str t) H'
theorem ok_l_word (T : Txt K mg) : FnOk P w K mg base CX0 2 T.f_l_word T.d_l_word ["_law_cell_here"] sp_l_word := by
  refine T.F_l_word.ok sc_l_word (fun vs H Q E h => ?_) (fun cdv A outer s H vs Q E hr h => ?_)
  · obtain ⟨c, rfl, _⟩ := h
    rfl
  · obtain ⟨c, rfl, k⟩ := h
    refine ⟨_, (pss_cons (ps_set (i := 1) sc_l_word.nd rfl (by first | exact Or.inl rfl | exact Or.inr rfl) (pe_call (ok_l_row T) (hr.mono (by decide)) rfl T.g_l_row T.F_l_row.kp T.b_l_row .nil pass0 (pa_cons (pv 0) (pa_cons pe_int (pa_cons pe_int pa_nil)))))
      (pss_cons (ps_set (i := 2) sc_l_word.nd rfl (by first | exact Or.inl rfl | exact Or.inr rfl) (pe_join pe_str (pe_lc (own := [("_law_num", 3)]) (g := gName 3) (tt := tYes) (by rfl) sc_l_word.nd (pi_list (pe_slice sl_list (pv 1) (po_some pe_int) po_none)) (blkOk_by (own := [("_law_num", 3)]) (N := ["_law_cell_here", "_law_nums", "_law_some", "_law_num", "_law_size"]) (sc := defScope s_l_word) (by decide +kernel)) (fun _ _ _ _ _ => (pg_name (i := 3) sc_l_word.nd rfl (by first | exact Or.inl rfl | exact Or.inr rfl))) (fun _ _ _ _ _ => pts_nil) (fun _ _ _ _ _ => (pe_ix ix_str pe_str (pe_op op_mod (pv 3) pe_int) (fun _ _ => rfl))))))
      (pss_cons (ps_set (i := 4) sc_l_word.nd rfl (by first | exact Or.inl rfl | exact Or.inr rfl) (pe_op op_add pe_int (pe_op op_mod (pe_ix ix_list (pv 1) pe_int (fun _ _ => rfl)) pe_int)))
      (pss_cons (ps_if (pt_cmpR op_eq (pe_op op_mod (pe_op op_fdiv (pe_ix ix_list (pv 1) pe_int (fun _ _ => rfl)) pe_int) pe_int) pe_int (nomark _))
      (pss_one (ps_ret (pe_ix ix_tup (pe_tup (pa_cons pe_str (pa_cons pe_str (pa_cons pe_str (pa_cons pe_str (pa_cons pe_str (pa_cons pe_str (pa_cons pe_str pa_nil)))))))) (pe_op op_mod (pe_ix ix_list (pv 1) pe_int (fun _ _ => rfl)) pe_int) (fun _ _ => rfl))))
      pss_nil)
      (pss_one (ps_ret (pe_slice sl_str (pv 2) po_none (po_some (pv 4))))))))), ?_⟩
    refine ⟨_, rfl, _, _, _, rfl, by decide, by decide, by decide, by decide, fun nums p1 H1 n1 k1 q1 ⟨hl, hb⟩ => ?_⟩
    have h0 : 0 < nums.length := by omega
    have h1' : 1 < nums.length := by omega
    refine ⟨⟨_, rfl⟩, _, rfl, _, rfl, p1, _, rfl, .inl (.inl q1), fun p2 n2 => ?_⟩
    generalize h_H2 : upd H1 p2 _ = H2
    have k_H2 : Kp H1 H2 := by rw [← h_H2]; exact .new n2
    have q_H2 := (congrFun h_H2 p2).symm.trans upd_same
    clear h_H2
    have q2 : H2 p2 = some (.lst ((nums.drop 1).map V.int)) := by rw [← cut1]; exact q_H2
    refine ⟨p2, rfl, ⟨_, .inl (.inl q2)⟩, fun D hD => ?_⟩
    refine lc_list (K := K) (a := p2) (xs := (nums.drop 1).map V.int) (fun i H' => Kp H2 H' ∧ ∃ cs : List Nat, H' D = some (.lst ((cs.map one).map V.str)) ∧ cs.length = i ∧ ∀ y ∈ cs, y ∈ abcW.cps.toList) ⟨Kp.new hD, [], upd_same, rfl, by simp⟩ (fun i H' _ ⟨kp, _⟩ => kp.sqL (.inl (.inl q2))) (fun i x H' hi ⟨kp, ss, hs, hn, h1⟩ => ?_) (fun H' ⟨kp, ss, hs, hn, h1⟩ => ?_)
    · have hil : i < 12 := by
        have z := (List.getElem?_eq_some_iff.mp hi).1
        rw [List.length_map, List.length_drop] at z
        omega
      obtain ⟨z, _, rfl, _⟩ := mem_ints hi
      obtain ⟨c, hcm, hc⟩ := at_abc z
      refine ⟨rfl, ?_⟩
      refine ⟨_, rfl, _, _, rfl, rfl, (by show (0 : Int) < 26; decide), abcW, _, c, rfl, rfl, by decide +kernel, hc, (ss.map one).map V.str, hs, szt (by rw [List.length_map, List.length_map]; omega), kp.mut hD, ss ++ [c], ?_, by rw [List.length_append, hn]; rfl, fun y hy => ?_⟩
      · rw [upd_same, List.map_append, List.map_append]
        rfl
      · rcases List.mem_append.mp hy with hy | hy
        · exact h1 y hy
        · rw [List.mem_singleton.mp hy]
          exact hcm
    · rw [List.length_map, List.length_drop] at hn
      have hsum : ((ss.map one).map (·.length)).sum + (ss.map one).length * (Str.ofString "").length ≤ 16777216 := by
        have e2 : (Str.ofString "").length = 0 := by decide +kernel
        rw [sum_ones, e2]
        omega
      refine ⟨_, D, ss.map one, rfl, rfl, .inl (.inl (.inl hs)), hsum, ?_⟩
      have k3 := (k1.trans k_H2).trans kp
      have hp1 : H' p1 = some (.lst (nums.map V.int)) := kp.same _ _ rfl (k_H2.same _ _ rfl q1)
      have hj := join_ones ss
      generalize hJ : Txt.join _ (ss.map one) = J
      have hj : J.cps.toList = ss := by rw [← hJ]; exact hj
      clear hJ
      have z0 : 0 ≤ nums[0] % 12 := Int.emod_nonneg _ (by decide)
      have z1 : nums[0] % 12 < 12 := Int.emod_lt_of_pos _ (by decide)
      refine ⟨_, rfl, p1, _, _, _, rfl, rfl, .inl (.inl hp1), at_int (j := 0) h0, _, _, rfl, rfl, (by show (0 : Int) < 12; decide), _, _, rfl, rfl, ?_⟩
      refine ⟨_, rfl, p1, _, _, _, rfl, rfl, .inl (.inl hp1), at_int (j := 0) h0, _, _, rfl, rfl, ⟨by decide, by decide⟩, _, _, rfl, rfl, (by show (0 : Int) < 5; decide), rfl, _, rfl, iteD (fun c1 => ?_) (fun c1 => ?_)⟩
      · refine ⟨szl (by show 7 ≤ 100000; decide), fun p3 n3 => ?_⟩
        generalize h_H3 : upd H' p3 _ = H3
        have k_H3 : Kp H' H3 := by rw [← h_H3]; exact .new n3
        have q_H3 := (congrFun h_H3 p3).symm.trans upd_same
        clear h_H3
        obtain ⟨t, ht, hat⟩ := at_7 nums[1]
        refine ⟨_, rfl, p1, _, _, _, rfl, rfl, .inl (.inl (k_H3.same _ _ rfl hp1)), at_int (j := 1) h1', _, _, rfl, rfl, (by show (0 : Int) < 7; decide), p3, _, _, _, rfl, rfl, .inl (.inl q_H3), hat, k t H3 (isW_7 t ht) (k3.trans k_H3)⟩
      · refine ⟨_, rfl, _, rfl, _, rfl, J, rfl, ?_, ?_⟩
        · have e : J.length = J.cps.toList.length := by simp [Str.length]
          exact szl (by rw [e, hj]; omega)
        · exact k _ _ (isW_cut (by rw [hj]; omega) (by rw [hj]; exact h1) (by omega) (by omega)) k3
/-! ### _law_book: a phrasebook and its words -/
/-! ### the law's own words -/
def sp_l_is_word : Sp := fun vs H Q _ => ∃ t : Str, vs = [.str t] ∧ t.length ≤ 1000 ∧ ∀ H', Kp H H' → Q (.bl (isW t)) H'
theorem none_out (f : Nat → Bool) (l : List Nat) : decide ((l.filter fun c => !f c).length = 0) = l.all f := by
  induction l with
  | nil => rfl
  | cons c r ih =>
    cases h : f c with
    | true =>
      rw [List.filter_cons, h, List.all_cons, h]
      exact ih
    | false =>
      rw [List.filter_cons, h, List.all_cons, h]
      rfl
theorem out_succ (f : Nat → Bool) {l : List Nat} {i c : Nat} (h : l[i]? = some c) : (l.take (i + 1)).filter (fun c => !f c) = (l.take i).filter (fun c => !f c) ++ (if f c = true then [] else [c]) := by
  rw [List.take_succ, h, List.filter_append]
  congr 1
  cases e : f c with
  | true =>
    show [c].filter _ = _
    rw [List.filter_cons, e]
    rfl
  | false =>
    show [c].filter _ = _
    rw [List.filter_cons, e]
    rfl
def odd (l : List Nat) : List Nat := l.filter fun c => !decide (c ∈ abcW.cps.toList)
theorem odd_all (l : List Nat) : decide ((odd l).length = 0) = l.all fun c => decide (c ∈ abcW.cps.toList) := none_out (fun c => decide (c ∈ abcW.cps.toList)) l
theorem odd_succ {l : List Nat} {i c : Nat} (h : l[i]? = some c) : odd (l.take (i + 1)) = odd (l.take i) ++ (if c ∈ abcW.cps.toList then [] else [c]) := by
  have z := out_succ (fun c => decide (c ∈ abcW.cps.toList)) h
  unfold odd
  rw [z]
  by_cases e : c ∈ abcW.cps.toList
  · rw [if_pos e, if_pos (decide_eq_true e)]
  · rw [if_neg e, if_neg (by rw [decide_eq_false e]; decide)]
theorem ok_l_is_word (T : Txt K mg) : FnOk P w K mg base CX0 1 T.f_l_is_word T.d_l_is_word ["_law_text"] sp_l_is_word := by
  refine T.F_l_is_word.ok sc_l_is_word (fun vs H Q E h => ?_) (fun cdv A outer s H vs Q E hr h => ?_)
  · obtain ⟨t, rfl, _⟩ := h
    rfl
  · obtain ⟨t, rfl, hl, k⟩ := h
    refine ⟨_, (pss_cons (ps_if (PW.pt (pw_or (pt_cmpR op_lt (pe_callB call_len_str (by rfl) T.m_len PySem.boot_len (pa_cons (pv 0) pa_nil)) pe_int (nomark _)) (pw_or1 (pt_cmpR op_gt (pe_callB call_len_str (by rfl) T.m_len PySem.boot_len (pa_cons (pv 0) pa_nil)) pe_int (nomark _)))))
      (pss_one (ps_ret pe_bl))
      pss_nil)
      (pss_one (ps_ret (pe_cmpR op_eq (pe_callB call_len_seq (by rfl) T.m_len PySem.boot_len (pa_cons (pe_lc (own := [("_law_sign", 1)]) (g := gName 1) (by rfl) sc_l_is_word.nd (pi_str (pv 0)) (blkOk_by (own := [("_law_sign", 1)]) (N := ["_law_text", "_law_sign"]) (sc := defScope s_l_is_word) (by decide +kernel)) (fun _ _ _ _ _ => (pg_name (i := 1) sc_l_is_word.nd rfl (by first | exact Or.inl rfl | exact Or.inr rfl))) (fun _ _ _ _ _ => (pts_one (pt_cmpR op_notIn_sign (pv 1) pe_str rfl))) (fun _ _ _ _ _ => (pv 1))) pa_nil)) pe_int (nomark _))))), ?_⟩
    have hz : t.length ≤ sizeLine := szl (by omega)
    refine ⟨_, rfl, t, rfl, hz, _, _, rfl, rfl, _, rfl, iteD (fun c => ?_) (fun c => ?_)⟩
    · have e : isW t = false := by
        unfold isW
        rw [decide_eq_false (show ¬ 1 ≤ (t.length : Int) by omega)]
        rfl
      rw [e] at k
      exact iteT (k _ (.refl _))
    refine ⟨_, rfl, t, rfl, hz, _, _, rfl, rfl, _, rfl, iteD (fun c2 => ?_) (fun c2 => ?_)⟩
    · have e : isW t = false := by
        unfold isW
        rw [decide_eq_false (show ¬ (t.length : Int) ≤ 12 by omega), Bool.false_and, Bool.and_false]
      rw [e] at k
      exact k _ (.refl _)
    have e : isW t = decide ((odd t.cps.toList).length = 0) := by
      unfold isW
      rw [decide_eq_true (show 1 ≤ (t.length : Int) by omega), decide_eq_true (show (t.length : Int) ≤ 12 by omega), odd_all]
      rfl
    rw [e] at k
    refine ⟨_, rfl, t, rfl, fun D hD => ?_⟩
    have esz : t.cps.size = t.cps.toList.length := by simp
    refine lc_it (walk_str (z := t)) (fun i H' => Kp H H' ∧ ∃ ws : List V, H' D = some (.lst ws) ∧ ws.length = (odd (t.cps.toList.take i)).length) ⟨Kp.new hD, [], upd_same, rfl⟩ (fun _ _ _ _ => trivial) (fun i x H' H'' hi ⟨kp, ws, hl2, hn⟩ ⟨e1, c1, hc, hx⟩ => ?_) (fun H' ⟨kp, ws, hl2, hn⟩ => ?_)
    · subst e1
      subst hx
      have hc2 : t.cps.toList[i]? = some c1 := by rw [Array.getElem?_toList]; exact hc
      have hlen : ws.length ≤ 1000 := by
        rw [hn]
        unfold odd
        refine Nat.le_trans (List.length_filter_le _ _) ?_
        rw [List.length_take]
        have : t.length = t.cps.toList.length := by simp [Str.length]
        omega
      refine ⟨rfl, ?_⟩
      refine ⟨_, rfl, c1, abcW, rfl, rfl, _, rfl, iteN (fun c3 => ?_) (fun c3 => ?_)⟩
      · refine ⟨_, rfl, ws, hl2, szt (by omega), kp.mut hD, _, upd_same, ?_⟩
        rw [odd_succ hc2, if_neg c3, List.length_append, List.length_append, hn]
        rfl
      · refine ⟨kp, ws, hl2, ?_⟩
        rw [odd_succ hc2, if_pos c3, List.append_nil, hn]
    · rw [esz, List.take_length] at hn
      refine ⟨D, ws, rfl, .inl (SqL.of hl2), rfl, ?_⟩
      have z := k H' kp
      have e3 : decide (V.int (ws.length : Int) = V.int 0) = decide ((odd t.cps.toList).length = 0) := by
        rw [dec_int, ← hn]
        by_cases q : ws.length = 0
        · rw [q]
          rfl
        · rw [decide_eq_false q]
          exact beq_eq_false_iff_ne.mpr (by omega)
      rw [e3]
      exact z
/-! ### the kinds of refusals -/
def kindA (T : Txt K mg) : Nat → Addr
  | 0 => T.a_BadPlace
  | 1 => T.a_BadWord
  | 2 => T.a_Taken
  | 3 => T.a_Known
  | 4 => T.a_NoWord
  | _ => 0
def kindN : Nat → Str
  | 0 => "BadPlace"
  | 1 => "BadWord"
  | 2 => "Taken"
  | 3 => "Known"
  | 4 => "NoWord"
  | _ => ""
theorem kind_exc (T : Txt K mg) : ∀ i, i < 5 → ExcC K (kindA T i)
  | 0, _ => ⟨T.ga_BadPlace, T.gg_BadPlace, T.b_BadPlace, T.h_BadPlace, T.cl_BadPlace, T.oc_get, T.oc_tak, T.mo_BadPlace⟩
  | 1, _ => ⟨T.ga_BadWord, T.gg_BadWord, T.b_BadWord, T.h_BadWord, T.cl_BadWord, T.oc_get, T.oc_tak, T.mo_BadWord⟩
  | 2, _ => ⟨T.ga_Taken, T.gg_Taken, T.b_Taken, T.h_Taken, T.cl_Taken, T.oc_get, T.oc_tak, T.mo_Taken⟩
  | 3, _ => ⟨T.ga_Known, T.gg_Known, T.b_Known, T.h_Known, T.cl_Known, T.oc_get, T.oc_tak, T.mo_Known⟩
  | 4, _ => ⟨T.ga_NoWord, T.gg_NoWord, T.b_NoWord, T.h_NoWord, T.cl_NoWord, T.oc_get, T.oc_tak, T.mo_NoWord⟩
  | _ + 5, h => absurd h (by omega)
theorem kind_kit (T : Txt K mg) : ∀ i j, i < 5 → j < 5 → PySem.W.kitOne K (.ref (kindA T i)) (.ref (kindA T j)) = some (decide (i = j))
  | 0, 0, _, _ => kit_sub T.i_BadPlace T.t_BadPlace T.s_BadPlace_BadPlace
  | 0, 1, _, _ => kit_not T.i_BadWord T.t_BadWord T.s_BadPlace_BadWord T.s_BadPlace_BadPlace
  | 0, 2, _, _ => kit_not T.i_Taken T.t_Taken T.s_BadPlace_Taken T.s_BadPlace_BadPlace
  | 0, 3, _, _ => kit_not T.i_Known T.t_Known T.s_BadPlace_Known T.s_BadPlace_BadPlace
  | 0, 4, _, _ => kit_not T.i_NoWord T.t_NoWord T.s_BadPlace_NoWord T.s_BadPlace_BadPlace
  | 1, 0, _, _ => kit_not T.i_BadPlace T.t_BadPlace T.s_BadWord_BadPlace T.s_BadWord_BadWord
  | 1, 1, _, _ => kit_sub T.i_BadWord T.t_BadWord T.s_BadWord_BadWord
  | 1, 2, _, _ => kit_not T.i_Taken T.t_Taken T.s_BadWord_Taken T.s_BadWord_BadWord
  | 1, 3, _, _ => kit_not T.i_Known T.t_Known T.s_BadWord_Known T.s_BadWord_BadWord
  | 1, 4, _, _ => kit_not T.i_NoWord T.t_NoWord T.s_BadWord_NoWord T.s_BadWord_BadWord
  | 2, 0, _, _ => kit_not T.i_BadPlace T.t_BadPlace T.s_Taken_BadPlace T.s_Taken_Taken
  | 2, 1, _, _ => kit_not T.i_BadWord T.t_BadWord T.s_Taken_BadWord T.s_Taken_Taken
  | 2, 2, _, _ => kit_sub T.i_Taken T.t_Taken T.s_Taken_Taken
  | 2, 3, _, _ => kit_not T.i_Known T.t_Known T.s_Taken_Known T.s_Taken_Taken
  | 2, 4, _, _ => kit_not T.i_NoWord T.t_NoWord T.s_Taken_NoWord T.s_Taken_Taken
  | 3, 0, _, _ => kit_not T.i_BadPlace T.t_BadPlace T.s_Known_BadPlace T.s_Known_Known
  | 3, 1, _, _ => kit_not T.i_BadWord T.t_BadWord T.s_Known_BadWord T.s_Known_Known
  | 3, 2, _, _ => kit_not T.i_Taken T.t_Taken T.s_Known_Taken T.s_Known_Known
  | 3, 3, _, _ => kit_sub T.i_Known T.t_Known T.s_Known_Known
  | 3, 4, _, _ => kit_not T.i_NoWord T.t_NoWord T.s_Known_NoWord T.s_Known_Known
  | 4, 0, _, _ => kit_not T.i_BadPlace T.t_BadPlace T.s_NoWord_BadPlace T.s_NoWord_NoWord
  | 4, 1, _, _ => kit_not T.i_BadWord T.t_BadWord T.s_NoWord_BadWord T.s_NoWord_NoWord
  | 4, 2, _, _ => kit_not T.i_Taken T.t_Taken T.s_NoWord_Taken T.s_NoWord_NoWord
  | 4, 3, _, _ => kit_not T.i_Known T.t_Known T.s_NoWord_Known T.s_NoWord_NoWord
  | 4, 4, _, _ => kit_sub T.i_NoWord T.t_NoWord T.s_NoWord_NoWord
  | _ + 5, _, h, _ => absurd h (by omega)
  | 0, _ + 5, _, h => absurd h (by omega)
  | 1, _ + 5, _, h => absurd h (by omega)
  | 2, _ + 5, _, h => absurd h (by omega)
  | 3, _ + 5, _, h => absurd h (by omega)
  | 4, _ + 5, _, h => absurd h (by omega)
theorem kind_mast (T : Txt K mg) : ∀ i, i < 5 → PySem.W.exmOne K (.ref (kindA T i)) (.ref T.a_MastError) = some true
  | 0, _ => PySem.W.exm_ref T.b_MastError T.h_MastError T.t_MastError T.s_BadPlace_MastError
  | 1, _ => PySem.W.exm_ref T.b_MastError T.h_MastError T.t_MastError T.s_BadWord_MastError
  | 2, _ => PySem.W.exm_ref T.b_MastError T.h_MastError T.t_MastError T.s_Taken_MastError
  | 3, _ => PySem.W.exm_ref T.b_MastError T.h_MastError T.t_MastError T.s_Known_MastError
  | 4, _ => PySem.W.exm_ref T.b_MastError T.h_MastError T.t_MastError T.s_NoWord_MastError
  | _ + 5, h => absurd h (by omega)
def sp_l_kind (T : Txt K mg) : SpE := fun a c d vs H Q _ => ∃ i : Nat, vs = [.ref a] ∧ i < 5 ∧ c = .ref (kindA T i) ∧ d = none ∧ ∀ H', Kp H H' → Q (.str (kindN i)) H'
theorem ok_l_kind (T : Txt K mg) : FnE P w K mg base 1 T.f_l_kind T.d_l_kind ["_law_e"] (sp_l_kind T) := by
  refine Fun.okE T.F_l_kind sc_l_kind (fun a c d vs H Q E h => ?_) (fun cdv A outer s H vs Q E a oe c d hz hf hr h => ?_)
  · obtain ⟨i, rfl, _⟩ := h
    rfl
  · obtain ⟨i, rfl, hi, rfl, rfl, k⟩ := h
    refine ⟨_, (pss_cons (ps_set (i := 1) sc_l_kind.nd rfl (by first | exact Or.inl rfl | exact Or.inr rfl) (pe_lst (pa_cons (pe_callB (call_isP K rfl List.mem_cons_self hz hf) (by rfl) T.m_isinstance (by decide +kernel) (pa_cons (pv 0) (pa_cons (pe_glob (v := .ref T.a_BadPlace) rfl T.g_BadPlace rfl) pa_nil))) (pa_cons (pe_callB (call_isP K rfl List.mem_cons_self hz hf) (by rfl) T.m_isinstance (by decide +kernel) (pa_cons (pv 0) (pa_cons (pe_glob (v := .ref T.a_BadWord) rfl T.g_BadWord rfl) pa_nil))) (pa_cons (pe_callB (call_isP K rfl List.mem_cons_self hz hf) (by rfl) T.m_isinstance (by decide +kernel) (pa_cons (pv 0) (pa_cons (pe_glob (v := .ref T.a_Taken) rfl T.g_Taken rfl) pa_nil))) (pa_cons (pe_callB (call_isP K rfl List.mem_cons_self hz hf) (by rfl) T.m_isinstance (by decide +kernel) (pa_cons (pv 0) (pa_cons (pe_glob (v := .ref T.a_Known) rfl T.g_Known rfl) pa_nil))) pa_nil))))))
      (pss_cons (ps_set (i := 1) sc_l_kind.nd rfl (by first | exact Or.inl rfl | exact Or.inr rfl) (pe_op op_cat (pv 1) (pe_lst (pa_cons (pe_callB (call_isP K rfl List.mem_cons_self hz hf) (by rfl) T.m_isinstance (by decide +kernel) (pa_cons (pv 0) (pa_cons (pe_glob (v := .ref T.a_NoWord) rfl T.g_NoWord rfl) pa_nil))) pa_nil))))
      (pss_cons (ps_if (pt_cmpR op_ne (pe_bm PySem.F.plainAttrs_list PySem.F.slot_list_count PySem.F.type_list_count mt_fcount (pv 1) (pa_cons pe_bl pa_nil)) pe_int (nomark _))
      (pss_one (ps_ret pe_str))
      pss_nil)
      (pss_one (ps_ret (pe_ix ix_list (pe_lst (pa_cons pe_str (pa_cons pe_str (pa_cons pe_str (pa_cons pe_str (pa_cons pe_str pa_nil)))))) (pe_bm PySem.F.plainAttrs_list PySem.F.slot_list_index PySem.F.type_list_index mt_index (pv 1) (pa_cons pe_bl pa_nil)) (fun _ _ => rfl))))))), ?_⟩
    have xc := kind_exc T i hi
    have kt := fun j hj => kind_kit T i j hi hj
    refine ⟨_, rfl, _, _, _, _, rfl, .inl rfl, xc, rfl, .own _, kt 0 (by decide), _, rfl, _, _, _, _, rfl, .inl rfl, xc, rfl, .own _, kt 1 (by decide), _, rfl, _, _, _, _, rfl, .inl rfl, xc, rfl, .own _, kt 2 (by decide), _, rfl, _, _, _, _, rfl, .inl rfl, xc, rfl, .own _, kt 3 (by decide), szl (by show 4 ≤ 100000; decide), fun p np => ?_⟩
    generalize h_H1 : upd H p _ = H1
    have k_H1 : Kp H H1 := by rw [← h_H1]; exact .new np
    have q_H1 := (congrFun h_H1 p).symm.trans upd_same
    clear h_H1
    refine ⟨_, rfl, _, rfl, _, _, _, _, rfl, .inl rfl, xc, rfl, .own _, kt 4 (by decide), szl (by show 1 ≤ 100000; decide), fun p2 np2 => ?_⟩
    generalize h_H2 : upd H1 p2 _ = H2
    have k_H2 : Kp H1 H2 := by rw [← h_H2]; exact .new np2
    have q_H2 := (congrFun h_H2 p2).symm.trans upd_same
    clear h_H2
    have q1 := k_H2.same _ _ rfl q_H1
    refine ⟨p, p2, _, _, rfl, rfl, q1, q_H2, szl (by show 5 ≤ 100000; decide), fun p3 np3 => ?_⟩
    generalize h_H3 : upd H2 p3 _ = H3
    have k_H3 : Kp H2 H3 := by rw [← h_H3]; exact .new np3
    have q_H3 := (congrFun h_H3 p3).symm.trans upd_same
    clear h_H3
    have kp := (k_H1.trans k_H2).trans k_H3
    have pick : ∀ P : Nat → Prop, P 0 → P 1 → P 2 → P 3 → P 4 → P i := fun P h0 h1 h2 h3 h4 => match i, hi with
      | 0, _ => h0
      | 1, _ => h1
      | 2, _ => h2
      | 3, _ => h3
      | 4, _ => h4
      | _ + 5, h => absurd h (by omega)
    refine ⟨_, rfl, .inl ⟨rfl, _, .inl (.inl q_H3)⟩, p3, _, _, rfl, rfl, .inl (.inl q_H3), rfl, rfl, rfl, _, rfl, iteFo (pick (fun i => (!decide (V.int ↑(List.countP (fun z => eqV z (V.bl true)) ([V.bl (decide (i = 0)), V.bl (decide (i = 1)), V.bl (decide (i = 2)), V.bl (decide (i = 3))] ++ [V.bl (decide (i = 4))])) = V.int 1)) = false) rfl rfl rfl rfl rfl) ?_⟩
    refine ⟨szl (by show 5 ≤ 100000; decide), fun p4 np4 => ?_⟩
    generalize h_H4 : upd H3 p4 _ = H4
    have k_H4 : Kp H3 H4 := by rw [← h_H4]; exact .new np4
    have q_H4 := (congrFun h_H4 p4).symm.trans upd_same
    clear h_H4
    have q3 := k_H4.same _ _ rfl q_H3
    refine ⟨_, rfl, .inl ⟨rfl, _, .inl (.inl q3)⟩, p3, _, _, i, .bl true, rfl, rfl, .inl (.inl q3), rfl, rfl, ?_, rfl, ?_, p4, _, _, .str (kindN i), rfl, rfl, .inl (.inl q_H4), ?_, k _ (kp.trans k_H4)⟩
    · exact pick (fun i => ([V.bl (decide (i = 0)), V.bl (decide (i = 1)), V.bl (decide (i = 2)), V.bl (decide (i = 3))] ++ [V.bl (decide (i = 4))])[i]? = some (.bl true)) rfl rfl rfl rfl rfl
    · intro m z' hm hz'
      have hm5 : m < 5 := by omega
      have e : ([V.bl (decide (i = 0)), V.bl (decide (i = 1)), V.bl (decide (i = 2)), V.bl (decide (i = 3))] ++ [V.bl (decide (i = 4))])[m]? = some (V.bl (decide (i = m))) := match m, hm5 with
        | 0, _ => rfl
        | 1, _ => rfl
        | 2, _ => rfl
        | 3, _ => rfl
        | 4, _ => rfl
        | _ + 5, h => absurd h (by omega)
      have e2 := Option.some.inj (e.symm.trans hz')
      rw [← e2, decide_eq_false (by omega)]
      rfl
    · exact pick (fun i => atI [V.str "BadPlace", V.str "BadWord", V.str "Taken", V.str "Known", V.str "NoWord"] ((i : Nat) : Int) = some (.str (kindN i))) rfl rfl rfl rfl rfl
/-! ### the law's own map of words -/
/-- the law's own map of words: texts to pairs -/
structure DictAt (H : Hp) (d : Addr) (es : List Ent) : Prop where
  wd : H d = some (.dK (kvW es))
  tu : ∀ e ∈ es, H e.2 = some (.tup [.int e.1.2.1, .int e.1.2.2])
theorem DictAt.kp {H H' : Hp} {d : Addr} {es : List Ent} (x : DictAt H d es) (k : Kp H H') : DictAt H' d es := ⟨k.same _ _ rfl x.wd, fun e he => k.same _ _ rfl (x.tu e he)⟩
def OwnW (es : List Ent) : Prop := ∀ e ∈ es, atW es e.1.1 = some e
theorem OwnW.snoc {es : List Ent} {b : Ent} (g : OwnW es) (h : atW es b.1.1 = none) : OwnW (es ++ [b]) := by
  intro e he
  have z : atW (es ++ [b]) e.1.1 = (atW es e.1.1).or (atW [b] e.1.1) := by
    unfold atW
    rw [List.find?_append]
  rw [z]
  rcases List.mem_append.mp he with he | he
  · rw [g e he]
    rfl
  · rw [List.mem_singleton.mp he, h]
    unfold atW
    simp
theorem find_any {α : Type} (f : α → Bool) (l : List α) : (l.find? f).isSome = l.any f := by
  rw [Bool.eq_iff_iff, List.find?_isSome, List.any_eq_true]
theorem atP_same {bs es : List Ent} (h : es.map (·.1) = bs.map (·.1)) (a l : Int) : (atP es a l).isSome = (atP bs a l).isSome := by
  have q : ∀ xs : List Ent, (atP xs a l).isSome = (xs.map (·.1)).any fun b => decide (b.2.1 = a ∧ b.2.2 = l) := fun xs => by
    unfold atP
    rw [find_any, List.any_map]
    rfl
  rw [q, q, h]
theorem atW_same {bs es : List Ent} (h : es.map (·.1) = bs.map (·.1)) (t : Str) : (atW es t).isSome = (atW bs t).isSome := by
  have q : ∀ xs : List Ent, (atW xs t).isSome = (xs.map (·.1)).any fun b => decide (b.1 = t) := fun xs => by
    unfold atW
    rw [find_any, List.any_map]
    rfl
  rw [q, q, h]
theorem BookAt.put {C : Addr} {H : Hp} {p d1 d2 d : Addr} {bs : List Ent} {o : HO} {kvs : List (Key × V)} (b : BookAt C H p d1 d2 bs) (hd : H d = some (.dK kvs)) (ne : d2 ≠ d) : BookAt C (upd H d o) p d1 d2 bs := by
  obtain ⟨dx, h⟩ := b.ob
  refine ⟨⟨dx, ?_⟩, ?_, ?_, fun e he => ?_⟩
  · rw [upd_ne (ne_of h hd (by intro z; cases z))]
    exact h
  · rw [upd_ne (ne_of b.pl hd (by intro z; cases z))]
    exact b.pl
  · rw [upd_ne ne]
    exact b.wd
  · have q := b.tu e he
    rw [upd_ne (ne_of q hd (by intro z; cases z))]
    exact q
theorem DictAt.kpE {H H' : Hp} {d d1 d2 : Addr} {es : List Ent} {kvs : List (List Key × V)} {kws : List (Key × V)} (x : DictAt H d es) (h1 : H d1 = some (.dT kvs)) (h2 : H d2 = some (.dK kws)) (ne : d2 ≠ d) (k : KpE [d1, d2] H H') : DictAt H' d es := by
  refine ⟨k.same _ _ rfl ?_ x.wd, fun e he => k.same _ _ rfl ?_ (x.tu e he)⟩
  · intro m
    rcases List.mem_cons.mp m with m | m
    · have z := x.wd
      rw [m, h1] at z
      cases z
    · exact ne (List.mem_singleton.mp m).symm
  · intro m
    have q := x.tu e he
    rcases List.mem_cons.mp m with m | m
    · rw [m, h1] at q
      cases q
    · rw [List.mem_singleton.mp m, h2] at q
      cases q
theorem kvW_at {es : List Ent} {i : Nat} {k : Key} {v : V} (h : (kvW es)[i]? = some (k, v)) : ∃ e, es[i]? = some e ∧ k = Sum.inr e.1.1 ∧ v = V.ref e.2 := by
  unfold kvW at h
  rw [List.getElem?_map] at h
  cases e : es[i]? with
  | none =>
    rw [e] at h
    cases h
  | some b =>
    rw [e] at h
    have z := Option.some.inj h
    rw [Prod.mk.injEq] at z
    exact ⟨b, rfl, z.1.symm, z.2.symm⟩
/-! ### deeds -/
abbrev Tri := Str × Int × Int
def hereT (a l : Int) (x : Tri) : Bool := decide (x.2.1 = a ∧ x.2.2 = l)
def hereF (a l : Int) (e : Ent) : Bool := decide (e.1.2.1 = a ∧ e.1.2.2 = l)
def plT (ts : List Tri) (a l : Int) : Option Tri := ts.find? (hereT a l)
def wdT (ts : List Tri) (t : Str) : Option Tri := ts.find? fun x => decide (x.1 = t)
theorem atP_T (bs : List Ent) (a l : Int) : (atP bs a l).map (·.1) = plT (bs.map (·.1)) a l := by
  unfold atP plT
  rw [List.find?_map]
  rfl
theorem atW_T (bs : List Ent) (t : Str) : (atW bs t).map (·.1) = wdT (bs.map (·.1)) t := by
  unfold atW wdT
  rw [List.find?_map]
  rfl
theorem atP_some (bs : List Ent) (a l : Int) : (atP bs a l).isSome = (plT (bs.map (·.1)) a l).isSome := by rw [← atP_T, Option.isSome_map]
theorem atW_some (bs : List Ent) (t : Str) : (atW bs t).isSome = (wdT (bs.map (·.1)) t).isSome := by rw [← atW_T, Option.isSome_map]
structure GoodT (ts : List Tri) : Prop where
  ok : ∀ x ∈ ts, isW x.1 = true ∧ okP x.2.1 x.2.2 = true
  pl : (ts.map (·.2)).Nodup
  wd : (ts.map (·.1)).Nodup
theorem inj_nodup {α β : Type} {f : α → β} : ∀ {l : List α}, (l.map f).Nodup → ∀ x ∈ l, ∀ y ∈ l, f x = f y → x = y
  | [], _, x, hx, _, _, _ => nomatch hx
  | z :: r, h, x, hx, y, hy, e => by
    rw [List.map_cons, List.nodup_cons] at h
    rcases List.mem_cons.mp hx with rfl | hx
    · rcases List.mem_cons.mp hy with rfl | hy
      · rfl
      · exact absurd (List.mem_map.mpr ⟨y, hy, e.symm⟩) h.1
    · rcases List.mem_cons.mp hy with ey | hy
      · exact absurd (List.mem_map.mpr ⟨x, hx, by rw [← ey]; exact e⟩) h.1
      · exact inj_nodup h.2 x hx y hy e
theorem plT_mem {ts : List Tri} {a l : Int} {x : Tri} (h : plT ts a l = some x) : x ∈ ts ∧ x.2.1 = a ∧ x.2.2 = l :=
  ⟨List.mem_of_find?_eq_some h, by
    have z : hereT a l x = true := List.find?_some h
    exact of_decide_eq_true z⟩
theorem plT_none {ts : List Tri} {a l : Int} (h : (plT ts a l).isSome = false) : ∀ x ∈ ts, ¬ (x.2.1 = a ∧ x.2.2 = l) := fun x hx c => by
  have z : (plT ts a l).isSome = true := List.find?_isSome.mpr ⟨x, hx, decide_eq_true c⟩
  rw [z] at h
  cases h
theorem wdT_none {ts : List Tri} {t : Str} (h : (wdT ts t).isSome = false) : ∀ x ∈ ts, ¬ x.1 = t := fun x hx c => by
  have z : (wdT ts t).isSome = true := List.find?_isSome.mpr ⟨x, hx, decide_eq_true c⟩
  rw [z] at h
  cases h
/-- why a deed is refused: a kind's number -/
def deedV (ts : List Tri) (st : Bool) (a l : Int) (t : Str) : Option Nat :=
  if okP a l = false then some 0 else if st = true then (if (plT ts a l).isSome = true then none else some 4) else if isW t = false then some 1 else if (plT ts a l).isSome = true then some 2 else if (wdT ts t).isSome = true then some 3 else none
def deedT (ts : List Tri) (st : Bool) (a l : Int) (t : Str) : List Tri := if st = true then ts.filter (fun x => !hereT a l x) else ts ++ [(t, a, l)]
def nmOf (st : Bool) : Str := if st = true then "strike" else "enter"
theorem GoodT.step {ts : List Tri} {st : Bool} {a l : Int} {t : Str} (g : GoodT ts) (h : deedV ts st a l t = none) : GoodT (deedT ts st a l t) := by
  unfold deedV at h
  by_cases c0 : okP a l = false
  · rw [if_pos c0] at h; cases h
  rw [if_neg c0] at h
  cases st with
  | true =>
    show GoodT (ts.filter _)
    exact ⟨fun x hx => g.ok x (List.mem_filter.mp hx).1, g.pl.sublist (List.Sublist.map _ List.filter_sublist), g.wd.sublist (List.Sublist.map _ List.filter_sublist)⟩
  | false =>
    rw [if_neg (by decide)] at h
    by_cases c1 : isW t = false
    · rw [if_pos c1] at h; cases h
    rw [if_neg c1] at h
    by_cases c2 : (plT ts a l).isSome = true
    · rw [if_pos c2] at h; cases h
    rw [if_neg c2] at h
    by_cases c3 : (wdT ts t).isSome = true
    · rw [if_pos c3] at h; cases h
    have d2 := plT_none (Bool.eq_false_iff.mpr c2)
    have d3 := wdT_none (Bool.eq_false_iff.mpr c3)
    show GoodT (ts ++ [(t, a, l)])
    refine ⟨fun x hx => ?_, ?_, ?_⟩
    · rcases List.mem_append.mp hx with hx | hx
      · exact g.ok x hx
      · rw [List.mem_singleton.mp hx]
        exact ⟨by simpa using c1, by simpa using c0⟩
    · rw [List.map_append, List.nodup_append]
      refine ⟨g.pl, by simp, fun x hx y hy e => ?_⟩
      obtain ⟨z, hz, rfl⟩ := List.mem_map.mp hx
      have hy2 : y = (a, l) := by simpa using hy
      subst hy2
      exact d2 z hz ⟨congrArg (·.1) e, congrArg (·.2) e⟩
    · rw [List.map_append, List.nodup_append]
      refine ⟨g.wd, by simp, fun x hx y hy e => ?_⟩
      obtain ⟨z, hz, rfl⟩ := List.mem_map.mp hx
      have hy2 : y = t := by simpa using hy
      subst hy2
      exact d3 z hz e
theorem filt_T (es : List Ent) (a l : Int) : (es.filter fun e => !hereF a l e).map (·.1) = (es.map (·.1)).filter fun x => !hereT a l x := by
  rw [List.filter_map]
  rfl
theorem here_one {ts : List Tri} {a l : Int} {x : Tri} (g : GoodT ts) (hx : plT ts a l = some x) {y : Tri} (hy : y ∈ ts) : (y.1 = x.1 ↔ (y.2.1 = a ∧ y.2.2 = l)) := by
  obtain ⟨h1, h2, h3⟩ := plT_mem hx
  constructor
  · intro e
    rw [inj_nodup g.wd y hy x h1 e]
    exact ⟨h2, h3⟩
  · intro e
    rw [inj_nodup g.pl y hy x h1 (Prod.ext (e.1.trans h2.symm) (e.2.trans h3.symm))]
theorem drop_W {es : List Ent} {a l : Int} {x : Tri} (g : GoodT (es.map (·.1))) (hx : plT (es.map (·.1)) a l = some x) : dropK (kvW es) (Sum.inr x.1) = kvW (es.filter fun e => !hereF a l e) := by
  unfold dropK kvW
  rw [List.filter_map]
  congr 1
  refine List.filter_congr fun e he => ?_
  have q := here_one g hx (List.mem_map.mpr ⟨e, he, rfl⟩)
  show decide ((Sum.inr e.1.1 : Key) ≠ Sum.inr x.1) = !hereF a l e
  unfold hereF
  by_cases c : e.1.1 = x.1
  · rw [decide_eq_true (q.mp c), c]
    simp
  · rw [decide_eq_false (fun z => c (q.mpr z)), decide_eq_true (show (Sum.inr e.1.1 : Key) ≠ Sum.inr x.1 from fun z => c (by injection z))]
    rfl
theorem drop_P (bs : List Ent) (a l : Int) : dropK (kvP bs) [Sum.inl a, Sum.inl l] = kvP (bs.filter fun e => !hereF a l e) := by
  unfold dropK kvP
  rw [List.filter_map]
  congr 1
  refine List.filter_congr fun e he => ?_
  show decide (([Sum.inl e.1.2.1, Sum.inl e.1.2.2] : List Key) ≠ [Sum.inl a, Sum.inl l]) = !hereF a l e
  unfold hereF
  by_cases c : e.1.2.1 = a ∧ e.1.2.2 = l
  · rw [decide_eq_true c, c.1, c.2]
    simp
  · rw [decide_eq_false c, decide_eq_true (show ([Sum.inl e.1.2.1, Sum.inl e.1.2.2] : List Key) ≠ [Sum.inl a, Sum.inl l] from fun z => c (by injection z with z1 z2; injection z1 with z1; injection z2 with z2 _; injection z2 with z2; exact ⟨z1, z2⟩))]
    rfl
theorem here_list {es : List Ent} {a l : Int} (g : GoodT (es.map (·.1))) : (es.filter (hereF a l)).map (fun e => V.str e.1.1) = ((plT (es.map (·.1)) a l).map fun x => V.str x.1).toList := by
  have key : ∀ ts : List Tri, (ts.map (·.2)).Nodup → ts.filter (hereT a l) = (plT ts a l).toList := by
    intro ts
    induction ts with
    | nil => intro _; rfl
    | cons x r ih =>
      intro hn
      rw [List.map_cons, List.nodup_cons] at hn
      unfold plT
      by_cases c : hereT a l x = true
      · rw [List.filter_cons_of_pos c, List.find?_cons, c]
        have : r.filter (hereT a l) = [] := by
          rw [List.filter_eq_nil_iff]
          intro y hy cy
          have h1 := of_decide_eq_true c
          have h2 := of_decide_eq_true cy
          exact hn.1 (List.mem_map.mpr ⟨y, hy, Prod.ext (h2.1.trans h1.1.symm) (h2.2.trans h1.2.symm)⟩)
        rw [this]
        rfl
      · rw [List.filter_cons_of_neg c, List.find?_cons, Bool.eq_false_iff.mpr c]
        exact ih hn.2
  have e1 : (es.filter (hereF a l)).map (fun e => V.str e.1.1) = ((es.map (·.1)).filter (hereT a l)).map fun x => V.str x.1 := by
    rw [List.filter_map, List.map_map]
    rfl
  rw [e1, key _ g.pl]
  cases plT (es.map (·.1)) a l <;> rfl
theorem own_es {es : List Ent} (g : GoodT (es.map (·.1))) : OwnW es := by
  intro e he
  cases q : atW es e.1.1 with
  | none =>
    have z : (atW es e.1.1).isSome = true := List.find?_isSome.mpr ⟨e, he, by simp⟩
    rw [q] at z
    cases z
  | some b =>
    have hb := List.mem_of_find?_eq_some q
    have hw : b.1.1 = e.1.1 := by
      have z : decide (b.1.1 = e.1.1) = true := List.find?_some (p := fun b : Ent => decide (b.1.1 = e.1.1)) q
      exact of_decide_eq_true z
    have hn : (es.map fun e => e.1.1).Nodup := by
      have z := g.wd
      rw [List.map_map] at z
      exact z
    rw [inj_nodup hn b hb e he hw]
def sp_l_word_deed : Sp := fun vs H Q _ => ∃ (S W D : Addr) (es : List Ent) (st : Bool) (a l : Int) (t : Str), vs = [.ref S, .ref D] ∧ H S = some (.dK [(Sum.inr "words", .ref W)]) ∧ S ≠ W ∧ DictAt H W es ∧ H D = some (.tup [.str (nmOf st), .int a, .int l, .str t]) ∧ es.length ≤ 1000 ∧ t.length ≤ 1000 ∧ GoodT (es.map (·.1)) ∧
  (∀ i, deedV (es.map (·.1)) st a l t = some i → ∀ r H', H r = none → Kp H H' → H' r = some (.tup [.str "no", .str (kindN i)]) → Q (.ref r) H') ∧
  (deedV (es.map (·.1)) st a l t = none → ∀ r H' es2, H r = none → KpE [W] H H' → DictAt H' W es2 → es2.map (·.1) = deedT (es.map (·.1)) st a l t → es2.length ≤ es.length + 1 → H' r = some (.tup [.str "told", .non]) → Q (.ref r) H')
theorem ok_l_word_deed (T : Txt K mg) : FnOk P w K mg base CX0 2 T.f_l_word_deed T.d_l_word_deed ["_law_state", "_law_deed"] sp_l_word_deed := by
  refine T.F_l_word_deed.ok sc_l_word_deed (fun vs H Q E h => ?_) (fun cdv A outer s H vs Q E hr h => ?_)
  · obtain ⟨S, W, D, es, st, a, l, t, rfl, _⟩ := h
    rfl
  · obtain ⟨S, W, D, es, st, a, l, t, rfl, hS, nSW, hW, hD, hel, htl, g, kN, kY⟩ := h
    have hu := hu_of hr
    refine ⟨_, (pss_cons (ps_if (PW.pt (pw_or (pt_not (pt_cmpR op_le pe_int (pe_callB (cr_minT rfl hr.units) (by rfl) T.m_min (by decide +kernel) (pa_cons (pe_slice sl_tup (pv 1) (po_some pe_int) (po_some pe_int)) pa_nil)) (nomark _))) (pw_or1 (pt_cmpR op_gt (pe_callB (cr_maxT rfl hr.units) (by rfl) T.m_max (by decide +kernel) (pa_cons (pe_slice sl_tup (pv 1) (po_some pe_int) (po_some pe_int)) pa_nil)) pe_int (nomark _)))))
      (pss_one (ps_ret (pe_tup (pa_cons pe_str (pa_cons pe_str pa_nil)))))
      pss_nil)
      (pss_cons (ps_lock (ps_setLc (i := 2) (own := [("_law_word_here", 3)]) (g := gName 3) (by rfl) sc_l_word_deed.nd rfl rfl (sw_true rfl rfl rfl (by decide +kernel)) (pi_keys (pe_dget hu (pv 0) pe_str (fun _ _ => rfl))) (blkOk_by (own := [("_law_word_here", 3)]) (N := ["_law_state", "_law_deed", "_law_there", "_law_word_here"]) (sc := defScope s_l_word_deed) (by decide +kernel)) (fun _ _ _ _ _ => (pg_name (i := 3) sc_l_word_deed.nd rfl (by first | exact Or.inl rfl | exact Or.inr rfl))) (fun _ _ _ _ _ => (pts_one (pt_cmpR (op_eqDK K rfl hr.units) (pe_dget hu (pe_dget hu (pv 0) pe_str (fun _ _ => rfl)) (pv 3) (fun _ _ => rfl)) (pe_tup (pa_cons (pe_ix (ix_tupK K rfl) (pv 1) pe_int (fun _ _ => rfl)) (pa_cons (pe_ix (ix_tupK K rfl) (pv 1) pe_int (fun _ _ => rfl)) pa_nil))) (nomark _)))) (fun _ _ _ _ _ => (pv 3))))
      (pss_cons (ps_if (pt_cmpR op_eq (pe_ix ix_tup (pv 1) pe_int (fun _ _ => rfl)) pe_str (nomark _))
      (pss_cons (ps_if (pt_cmpR op_eq (pe_callB call_len_seq (by rfl) T.m_len PySem.boot_len (pa_cons (pv 2) pa_nil)) pe_int (nomark _))
      (pss_one (ps_ret (pe_tup (pa_cons pe_str (pa_cons pe_str pa_nil)))))
      pss_nil)
      (pss_cons (ps_expr (pe_dpop1 (pe_dget hu (pv 0) pe_str (fun _ _ => rfl)) (pe_ix ix_list (pv 2) pe_int (fun _ _ => rfl)) ⟨rfl, rfl, rfl, rfl⟩))
      (pss_one (ps_ret (pe_tup (pa_cons pe_str (pa_cons pe_non pa_nil)))))))
      pss_nil)
      (pss_cons (ps_if (pt_not (pt_val (pe_call (ok_l_is_word T) (hr.mono (by decide)) rfl T.g_l_is_word T.F_l_is_word.kp T.b_l_is_word .nil pass0 (pa_cons (pe_ix ix_tup (pv 1) pe_int (fun _ _ => rfl)) pa_nil))))
      (pss_one (ps_ret (pe_tup (pa_cons pe_str (pa_cons pe_str pa_nil)))))
      pss_nil)
      (pss_cons (ps_if (pt_cmpR op_gt (pe_callB call_len_seq (by rfl) T.m_len PySem.boot_len (pa_cons (pv 2) pa_nil)) pe_int (nomark _))
      (pss_one (ps_ret (pe_tup (pa_cons pe_str (pa_cons pe_str pa_nil)))))
      pss_nil)
      (pss_cons (ps_if (pt_cmp (pc_din hu (pe_ix ix_tup (pv 1) pe_int (fun _ _ => rfl)) (pe_dget hu (pv 0) pe_str (fun _ _ => rfl))))
      (pss_one (ps_ret (pe_tup (pa_cons pe_str (pa_cons pe_str pa_nil)))))
      pss_nil)
      (pss_cons (ps_dput hu (pe_dget hu (pv 0) pe_str (fun _ _ => rfl)) (pe_ix ix_tup (pv 1) pe_int (fun _ _ => rfl)) (pe_tup (pa_cons (pe_ix ix_tup (pv 1) pe_int (fun _ _ => rfl)) (pa_cons (pe_ix ix_tup (pv 1) pe_int (fun _ _ => rfl)) pa_nil))) rfl)
      (pss_one (ps_ret (pe_tup (pa_cons pe_str (pa_cons pe_non pa_nil)))))))))))), ?_⟩
    have okE : okP a l = (decide (1 ≤ min a l) && decide (max a l ≤ 40)) := by
      unfold okP
      rw [Bool.eq_iff_iff]
      simp only [Bool.and_eq_true, decide_eq_true_eq]
      omega
    have bad : okP a l = false → ∀ r H', H r = none → Kp H H' → H' r = some (.tup [.str "no", .str "BadPlace"]) → Q (.ref r) H' := fun c => kN 0 (by unfold deedV; rw [if_pos c])
    refine ⟨_, rfl, _, rfl, _, rfl, D, _, rfl, .inl (.inl hD), (fun z => nomatch (show (1 : Nat) = 0 from z.1)), fun p1 n1 => ?_⟩
    generalize h_H1 : upd H p1 _ = H1
    have k_H1 : Kp H H1 := by rw [← h_H1]; exact .new n1
    have q_H1 := (congrFun h_H1 p1).symm.trans upd_same
    clear h_H1
    have hD1 := k_H1.same _ _ rfl hD
    refine ⟨p1, a, [l], rfl, .inl (.inl q_H1), _, _, rfl, rfl, _, rfl, ?_⟩
    by_cases c1 : 1 ≤ min a l
    · refine iteFo (by show (!decide (1 ≤ min a l)) = false; rw [decide_eq_true c1]; rfl) ?_
      refine ⟨_, rfl, _, rfl, _, rfl, D, _, rfl, .inl (.inl hD1), (fun z => nomatch (show (1 : Nat) = 0 from z.1)), fun p2 n2 => ?_⟩
      generalize h_H2 : upd H1 p2 _ = H2
      have k_H2 : Kp H1 H2 := by rw [← h_H2]; exact .new n2
      have q_H2 := (congrFun h_H2 p2).symm.trans upd_same
      clear h_H2
      have k2 := k_H1.trans k_H2
      have hD2 := k_H2.same _ _ rfl hD1
      have hW2 := hW.kp k2
      have hS2 := k2.same _ _ rfl hS
      refine ⟨p2, a, [l], rfl, .inl (.inl q_H2), _, _, rfl, rfl, _, rfl, ?_⟩
      by_cases c2 : max a l ≤ 40
      · refine iteFo (by show decide (max a l > 40) = false; exact decide_eq_false (by omega)) ?_
        have hok : okP a l = true := by rw [okE, decide_eq_true c1, decide_eq_true c2]; rfl
        have hO := own_es g
        refine ⟨W, _, hW2.wd, trivial, fun od => ?_⟩
        have hSL : upd H2 W (.frz od (.dK (kvW es))) S = some (.dK [(Sum.inr "words", .ref W)]) := by rw [upd_ne nSW]; exact hS2
        have hDL : upd H2 W (.frz od (.dK (kvW es))) D = some (.tup [.str (nmOf st), .int a, .int l, .str t]) := by rw [upd_ne (ne_of hD2 hW2.wd (by intro z; cases z))]; exact hD2
        refine ⟨_, rfl, S, .ref W, rfl, DGet.k (k := Sum.inr "words") hSL, W, od, rfl, .inl ⟨kvW es, upd_same, fun D3 hD3 => ?_⟩⟩
        refine lc_it (walk_keys (d := W) (o := od) (kvs := kvW es)) (fun i H' => Kp (upd H2 W (.frz od (.dK (kvW es)))) H' ∧ H' D3 = some (.lst (((es.take i).filter (hereF a l)).map fun e => V.str e.1.1))) ⟨Kp.new hD3, upd_same⟩ (fun i H' _ ⟨kk, _⟩ => kk.same _ _ rfl upd_same) (fun i x H7 H8 hi2 ⟨kk, hl7⟩ ⟨e8, ky, v, hkv, hx⟩ => ?_) (fun H7 ⟨kk, hl7⟩ => ?_)
        · subst e8
          subst hx
          obtain ⟨e, he, rfl, rfl⟩ := kvW_at hkv
          have hil : i < es.length := (List.getElem?_eq_some_iff.mp he).1
          have te : H8 e.2 = some (.tup [.int e.1.2.1, .int e.1.2.2]) := by
            have z := hW2.tu e (List.mem_of_getElem? he)
            exact kk.same _ _ rfl (by rw [upd_ne (ne_of z hW2.wd (by intro z; cases z))]; exact z)
          have s8 := kk.same _ _ rfl hSL
          have d8 := kk.same _ _ rfl hDL
          refine ⟨rfl, ?_⟩
          refine ⟨_, rfl, S, .ref W, rfl, DGet.k (k := Sum.inr "words") s8, _, rfl, W, _, rfl, .inl ⟨kvW es, Sum.inr e.1.1, .inr ⟨od, kk.same _ _ rfl upd_same⟩, rfl, (by rw [valW, hO e (List.mem_of_getElem? he)]; rfl)⟩, _, rfl, D, _, _, _, rfl, rfl, .inl (.inl d8), rfl, _, rfl, D, _, _, _, rfl, rfl, .inl (.inl d8), rfl, szl (by show 2 ≤ 100000; decide), fun u nu => ?_⟩
          generalize h_H9 : upd H8 u _ = H9
          have k_H9 : Kp H8 H9 := by rw [← h_H9]; exact .new nu
          have q_H9 := (congrFun h_H9 u).symm.trans upd_same
          clear h_H9
          have hl9 := k_H9.same _ _ rfl hl7
          have tk : (es.take (i + 1)).filter (hereF a l) = (es.take i).filter (hereF a l) ++ [e].filter (hereF a l) := by rw [List.take_add_one, he, List.filter_append]; rfl
          refine ⟨.tuple [.int e.1.2.1, .int e.1.2.2], .tuple [.int a, .int l], .tup (.inl (.inl (k_H9.same _ _ rfl te))) (.cons (.int _) (.cons (.int _) .nil)), .tup (.inl (.inl q_H9)) (.cons (.int _) (.cons (.int _) .nil)), rfl, rfl, _, rfl, ?_⟩
          have ev : PyData.eqv (.tuple [.int e.1.2.1, .int e.1.2.2]) (.tuple [.int a, .int l]) = hereF a l e := by
            show ((e.1.2.1 == a) && ((e.1.2.2 == l) && true)) = decide (e.1.2.1 = a ∧ e.1.2.2 = l)
            rw [Bool.and_true, Bool.eq_iff_iff]
            simp
          rw [ev]
          refine iteB (fun cf => ?_) (fun cf => ?_)
          · refine ⟨_, rfl, _, hl9, szt (by rw [List.length_map]; have z := List.length_filter_le (hereF a l) (es.take i); rw [List.length_take] at z; omega), (kk.trans k_H9).mut hD3, ?_⟩
            rw [upd_same, tk, List.filter_cons_of_pos cf, List.map_append]
            rfl
          · refine ⟨kk.trans k_H9, ?_⟩
            rw [tk, List.filter_cons_of_neg (by rw [cf]; decide)]
            show H9 D3 = some (.lst ((((es.take i).filter _) ++ []).map _))
            rw [List.append_nil]
            exact hl9
        · have ekl : (kvW es).length = es.length := by unfold kvW; rw [List.length_map]
          rw [ekl, List.take_length, here_list g] at hl7
          refine ⟨kk.same _ _ rfl upd_same, ?_⟩
          have ku := Kp.unlock hW2.wd rfl kk
          have nDw : D3 ≠ W := fun z => by
            rw [z, upd_same] at hD3
            cases hD3
          have h9 : upd H7 W (.dK (kvW es)) D3 = some (.lst (((plT (es.map (·.1)) a l).map fun x => V.str x.1).toList)) := by
            rw [upd_ne nDw]
            exact hl7
          generalize upd H7 W (.dK (kvW es)) = H9 at ku h9 ⊢
          have k9 := k2.trans ku
          have hD9 := k9.same _ _ rfl hD
          have hW9 := hW.kp k9
          have hS9 := k9.same _ _ rfl hS
          refine ⟨_, rfl, D, _, _, _, rfl, rfl, .inl (.inl hD9), rfl, rfl, _, rfl, ?_⟩
          have told : ∀ i, deedV (es.map (·.1)) st a l t = some i → ∀ G, Kp H9 G → ∀ r, G r = none → Q (.ref r) (upd G r (.tup [.str "no", .str (kindN i)])) := fun i e G kg r nr =>
            kN i e r _ (k9.free _ (kg.free _ nr)) ((k9.trans kg).trans (.new nr)) upd_same
          unfold deedV at told kY
          rw [if_neg (by rw [hok]; decide)] at told kY
          cases st with
          | true =>
            rw [if_pos rfl] at told kY
            refine iteTo (by decide +kernel) ?_
            refine ⟨_, rfl, D3, _, rfl, .inl (SqL.of h9), rfl, _, rfl, ?_⟩
            cases q : plT (es.map (·.1)) a l with
            | none =>
              rw [q] at told
              refine iteTo rfl ⟨szl (by show 2 ≤ 100000; decide), fun r nr => told 4 rfl _ (.refl _) r nr⟩
            | some x =>
              rw [q] at h9 kY
              obtain ⟨hx, hxa, hxl⟩ := plT_mem q
              obtain ⟨e, he, rfl⟩ := List.mem_map.mp hx
              refine iteFo rfl ?_
              refine ⟨_, rfl, S, .ref W, rfl, DGet.k (k := Sum.inr "words") hS9, W, rfl, .inl ⟨_, .inl hW9.wd⟩, _, rfl, D3, _, _, _, rfl, rfl, .inl (.inl h9), rfl, kvW es, Sum.inr e.1.1, .ref e.2, hW9.wd, rfl, by rw [valW, hO e he]; rfl, ?_⟩
              rw [drop_W g q]
              have kw : KpE [W] H9 (upd H9 W (.dK (kvW (es.filter fun e => !hereF a l e)))) := KpE.put hW9.wd rfl List.mem_cons_self
              have kall := (KpE.of (S := [W]) k9).trans kw
              refine ⟨szl (by show 2 ≤ 100000; decide), fun r nr => ?_⟩
              refine kY rfl r _ (es.filter fun e => !hereF a l e) (kall.free _ nr) (kall.trans (KpE.of (.new nr))) ⟨?_, fun z hz => ?_⟩ (filt_T es a l) (Nat.le_trans (List.length_filter_le _ _) (Nat.le_succ _)) upd_same
              · rw [upd_ne (fun z => by rw [← z, upd_same] at nr; cases nr), upd_same]
              · have tz := hW9.tu z (List.mem_filter.mp hz).1
                have n1 : z.2 ≠ W := ne_of tz hW9.wd (by intro z; cases z)
                have q2 : upd H9 W (.dK (kvW (es.filter fun e => !hereF a l e))) z.2 = some (.tup [.int z.1.2.1, .int z.1.2.2]) := by rw [upd_ne n1]; exact tz
                rw [upd_ne (ne_of_none q2 nr)]
                exact q2
          | false =>
            rw [if_neg (by decide)] at told kY
            refine iteFo (by decide +kernel) ?_
            refine ⟨_, rfl, D, _, _, _, rfl, rfl, .inl (.inl hD9), rfl, t, rfl, htl, fun Ha ka => ⟨_, rfl, ?_⟩⟩
            cases cw : isW t with
            | false =>
              rw [if_pos cw] at told
              exact iteTo rfl ⟨szl (by show 2 ≤ 100000; decide), fun r nr => told 1 rfl _ ka r nr⟩
            | true =>
              rw [if_neg (by rw [cw]; decide)] at told kY
              refine iteFo rfl ?_
              have ha9 := ka.same _ _ rfl h9
              have hDa := ka.same _ _ rfl hD9
              have hSa := ka.same _ _ rfl hS9
              have hWa := hW9.kp ka
              refine ⟨_, rfl, D3, _, rfl, .inl (SqL.of ha9), _, _, rfl, rfl, _, rfl, ?_⟩
              cases q : plT (es.map (·.1)) a l with
              | some x =>
                rw [q] at told
                refine iteTo rfl ⟨szl (by show 2 ≤ 100000; decide), fun r nr => told 2 rfl _ ka r nr⟩
              | none =>
                rw [q] at told kY
                refine iteFo rfl ?_
                refine ⟨_, rfl, D, _, _, _, rfl, rfl, .inl (.inl hDa), rfl, _, rfl, S, .ref W, rfl, DGet.k (k := Sum.inr "words") hSa, W, _, rfl, DGet.k (k := Sum.inr t) hWa.wd, ?_⟩
                rw [valW, Option.isSome_map, atW_some]
                refine ⟨_, rfl, ?_⟩
                cases cd : (wdT (es.map (·.1)) t).isSome with
                | true =>
                  rw [cd] at told
                  refine iteTo rfl ⟨szl (by show 2 ≤ 100000; decide), fun r nr => told 3 rfl _ ka r nr⟩
                | false =>
                  rw [cd] at kY
                  refine iteFo rfl ?_
                  refine ⟨_, rfl, D, _, _, _, rfl, rfl, .inl (.inl hDa), rfl, _, rfl, D, _, _, _, rfl, rfl, .inl (.inl hDa), rfl, szl (by show 2 ≤ 100000; decide), fun u nu => ?_⟩
                  generalize h_Hb : upd Ha u _ = Hb
                  have k_Hb : Kp Ha Hb := by rw [← h_Hb]; exact .new nu
                  have q_Hb := (congrFun h_Hb u).symm.trans upd_same
                  clear h_Hb
                  have hDb := k_Hb.same _ _ rfl hDa
                  have hSb := k_Hb.same _ _ rfl hSa
                  have hWb := hWa.kp k_Hb
                  have hlen : (kvW es).length < sizeLine := szt (by unfold kvW; rw [List.length_map]; omega)
                  refine ⟨_, rfl, S, .ref W, rfl, DGet.k (k := Sum.inr "words") hSb, _, rfl, D, _, _, _, rfl, rfl, .inl (.inl hDb), rfl, W, _, rfl, DPut.k (k := Sum.inr t) hWb.wd hlen, ?_⟩
                  have hno : valV (kvW es) (Sum.inr t) = none := by
                    rw [valW]
                    have z : (atW es t).isSome = false := by rw [atW_some]; exact cd
                    cases y : atW es t with
                    | none => rfl
                    | some _ => rw [y] at z; cases z
                  have eput : putK (kvW es) (Sum.inr t) (.ref u) = kvW (es ++ [((t, a, l), u)]) := by
                    rw [putK_new _ hno]
                    unfold kvW
                    rw [List.map_append]
                    rfl
                  rw [eput]
                  have kb := (k9.trans ka).trans k_Hb
                  have kw : KpE [W] Hb (upd Hb W (.dK (kvW (es ++ [((t, a, l), u)])))) := KpE.put hWb.wd rfl List.mem_cons_self
                  have kall := (KpE.of (S := [W]) kb).trans kw
                  refine ⟨szl (by show 2 ≤ 100000; decide), fun r nr => ?_⟩
                  refine kY rfl r _ (es ++ [((t, a, l), u)]) (kall.free _ nr) (kall.trans (KpE.of (.new nr))) ⟨?_, fun z hz => ?_⟩ (by rw [List.map_append]; rfl) (by rw [List.length_append]; exact Nat.le_refl _) upd_same
                  · rw [upd_ne (fun z => by rw [← z, upd_same] at nr; cases nr), upd_same]
                  · have tz : Hb z.2 = some (.tup [.int z.1.2.1, .int z.1.2.2]) := by
                      rcases List.mem_append.mp hz with hz | hz
                      · exact hWb.tu z hz
                      · rw [List.mem_singleton.mp hz]
                        exact q_Hb
                    have n1 : z.2 ≠ W := ne_of tz hWb.wd (by intro z; cases z)
                    have q2 : upd Hb W (.dK (kvW (es ++ [((t, a, l), u)]))) z.2 = some (.tup [.int z.1.2.1, .int z.1.2.2]) := by rw [upd_ne n1]; exact tz
                    rw [upd_ne (ne_of_none q2 nr)]
                    exact q2
      · refine iteTo (by show decide (max a l > 40) = true; exact decide_eq_true (by omega)) ⟨szl (by show 2 ≤ 100000; decide), fun r nr => ?_⟩
        generalize h_H3 : upd H2 r _ = H3
        have k_H3 : Kp H2 H3 := by rw [← h_H3]; exact .new nr
        have q_H3 := (congrFun h_H3 r).symm.trans upd_same
        clear h_H3
        exact bad (by rw [okE, decide_eq_false c2, Bool.and_false]) r _ (k2.free _ nr) (k2.trans k_H3) q_H3
    · refine iteTo (by show (!decide (1 ≤ min a l)) = true; rw [decide_eq_false c1]; rfl) (iteTo rfl ⟨szl (by show 2 ≤ 100000; decide), fun r nr => ?_⟩)
      generalize h_H2 : upd H1 r _ = H2
      have k_H2 : Kp H1 H2 := by rw [← h_H2]; exact .new nr
      have q_H2 := (congrFun h_H2 r).symm.trans upd_same
      clear h_H2
      exact bad (by rw [okE, decide_eq_false c1]; rfl) r _ (k_H1.free _ nr) (k_H1.trans k_H2) q_H2
/-! ### a deed tried -/
def whyN : Why → Nat
  | .place => 0
  | .word => 1
  | .taken => 2
  | .known => 3
theorem enter_V (bs : List Ent) (a l : Int) (t : Str) : deedV (bs.map (·.1)) false a l t = (enterV bs a l t).map whyN := by
  unfold deedV enterV
  rw [← atP_some, ← atW_some]
  generalize (atP bs a l).isSome = x
  generalize (atW bs t).isSome = y
  generalize okP a l = u
  generalize isW t = v
  cases u <;> cases v <;> cases x <;> cases y <;> rfl
def sp_l_tried (T : Txt K mg) : Sp := fun vs H Q _ => ∃ (p d1 d2 D : Addr) (bs : List Ent) (st : Bool) (a l : Int) (t : Str), vs = [.ref p, .ref D] ∧ BookAt T.a_Phrasebook H p d1 d2 bs ∧ H D = some (.tup [.str (nmOf st), .int a, .int l, .str t]) ∧ bs.length ≤ 1000 ∧ t.length ≤ 1000 ∧ GoodT (bs.map (·.1)) ∧ GxR.TabG H T.P_tab ∧
  (∀ i, deedV (bs.map (·.1)) st a l t = some i → ∀ r H', H r = none → Kp H H' → H' r = some (.tup [.str "no", .str (kindN i)]) → Q (.ref r) H') ∧
  (deedV (bs.map (·.1)) st a l t = none → ∀ r H' bs2, H r = none → KpE [d1, d2] H H' → BookAt T.a_Phrasebook H' p d1 d2 bs2 → bs2.map (·.1) = deedT (bs.map (·.1)) st a l t → bs2.length ≤ bs.length + 1 → H' r = some (.tup [.str "told", .non]) → Q (.ref r) H')
theorem BookAt.new {C : Addr} {H : Hp} {p d1 d2 r : Addr} {bs : List Ent} {o : HO} (b : BookAt C H p d1 d2 bs) (n : H r = none) : BookAt C (upd H r o) p d1 d2 bs := b.kp (.new n)
theorem ok_l_tried (T : Txt K mg) (TB : GxR.TabB base mg T.c_tab T.P_tab) : FnOk P w K mg base CX0 7 T.f_l_tried T.d_l_tried ["_law_book", "_law_deed"] (sp_l_tried T) := by
  refine T.F_l_tried.ok sc_l_tried (fun vs H Q E h => ?_) (fun cdv A outer s H vs Q E hr h => ?_)
  · obtain ⟨p, d1, d2, D, bs, st, a, l, t, rfl, _⟩ := h
    rfl
  · obtain ⟨p, d1, d2, D, bs, st, a, l, t, rfl, hB, hD, hbl, htl, g, hT, kN, kY⟩ := h
    refine ⟨_, (pss_cons (ps_set (i := 2) sc_l_tried.nd rfl (by first | exact Or.inl rfl | exact Or.inr rfl) (pe_tup (pa_cons pe_str (pa_cons pe_str pa_nil))))
      (pss_cons (ps_try_as (i := 3) rfl rfl sc_l_tried.nd rfl rfl ⟨rfl, by decide, Or.inl T.g_MastError⟩ takes0
      (fun W pn xe tk _ => (pss_one (ps_if (pt_cmpR op_eq (pe_ix (ix_tupK K rfl) (pv 1) pe_int (fun _ _ => rfl)) pe_str (nomark _))
      (pss_one (ps_set (i := 2) sc_l_tried.nd rfl (by first | exact Or.inl rfl | exact Or.inr rfl) (pe_tup (pa_cons pe_str (pa_cons (pe_methE (pv 0) T.cl_Phrasebook T.M_p_Phrasebook_enter (ok_p_Phrasebook_enter T TB) (hr.mono (by decide)) T.b_p_Phrasebook_enter (fun σ => passAt tk σ) (pa_cons (pe_ix (ix_tupK K rfl) (pv 1) pe_int (fun _ _ => rfl)) (pa_cons (pe_ix (ix_tupK K rfl) (pv 1) pe_int (fun _ _ => rfl)) (pa_cons (pe_ix (ix_tupK K rfl) (pv 1) pe_int (fun _ _ => rfl)) pa_nil)))) pa_nil)))))
      (pss_one (ps_set (i := 2) sc_l_tried.nd rfl (by first | exact Or.inl rfl | exact Or.inr rfl) (pe_tup (pa_cons pe_str (pa_cons (pe_methE (pv 0) T.cl_Phrasebook T.M_p_Phrasebook_strike (ok_p_Phrasebook_strike T) (hr.mono (by decide)) T.b_p_Phrasebook_strike (fun σ => passAt tk σ) (pa_cons (pe_ix (ix_tupK K rfl) (pv 1) pe_int (fun _ _ => rfl)) (pa_cons (pe_ix (ix_tupK K rfl) (pv 1) pe_int (fun _ _ => rfl)) pa_nil))) pa_nil))))))))
      (fun a oe cls d pn hz hf => (pss_one (ps_set (i := 2) sc_l_tried.nd rfl (by first | exact Or.inl rfl | exact Or.inr rfl) (pe_tup (pa_cons pe_str (pa_cons (pe_callE (ok_l_kind T) (hr.mono (by decide)) hz hf rfl T.g_l_kind T.F_l_kind.kp T.b_l_kind (pa_cons (pv 3) pa_nil)) pa_nil)))))))
      (pss_one (ps_ret (pv 2))))), ?_⟩
    refine ⟨szl (by show 2 ≤ 100000; decide), fun p1 n1 => ?_⟩
    generalize h_H1 : upd H p1 _ = H1
    have k_H1 : Kp H H1 := by rw [← h_H1]; exact .new n1
    have q_H1 := (congrFun h_H1 p1).symm.trans upd_same
    clear h_H1
    have hB1 := hB.kp k_H1
    have hD1 := k_H1.same _ _ rfl hD
    obtain ⟨dx, hp⟩ := hB1.ob
    refine ⟨_, rfl, D, _, _, _, rfl, rfl, .inl (.inl hD1), rfl, rfl, _, rfl, ?_⟩
    cases st with
    | false =>
      refine iteTo (by decide +kernel) ?_
      refine ⟨_, rfl, p, dx, _, rfl, hp, flds_no _ _ (by decide +kernel) (by decide +kernel), _, rfl, D, _, _, _, rfl, rfl, .inl (.inl hD1), rfl, _, rfl, D, _, _, _, rfl, rfl, .inl (.inl hD1), rfl, _, rfl, D, _, _, _, rfl, rfl, .inl (.inl hD1), rfl, p, d1, d2, bs, a, l, t, rfl, hB1, hbl, htl, k_H1.tab _ hT, fun ev u H2 k2 B2 => ?_, fun y ev H2 k2 => ?_⟩
      · refine ⟨szl (by show 2 ≤ 100000; decide), fun r nr => ?_⟩
        have kall := (KpE.of (S := [d1, d2]) k_H1).trans k2
        refine ⟨_, rfl, kY (by rw [enter_V, ev]; rfl) r _ _ (kall.free _ nr) (kall.trans (KpE.of (.new nr))) (B2.new nr) (by rw [List.map_append]; rfl) (by rw [List.length_append]; exact Nat.le_refl _) upd_same⟩
      · have hd : deedV (bs.map (·.1)) false a l t = some (whyN y) := by rw [enter_V, ev]; rfl
        cases y
        · refine ⟨true, kind_mast T 0 (by decide), fun _ e ne => ?_, fun q => Bool.noConfusion q⟩
          refine ⟨_, rfl, 0, rfl, by decide, rfl, rfl, fun H3 k3 => ⟨szl (by show 2 ≤ 100000; decide), fun r nr => ?_⟩⟩
          have kall := (k_H1.trans k2).trans k3
          exact ⟨_, rfl, kN _ hd r _ (kall.free _ nr) (kall.trans (.new nr)) upd_same⟩
        · refine ⟨true, kind_mast T 1 (by decide), fun _ e ne => ?_, fun q => Bool.noConfusion q⟩
          refine ⟨_, rfl, 1, rfl, by decide, rfl, rfl, fun H3 k3 => ⟨szl (by show 2 ≤ 100000; decide), fun r nr => ?_⟩⟩
          have kall := (k_H1.trans k2).trans k3
          exact ⟨_, rfl, kN _ hd r _ (kall.free _ nr) (kall.trans (.new nr)) upd_same⟩
        · refine ⟨true, kind_mast T 2 (by decide), fun _ e ne => ?_, fun q => Bool.noConfusion q⟩
          refine ⟨_, rfl, 2, rfl, by decide, rfl, rfl, fun H3 k3 => ⟨szl (by show 2 ≤ 100000; decide), fun r nr => ?_⟩⟩
          have kall := (k_H1.trans k2).trans k3
          exact ⟨_, rfl, kN _ hd r _ (kall.free _ nr) (kall.trans (.new nr)) upd_same⟩
        · refine ⟨true, kind_mast T 3 (by decide), fun _ e ne => ?_, fun q => Bool.noConfusion q⟩
          refine ⟨_, rfl, 3, rfl, by decide, rfl, rfl, fun H3 k3 => ⟨szl (by show 2 ≤ 100000; decide), fun r nr => ?_⟩⟩
          have kall := (k_H1.trans k2).trans k3
          exact ⟨_, rfl, kN _ hd r _ (kall.free _ nr) (kall.trans (.new nr)) upd_same⟩
    | true =>
      refine iteFo (by decide +kernel) ?_
      refine ⟨_, rfl, p, dx, _, rfl, hp, flds_no _ _ (by decide +kernel) (by decide +kernel), _, rfl, D, _, _, _, rfl, rfl, .inl (.inl hD1), rfl, _, rfl, D, _, _, _, rfl, rfl, .inl (.inl hD1), rfl, p, d1, d2, bs, a, l, rfl, hB1, fun ev H2 k2 => ?_, fun ev en H2 k2 => ?_, fun ev b eb => ?_⟩
      · refine ⟨true, kind_mast T 0 (by decide), fun _ e ne => ?_, fun q => Bool.noConfusion q⟩
        refine ⟨_, rfl, 0, rfl, by decide, rfl, rfl, fun H3 k3 => ⟨szl (by show 2 ≤ 100000; decide), fun r nr => ?_⟩⟩
        have kall := (k_H1.trans k2).trans k3
        exact ⟨_, rfl, kN 0 (by unfold deedV; rw [if_pos ev]) r _ (kall.free _ nr) (kall.trans (.new nr)) upd_same⟩
      · refine ⟨true, kind_mast T 4 (by decide), fun _ e ne => ?_, fun q => Bool.noConfusion q⟩
        refine ⟨_, rfl, 4, rfl, by decide, rfl, rfl, fun H3 k3 => ⟨szl (by show 2 ≤ 100000; decide), fun r nr => ?_⟩⟩
        have kall := (k_H1.trans k2).trans k3
        exact ⟨_, rfl, kN 4 (by unfold deedV; rw [if_neg (by rw [ev]; decide), if_pos rfl, ← atP_some, en]; rfl) r _ (kall.free _ nr) (kall.trans (.new nr)) upd_same⟩
      · have hpl : plT (bs.map (·.1)) a l = some b.1 := by rw [← atP_T, eb]; rfl
        refine ⟨bs.filter fun e => !hereF a l e, drop_P bs a l, drop_W g hpl, fun e he => (List.mem_filter.mp he).1, fun H2 k2 B2 => ?_⟩
        refine ⟨szl (by show 2 ≤ 100000; decide), fun r nr => ?_⟩
        have kall := (KpE.of (S := [d1, d2]) k_H1).trans k2
        refine ⟨_, rfl, kY (by unfold deedV; rw [if_neg (by rw [ev]; decide), if_pos rfl, hpl]; rfl) r _ _ (kall.free _ nr) (kall.trans (KpE.of (.new nr))) (B2.new nr) (filt_T bs a l) (Nat.le_trans (List.length_filter_le _ _) (Nat.le_succ _)) upd_same⟩
/-! ### the deeds drawn -/
def IsDeed (H : Hp) (u : Addr) : Prop := ∃ (st : Bool) (a l : Int) (t : Str), H u = some (.tup [.str (nmOf st), .int a, .int l, .str t]) ∧ t.length ≤ 1000
theorem IsDeed.kp {H H' : Hp} {u : Addr} (h : IsDeed H u) (k : Kp H H') : IsDeed H' u := by
  obtain ⟨st, a, l, t, h, ht⟩ := h
  exact ⟨st, a, l, t, k.same _ _ rfl h, ht⟩
theorem IsDeed.mut {H : Hp} {u r : Addr} {zs : List V} {o : HO} (h : IsDeed H u) (hr : H r = some (.lst zs)) : IsDeed (upd H r o) u := by
  obtain ⟨st, a, l, t, h, ht⟩ := h
  exact ⟨st, a, l, t, by rw [upd_ne (ne_of h hr (by intro z; cases z))]; exact h, ht⟩
theorem at_3 (n : Int) : ∃ st, atI [V.str "enter", V.str "enter", V.str "strike"] (n % 3) = some (.str (nmOf st)) := by
  have h1 := Int.emod_nonneg n (b := 3) (by decide)
  have h2 := Int.emod_lt_of_pos n (b := 3) (by decide)
  rcases (show n % 3 = 0 ∨ n % 3 = 1 ∨ n % 3 = 2 by omega) with e | e | e
  · rw [e]; exact ⟨false, rfl⟩
  · rw [e]; exact ⟨false, rfl⟩
  · rw [e]; exact ⟨true, rfl⟩
def W6 : List Str := ["", "Tide", "a b", "abcdefghijklm", "t1", "tide "]
theorem at_6 (n : Int) : ∃ t : Str, t.length ≤ 1000 ∧ atI (W6.map V.str) (n % 6) = some (.str t) := by
  have h1 := Int.emod_nonneg n (b := 6) (by decide)
  have h2 := Int.emod_lt_of_pos n (b := 6) (by decide)
  have e : (n % 6) = (((n % 6).toNat : Nat) : Int) := by omega
  have hl : (n % 6).toNat < W6.length := by show _ < 6; omega
  rw [e]
  refine ⟨W6[(n % 6).toNat], ?_, atI_nat (by rw [List.getElem?_map, List.getElem?_eq_getElem hl]; rfl)⟩
  have all : ∀ t ∈ W6, t.length ≤ 1000 := by decide +kernel
  exact all _ (List.getElem_mem hl)
def sp_l_book_deeds (K : PySem.W.Frag) : Sp := fun vs H Q _ => ∃ (a : Addr) (ns : List Int) (j m : Nat), vs = [.ref a, .int (j : Int), .int (m : Int)] ∧ SqL K H a (ns.map V.int) ∧ j ≤ 1000 ∧ m ≤ 100 ∧
  ∀ (r : Addr) (us : List Addr) (H' : Hp), H r = none → Kp H H' → H' r = some (.lst (us.map V.ref)) → us.length = m → (∀ u ∈ us, IsDeed H' u) → Q (.ref r) H'
theorem ok_l_book_deeds (T : Txt K mg) : FnOk P w K mg base CX0 3 T.f_l_book_deeds T.d_l_book_deeds ["_law_script", "_law_at", "_law_many"] (sp_l_book_deeds K) := by
  refine T.F_l_book_deeds.ok sc_l_book_deeds (fun vs H Q E h => ?_) (fun cdv A outer s H vs Q E hr h => ?_)
  · obtain ⟨a, ns, j, m, rfl, _⟩ := h
    rfl
  · obtain ⟨a, ns, j, m, rfl, hS, hj, hm, k⟩ := h
    refine ⟨_, (pss_cons (ps_set (i := 3) sc_l_book_deeds.nd rfl (by first | exact Or.inl rfl | exact Or.inr rfl) (pe_lst pa_nil))
      (pss_cons (ps_for PassesOwn.never rfl (pi_range1 (by rfl) T.m_range (pa_cons (pv 2) pa_nil)) (pg_name (i := 4) sc_l_book_deeds.nd rfl (by first | exact Or.inl rfl | exact Or.inr rfl))
      (pss_cons (ps_set (i := 5) sc_l_book_deeds.nd rfl (by first | exact Or.inl rfl | exact Or.inr rfl) (pe_call (ok_l_row T) (hr.mono (by decide)) rfl T.g_l_row T.F_l_row.kp T.b_l_row .nil pass0 (pa_cons (pe_op op_add (pe_call (ok_l_cell T) (hr.mono (by decide)) rfl T.g_l_cell T.F_l_cell.kp T.b_l_cell .nil pass0 (pa_cons (pv 0) (pa_cons (pe_op op_add (pv 1) (pe_op op_fdiv (pv 4) pe_int)) pa_nil))) (pe_op op_mul pe_int (pe_op op_mod (pv 4) pe_int))) (pa_cons pe_int (pa_cons pe_int pa_nil)))))
      (pss_cons (ps_set (i := 6) sc_l_book_deeds.nd rfl (by first | exact Or.inl rfl | exact Or.inr rfl) (pe_tup (pa_cons (pe_op op_add pe_int (pe_op op_mod (pe_ix ix_list (pv 5) pe_int (fun _ _ => rfl)) pe_int)) (pa_cons (pe_op op_add pe_int (pe_op op_mod (pe_ix ix_list (pv 5) pe_int (fun _ _ => rfl)) pe_int)) pa_nil))))
      (Evl.pss_cut (ps_if (pt_cmpR op_eq (pe_op op_mod (pe_op op_fdiv (pe_ix ix_list (pv 5) pe_int (fun _ _ => rfl)) pe_int) pe_int) pe_int (nomark _))
      (pss_one (ps_set (i := 6) sc_l_book_deeds.nd rfl (by first | exact Or.inl rfl | exact Or.inr rfl) (pe_tup (pa_cons (pe_op op_sub (pe_op op_mod (pe_op op_fdiv (pe_ix ix_list (pv 5) pe_int (fun _ _ => rfl)) pe_int) pe_int) pe_int) (pa_cons (pe_op op_sub (pe_op op_mod (pe_op op_fdiv (pe_ix ix_list (pv 5) pe_int (fun _ _ => rfl)) pe_int) pe_int) pe_int) pa_nil)))))
      pss_nil)
      (pss_cons (ps_set (i := 7) sc_l_book_deeds.nd rfl (by first | exact Or.inl rfl | exact Or.inr rfl) (pe_call (ok_l_word T) (hr.mono (by decide)) rfl T.g_l_word T.F_l_word.kp T.b_l_word .nil pass0 (pa_cons (pe_ix ix_list (pv 5) pe_int (fun _ _ => rfl)) pa_nil)))
      (Evl.pss_cut (ps_if (pt_cmpR op_eq (pe_op op_mod (pe_ix ix_list (pv 5) pe_int (fun _ _ => rfl)) pe_int) pe_int (nomark _))
      (pss_one (ps_set (i := 7) sc_l_book_deeds.nd rfl (by first | exact Or.inl rfl | exact Or.inr rfl) (pe_ix ix_tup (pe_tup (pa_cons pe_str (pa_cons pe_str (pa_cons pe_str (pa_cons pe_str (pa_cons pe_str (pa_cons pe_str pa_nil))))))) (pe_op op_mod (pe_op op_fdiv (pe_ix ix_list (pv 5) pe_int (fun _ _ => rfl)) pe_int) pe_int) (fun _ _ => rfl))))
      pss_nil)
      (pss_one (ps_expr (pe_bm PySem.F.plainAttrs_list PySem.F.slot_list_append PySem.F.type_list_append mt_append (pv 3) (pa_cons (pe_op op_catT (pe_op op_catT (pe_tup (pa_cons (pe_ix ix_tup (pe_tup (pa_cons pe_str (pa_cons pe_str (pa_cons pe_str pa_nil)))) (pe_op op_mod (pe_ix ix_list (pv 5) pe_int (fun _ _ => rfl)) pe_int) (fun _ _ => rfl)) pa_nil)) (pv 6)) (pe_tup (pa_cons (pv 7) pa_nil))) pa_nil))))))))))
      (pss_one (ps_ret (pv 3))))), ?_⟩
    refine ⟨Nat.zero_le _, fun r nr => ?_⟩
    generalize h_H1 : upd H r _ = H1
    have k_H1 : Kp H H1 := by rw [← h_H1]; exact .new nr
    have q_H1 := (congrFun h_H1 r).symm.trans upd_same
    clear h_H1
    refine ⟨_, rfl, (m : Int), rfl, by omega, by omega, ?_⟩
    refine for_range (lo := 0) (n := ((m : Int)).toNat) (fun i σ H' => ∃ (us : List Addr) (y4 y5 y6 y7 : Option V), σ = [some (.ref a), some (.int (j : Int)), some (.int (m : Int)), some (.ref r), y4, y5, y6, y7] ∧ Kp H H' ∧ H' r = some (.lst (us.map V.ref)) ∧ us.length = i ∧ ∀ u ∈ us, IsDeed H' u)
      ⟨[], none, none, none, none, rfl, k_H1, q_H1, rfl, by simp⟩ ?_ ?_
    · rintro i σ H' hi ⟨us, y4, y5, y6, y7, rfl, kp, hr', hul, hus⟩
      have him : i < m := hi
      have ej : (j : Int) + (0 + (i : Int)) / 6 = ((j + i / 6 : Nat) : Int) := by omega
      refine ⟨_, rfl, _, rfl, _, rfl, _, _, rfl, rfl, ⟨by decide, by decide⟩, _, _, rfl, rfl, a, ns, j + i / 6, (by rw [← ej]; rfl), kp.sqL hS, by omega, _, rfl, _, _, rfl, rfl, (by show (0 : Int) < 6; decide), _, _, rfl, rfl, .inl ⟨by decide, by decide⟩, _, _, rfl, rfl, _, _, _, rfl, by decide, by decide, by decide, by decide, fun nums p1 H3 n1 k3 q1 ⟨hl, hb⟩ => ?_⟩
      have h0 : 0 < nums.length := by omega
      have h1 : 1 < nums.length := by omega
      have h2 : 2 < nums.length := by omega
      have h3 : 3 < nums.length := by omega
      have h4 : 4 < nums.length := by omega
      refine ⟨_, rfl, p1, _, _, _, rfl, rfl, .inl (.inl q1), at_int (j := 1) h1, _, _, rfl, rfl, (by show (0 : Int) < 3; decide), _, _, rfl, rfl, _, rfl, p1, _, _, _, rfl, rfl, .inl (.inl q1), at_int (j := 2) h2, _, _, rfl, rfl, (by show (0 : Int) < 3; decide), _, _, rfl, rfl, szl (by show 2 ≤ 100000; decide), fun sp nsp => ?_⟩
      generalize h_H4 : upd H3 sp _ = H4
      have k_H4 : Kp H3 H4 := by rw [← h_H4]; exact .new nsp
      have q_H4 := (congrFun h_H4 sp).symm.trans upd_same
      clear h_H4
      have q4 := k_H4.same _ _ rfl q1
      refine ⟨fun σ' G => ∃ (sp : Addr) (x y : Int), σ' = [some (.ref a), some (.int (j : Int)), some (.int (m : Int)), some (.ref r), some (.int (0 + (i : Int))), some (.ref p1), some (.ref sp), y7] ∧ Kp H4 G ∧ G sp = some (.tup [.int x, .int y]), ?_, ?_⟩
      · refine ⟨_, rfl, p1, _, _, _, rfl, rfl, .inl (.inl q4), at_int (j := 1) h1, _, _, rfl, rfl, ⟨by decide, by decide⟩, _, _, rfl, rfl, (by show (0 : Int) < 4; decide), rfl, _, rfl, iteB (fun c => ?_) (fun c => ?_)⟩
        · refine ⟨_, rfl, p1, _, _, _, rfl, rfl, .inl (.inl q4), at_int (j := 1) h1, _, _, rfl, rfl, ⟨by decide, by decide⟩, _, _, rfl, rfl, (by show (0 : Int) < 44; decide), _, _, rfl, rfl, _, rfl, p1, _, _, _, rfl, rfl, .inl (.inl q4), at_int (j := 2) h2, _, _, rfl, rfl, ⟨by decide, by decide⟩, _, _, rfl, rfl, (by show (0 : Int) < 44; decide), _, _, rfl, rfl, szl (by show 2 ≤ 100000; decide), fun s2 ns2 => ?_⟩
          exact ⟨s2, _, _, rfl, .new ns2, upd_same⟩
        · exact ⟨sp, _, _, rfl, .refl _, q_H4⟩
      rintro σ' G ⟨sp2, x, y, rfl, kg, hsp⟩
      have q5 := kg.same _ _ rfl q4
      refine ⟨_, rfl, p1, _, _, _, rfl, rfl, .inl (.inl q5), at_int (j := 3) h3, _, rfl, fun t G2 ht kg2 => ?_⟩
      have q6 := kg2.same _ _ rfl q5
      have sp6 := kg2.same _ _ rfl hsp
      refine ⟨fun σ' G3 => ∃ t : Str, σ' = [some (.ref a), some (.int (j : Int)), some (.int (m : Int)), some (.ref r), some (.int (0 + (i : Int))), some (.ref p1), some (.ref sp2), some (.str t)] ∧ Kp G2 G3 ∧ t.length ≤ 1000, ?_, ?_⟩
      · refine ⟨_, rfl, p1, _, _, _, rfl, rfl, .inl (.inl q6), at_int (j := 4) h4, _, _, rfl, rfl, (by show (0 : Int) < 9; decide), rfl, _, rfl, iteB (fun c => ?_) (fun c => ?_)⟩
        · refine ⟨szl (by show 6 ≤ 100000; decide), fun w6 nw6 => ?_⟩
          generalize h_G3 : upd G2 w6 _ = G3
          have k_G3 : Kp G2 G3 := by rw [← h_G3]; exact .new nw6
          have q_G3 := (congrFun h_G3 w6).symm.trans upd_same
          clear h_G3
          obtain ⟨t6, ht6, e6⟩ := at_6 (nums[4] / 9)
          refine ⟨_, rfl, p1, _, _, _, rfl, rfl, .inl (.inl (k_G3.same _ _ rfl q6)), at_int (j := 4) h4, _, _, rfl, rfl, ⟨by decide, by decide⟩, _, _, rfl, rfl, (by show (0 : Int) < 6; decide), w6, _, _, _, rfl, rfl, .inl (.inl q_G3), e6, ?_⟩
          exact ⟨t6, rfl, k_G3, ht6⟩
        · exact ⟨t, rfl, .refl _, by have := (isW_len ht).2; omega⟩
      rintro σ' G3 ⟨t3, rfl, kg3, ht3⟩
      have k3all : Kp H' G3 := (((k3.trans k_H4).trans kg).trans kg2).trans kg3
      have q7 := kg3.same _ _ rfl q6
      have sp7 := kg3.same _ _ rfl sp6
      have hr7 := k3all.same _ _ rfl hr'
      obtain ⟨st, est⟩ := at_3 nums[0]
      refine ⟨_, rfl, .inl ⟨rfl, _, SqL.of hr7⟩, szl (by show 3 ≤ 100000; decide), fun a1 na1 => ?_⟩
      generalize h_G4 : upd G3 a1 _ = G4
      have k_G4 : Kp G3 G4 := by rw [← h_G4]; exact .new na1
      have q_G4 := (congrFun h_G4 a1).symm.trans upd_same
      clear h_G4
      refine ⟨_, rfl, p1, _, _, _, rfl, rfl, .inl (.inl (k_G4.same _ _ rfl q7)), at_int (j := 0) h0, _, _, rfl, rfl, (by show (0 : Int) < 3; decide), a1, _, _, _, rfl, rfl, .inl (.inl q_G4), est, szl (by show 1 ≤ 100000; decide), fun a2 na2 => ?_⟩
      generalize h_G5 : upd G4 a2 _ = G5
      have k_G5 : Kp G4 G5 := by rw [← h_G5]; exact .new na2
      have q_G5 := (congrFun h_G5 a2).symm.trans upd_same
      clear h_G5
      have sp9 := k_G5.same _ _ rfl (k_G4.same _ _ rfl sp7)
      refine ⟨_, rfl, a2, sp2, _, _, rfl, rfl, .inl (.inl q_G5), .inl (.inl sp9), by simp, szl (by show 3 ≤ 100000; decide), (fun z => by cases z), fun _ a3 na3 => ?_⟩
      generalize h_G6 : upd G5 a3 _ = G6
      have k_G6 : Kp G5 G6 := by rw [← h_G6]; exact .new na3
      have q_G6 := (congrFun h_G6 a3).symm.trans upd_same
      clear h_G6
      refine ⟨_, rfl, szl (by show 1 ≤ 100000; decide), fun a4 na4 => ?_⟩
      generalize h_G7 : upd G6 a4 _ = G7
      have k_G7 : Kp G6 G7 := by rw [← h_G7]; exact .new na4
      have q_G7 := (congrFun h_G7 a4).symm.trans upd_same
      clear h_G7
      refine ⟨a3, a4, _, _, rfl, rfl, .inl (.inl (k_G7.same _ _ rfl q_G6)), .inl (.inl q_G7), by simp, szl (by show 4 ≤ 100000; decide), (fun z => by cases z), fun _ a5 na5 => ?_⟩
      generalize h_G8 : upd G7 a5 _ = G8
      have k_G8 : Kp G7 G8 := by rw [← h_G8]; exact .new na5
      have q_G8 := (congrFun h_G8 a5).symm.trans upd_same
      clear h_G8
      have kg8 := (((k_G4.trans k_G5).trans k_G6).trans k_G7).trans k_G8
      have hr8 := kg8.same _ _ rfl hr7
      refine ⟨r, _, _, rfl, rfl, hr8, szt (by rw [List.length_map]; omega), ?_⟩
      refine ⟨us ++ [a5], _, _, _, _, rfl, ((kp.trans k3all).trans kg8).mut nr, by rw [upd_same, List.map_append]; rfl, by rw [List.length_append, hul]; rfl, fun u hu => ?_⟩
      rcases List.mem_append.mp hu with hu | hu
      · exact ((hus u hu).kp (k3all.trans kg8)).mut hr8
      · rw [List.mem_singleton.mp hu]
        exact IsDeed.mut ⟨st, x, y, t3, q_G8, ht3⟩ hr8
    · rintro σ H' ⟨us, y4, y5, y6, y7, rfl, kp, hr', hul, hus⟩
      exact ⟨_, rfl, k r us H' nr kp hr' (by rw [hul]; exact Int.toNat_natCast m) hus⟩
/-! ### the rows of the law's map, sorted -/
theorem op_catTK {X : Cx} (K : PySem.W.Frag) (h : X.K = K) : OpR X (binaryOp .Add) (rCatT K) := h ▸ op_catT
theorem dp_dS {K : PySem.W.Frag} {H : Hp} {a : Addr} {ws : List Str} (h : SqL K H a (ws.map V.str)) : Dp K H (.ref a) (dS ws) := .lst h (dp_strs ws)
mutual
theorem Dp.putK {K : PySem.W.Frag} {H : Hp} {p : Addr} {o : HO} {od : Obj} {kvs : List (Key × V)} (hp : H p = some (.frz od (.dK kvs))) : ∀ {d : PyData} {v : V}, Dp K H v d → Dp K (upd H p o) v d
  | _, _, .non => .non
  | _, _, .bl b => .bl b
  | _, _, .int i => .int i
  | _, _, .str x => .str x
  | _, _, .lst h a => by
    refine .lst ?_ (DpAll.putK hp a)
    rcases h with (h | ⟨ob, h⟩) | h
    · exact .inl (.inl (by rw [upd_ne (ne_of h hp (by intro z; cases z))]; exact h))
    · exact .inl (.inr ⟨ob, by rw [upd_ne (ne_of h hp (by intro z; cases z))]; exact h⟩)
    · exact .inr h
  | _, _, .tup h a => by
    refine .tup ?_ (DpAll.putK hp a)
    rcases h with (h | ⟨ob, h⟩) | h
    · exact .inl (.inl (by rw [upd_ne (ne_of h hp (by intro z; cases z))]; exact h))
    · exact .inl (.inr ⟨ob, by rw [upd_ne (ne_of h hp (by intro z; cases z))]; exact h⟩)
    · exact .inr h
theorem DpAll.putK {K : PySem.W.Frag} {H : Hp} {p : Addr} {o : HO} {od : Obj} {kvs : List (Key × V)} (hp : H p = some (.frz od (.dK kvs))) : ∀ {ds : List PyData} {vs : List V}, DpAll K H vs ds → DpAll K (upd H p o) vs ds
  | _, _, .nil => .nil
  | _, _, .cons h t => .cons (Dp.putK hp h) (DpAll.putK hp t)
end
theorem trips_same {bs es : List Ent} (h : es.map (·.1) = bs.map (·.1)) : es.map dTrip = bs.map dTrip := by
  have q : ∀ xs : List Ent, xs.map dTrip = (xs.map (·.1)).map fun b => PyData.tuple [.int b.2.1, .int b.2.2, .str b.1] := fun xs => by
    rw [List.map_map]
    rfl
  rw [q, q, h]
theorem dn_words {bs : List Ent} (h : bs.length ≤ 1000) : Dn 4 (.list (wordsD bs)) := by
  refine .lst (fun d hd => ?_) ?_
  · unfold wordsD sortD at hd
    obtain ⟨b, _, rfl⟩ := List.mem_map.mp (List.mem_mergeSort.mp hd)
    refine .tup (fun d hd => ?_) (by show 3 ≤ 10000; decide)
    simp only [List.mem_cons, List.not_mem_nil, or_false] at hd
    rcases hd with rfl | rfl | rfl
    · exact .int _ _
    · exact .int _ _
    · exact .str _ _
  · unfold wordsD sortD
    rw [List.length_mergeSort, List.length_map]
    omega
/-! ### the book against the law's own map -/
def sp_l_right (T : Txt K mg) : Sp := fun vs H Q _ => ∃ (p d1 d2 W D : Addr) (bs es : List Ent) (st : Bool) (a l : Int) (t : Str), vs = [.ref p, .ref W, .ref D] ∧ BookAt T.a_Phrasebook H p d1 d2 bs ∧ DictAt H W es ∧ H D = some (.tup [.str (nmOf st), .int a, .int l, .str t]) ∧ es.map (·.1) = bs.map (·.1) ∧ GoodT (bs.map (·.1)) ∧ bs.length ≤ 1000 ∧ t.length ≤ 1000 ∧ GxR.TabG H T.P_tab ∧
  ∀ H', Kp H H' → Q (.bl true) H'
theorem ok_l_right (T : Txt K mg) (TB : GxR.TabB base mg T.c_tab T.P_tab) : FnOk P w K mg base CX0 8 T.f_l_right T.d_l_right ["_law_book", "_law_words", "_law_deed"] (sp_l_right T) := by
  refine T.F_l_right.ok sc_l_right (fun vs H Q E h => ?_) (fun cdv A outer s H vs Q E hr h => ?_)
  · obtain ⟨p, d1, d2, W, D, bs, es, st, a, l, t, rfl, _⟩ := h
    rfl
  · obtain ⟨p, d1, d2, W, D, bs, es, st, a, l, t, rfl, hB, hW, hD, hes, g, hbl, htl, hT, k⟩ := h
    have hu := hu_of hr
    have gE : GoodT (es.map (·.1)) := by rw [hes]; exact g
    have hO := own_es gE
    have hel : es.length = bs.length := by
      have z := congrArg List.length hes
      rw [List.length_map, List.length_map] at z
      exact z
    refine ⟨_, (pss_cons (ps_if (pt_not (pt_val (pe_call (ok_l_like T 4) (hr.mono (by decide)) rfl T.g_l_like T.F_l_like.kp T.b_l_like .nil pass0 (pa_cons (pe_meth0 (pv 0) T.cl_Phrasebook T.M_p_Phrasebook_words (ok_p_Phrasebook_words T) (hr.mono (by decide)) T.b_p_Phrasebook_words .nil pass0) (pa_cons (pe_callB (cr_sortedD (hu65 hr)) (by rfl) T.m_sorted PyProof.Rows.boot_sorted (pa_cons (pe_lock (pe_lc (own := [("_law_word_here", 3)]) (g := gName 3) (tt := tYes) (by rfl) sc_l_right.nd (pi_keys (pv 1)) (blkOk_by (own := [("_law_word_here", 3)]) (N := ["_law_book", "_law_words", "_law_deed", "_law_word_here", "_law_there", "_law_told", "_law_e"]) (sc := defScope s_l_right) (by decide +kernel)) (fun _ _ _ _ _ => (pg_name (i := 3) sc_l_right.nd rfl (by first | exact Or.inl rfl | exact Or.inr rfl))) (fun _ _ _ _ _ => pts_nil) (fun _ _ _ _ _ => (pe_op (op_catTK K rfl) (pe_dget hu (pv 1) (pv 3) (fun _ _ => rfl)) (pe_tup (pa_cons (pv 3) pa_nil)))))) pa_nil)) pa_nil)))))
      (pss_one (ps_ret pe_bl))
      pss_nil)
      (Evl.pss_cut (ps_if (PW.pt (pw_and (pt_val (pe_call (ok_l_is_word T) (hr.mono (by decide)) rfl T.g_l_is_word T.F_l_is_word.kp T.b_l_is_word .nil pass0 (pa_cons (pe_ix ix_tup (pv 2) pe_int (fun _ _ => rfl)) pa_nil))) (pw_and1 (pt_not (pt_val (pe_call (ok_l_like T 4) (hr.mono (by decide)) rfl T.g_l_like T.F_l_like.kp T.b_l_like .nil pass0 (pa_cons (pe_meth (pv 0) T.cl_Phrasebook T.M_p_Phrasebook_place_of (ok_p_Phrasebook_place_of T TB) (hr.mono (by decide)) T.b_p_Phrasebook_place_of .nil passL (pa_cons (pe_ix ix_tup (pv 2) pe_int (fun _ _ => rfl)) pa_nil)) (pa_cons (pe_dget1 hu (pv 1) (pe_ix ix_tup (pv 2) pe_int (fun _ _ => rfl)) ⟨rfl, rfl, rfl, rfl⟩) pa_nil))))))))
      (pss_one (ps_ret pe_bl))
      pss_nil)
      (Evl.pss_cut (ps_if (PW.pt (pw_and (pt_cmpR op_le pe_int (pe_callB (cr_minT rfl hr.units) (by rfl) T.m_min (by decide +kernel) (pa_cons (pe_slice sl_tup (pv 2) (po_some pe_int) (po_some pe_int)) pa_nil)) (nomark _)) (pw_and1 (pt_cmpR op_le (pe_callB (cr_maxT rfl hr.units) (by rfl) T.m_max (by decide +kernel) (pa_cons (pe_slice sl_tup (pv 2) (po_some pe_int) (po_some pe_int)) pa_nil)) pe_int (nomark _)))))
      (pss_cons (ps_lock (ps_setLc (i := 4) (own := [("_law_word_here", 3)]) (g := gName 3) (by rfl) sc_l_right.nd rfl rfl (sw_true rfl rfl rfl (by decide +kernel)) (pi_keys (pv 1)) (blkOk_by (own := [("_law_word_here", 3)]) (N := ["_law_book", "_law_words", "_law_deed", "_law_word_here", "_law_there", "_law_told", "_law_e"]) (sc := defScope s_l_right) (by decide +kernel)) (fun _ _ _ _ _ => (pg_name (i := 3) sc_l_right.nd rfl (by first | exact Or.inl rfl | exact Or.inr rfl))) (fun _ _ _ _ _ => (pts_one (pt_cmpR (op_eqDK K rfl hr.units) (pe_dget hu (pv 1) (pv 3) (fun _ _ => rfl)) (pe_slice (sl_tupK K rfl) (pv 2) (po_some pe_int) (po_some pe_int)) (nomark _)))) (fun _ _ _ _ _ => (pv 3))))
      (pss_one (ps_ret (pe_call (ok_l_like T 4) (hr.mono (by decide)) rfl T.g_l_like T.F_l_like.kp T.b_l_like .nil pass0 (pa_cons (pe_meth (pv 0) T.cl_Phrasebook T.M_p_Phrasebook_word_at (ok_p_Phrasebook_word_at T) (hr.mono (by decide)) T.b_p_Phrasebook_word_at .nil passL (pa_cons (pe_ix ix_tup (pv 2) pe_int (fun _ _ => rfl)) (pa_cons (pe_ix ix_tup (pv 2) pe_int (fun _ _ => rfl)) pa_nil))) (pa_cons (pe_ix ix_list (pe_op op_cat (pv 4) (pe_lst (pa_cons pe_non pa_nil))) pe_int (fun _ _ => rfl)) pa_nil))))))
      pss_nil)
      (pss_cons (ps_set (i := 5) sc_l_right.nd rfl (by first | exact Or.inl rfl | exact Or.inr rfl) pe_bl)
      (pss_cons (ps_try_as (i := 6) rfl rfl sc_l_right.nd rfl rfl ⟨rfl, by decide, Or.inl T.g_MastError⟩ takes0
      (fun W pn xe tk _ => (pss_one (ps_expr (pe_methE (pv 0) T.cl_Phrasebook T.M_p_Phrasebook_word_at (ok_p_Phrasebook_word_at T) (hr.mono (by decide)) T.b_p_Phrasebook_word_at (fun σ => passAt tk σ) (pa_cons (pe_ix (ix_tupK K rfl) (pv 2) pe_int (fun _ _ => rfl)) (pa_cons (pe_ix (ix_tupK K rfl) (pv 2) pe_int (fun _ _ => rfl)) pa_nil))))))
      (fun a oe cls d pn hz hf => (pss_one (ps_set (i := 5) sc_l_right.nd rfl (by first | exact Or.inl rfl | exact Or.inr rfl) (pe_cmpR op_eq (pe_callE (ok_l_kind T) (hr.mono (by decide)) hz hf rfl T.g_l_kind T.F_l_kind.kp T.b_l_kind (pa_cons (pv 6) pa_nil)) pe_str (nomark _))))))
      (pss_one (ps_ret (pv 5)))))))), ?_⟩
    obtain ⟨dx, hp⟩ := hB.ob
    refine ⟨_, rfl, p, dx, _, rfl, hp, flds_no _ _ (by decide +kernel) (by decide +kernel), p, d1, d2, bs, rfl, hB, by omega, fun rw0 ysw Hw nrw kw qw dwd => ?_⟩
    have DW := hW.kp kw
    refine ⟨W, _, DW.wd, trivial, fun od => ?_⟩
    refine ⟨_, rfl, W, od, rfl, .inl ⟨kvW es, upd_same, fun D0 hD0 => ?_⟩⟩
    refine lc_it (walk_keys (d := W) (o := od) (kvs := kvW es)) (fun i Hx => Kp (upd Hw W (.frz od (.dK (kvW es)))) Hx ∧ ∃ rs : List V, Hx D0 = some (.lst rs) ∧ DpAll K Hx rs ((es.take i).map dTrip)) ⟨Kp.new hD0, [], upd_same, .nil⟩ (fun i Hx _ ⟨kk, _⟩ => kk.same _ _ rfl upd_same) (fun i x H7 H8 hi2 ⟨kk, rs, hrs, hd⟩ ⟨e8, ky, v, hkv, hx⟩ => ?_) (fun H7 ⟨kk, rs, hrs, hd⟩ => ?_)
    · subst e8
      subst hx
      obtain ⟨e, he, rfl, rfl⟩ := kvW_at hkv
      have hil : i < es.length := (List.getElem?_eq_some_iff.mp he).1
      have te : H8 e.2 = some (.tup [.int e.1.2.1, .int e.1.2.2]) := by
        have z := DW.tu e (List.mem_of_getElem? he)
        exact kk.same _ _ rfl (by rw [upd_ne (ne_of z DW.wd (by intro z; cases z))]; exact z)
      refine ⟨rfl, ?_⟩
      refine ⟨_, rfl, _, rfl, W, _, rfl, .inl ⟨kvW es, Sum.inr e.1.1, .inr ⟨od, kk.same _ _ rfl upd_same⟩, rfl, (by rw [valW, hO e (List.mem_of_getElem? he)]; rfl)⟩, _, rfl, szl (by show 1 ≤ 100000; decide), fun u nu => ?_⟩
      generalize h_H9 : upd H8 u _ = H9
      have k_H9 : Kp H8 H9 := by rw [← h_H9]; exact .new nu
      have q_H9 := (congrFun h_H9 u).symm.trans upd_same
      clear h_H9
      refine ⟨e.2, u, _, _, rfl, rfl, .inl (.inl (k_H9.same _ _ rfl te)), .inl (.inl q_H9), by simp, szl (by show 3 ≤ 100000; decide), (fun z => by cases z), fun _ p5 n5 => ?_⟩
      generalize h_Ha : upd H9 p5 _ = Ha
      have k_Ha : Kp H9 Ha := by rw [← h_Ha]; exact .new n5
      have q_Ha := (congrFun h_Ha p5).symm.trans upd_same
      clear h_Ha
      have hra := k_Ha.same _ _ rfl (k_H9.same _ _ rfl hrs)
      have hl := DpAll.len hd
      rw [List.length_map, List.length_take] at hl
      refine ⟨rs, hra, szt (by omega), ((kk.trans k_H9).trans k_Ha).mut hD0, _, upd_same, ?_⟩
      rw [take_snoc he, List.map_append]
      exact DpAll.mut hra nl_trips (DpAll.snoc (k_Ha.dpAll (k_H9.dpAll hd)) (.tup (.inl (.inl q_Ha)) (.cons (.int _) (.cons (.int _) (.cons (.str _) .nil)))))
    · have ekl : (kvW es).length = es.length := by unfold kvW; rw [List.length_map]
      rw [ekl, List.take_length] at hd
      have hf := kk.same _ _ rfl (upd_same (H := Hw) (a := W) (o := .frz od (.dK (kvW es))))
      refine ⟨hf, ?_⟩
      have ku := Kp.unlock DW.wd rfl kk
      have nD : D0 ≠ W := fun z => by
        rw [z, upd_same] at hD0
        cases hD0
      have h9 : upd H7 W (.dK (kvW es)) D0 = some (.lst rs) := by
        rw [upd_ne nD]
        exact hrs
      have hd9 := DpAll.putK (o := .dK (kvW es)) hf hd
      generalize upd H7 W (.dK (kvW es)) = H9 at ku h9 hd9 ⊢
      refine ⟨D0, rs, es.map dTrip, rfl, .inl (.inl h9), hd9, PySem.W.AllAlike.of fun _ _ => rfl, PySem.W.Sortable.tuples fun _ => ⟨_, _, rfl⟩, ?_, fun ysr r7 hy nr7 => ?_⟩
      · intro d hd
        obtain ⟨b, _, rfl⟩ := List.mem_map.mp hd
        show 1 ≤ 60
        decide
      generalize h_Hb : upd H9 r7 _ = Hb
      have k_Hb : Kp H9 Hb := by rw [← h_Hb]; exact .new nr7
      have q_Hb := (congrFun h_Hb r7).symm.trans upd_same
      clear h_Hb
      have kwb := ku.trans k_Hb
      refine ⟨_, _, .list (wordsD bs), rfl, .lst (.inl (.inl (kwb.same _ _ rfl qw))) (kwb.dpAll dwd), .lst (.inl (.inl q_Hb)) (by unfold wordsD; rw [← trips_same hes]; exact k_Hb.dpAll hy), dn_words (by omega), fun He ke => ⟨_, rfl, iteFo rfl ?_⟩⟩
      have kE : Kp H He := (kw.trans kwb).trans ke
      clear ke kwb ku hd9 h9 nD hf hd hrs kk
      -- the second
      refine ⟨fun σ' G => σ' = [some (.ref p), some (.ref W), some (.ref D), none, none, none, none] ∧ Kp H G, ?_, ?_⟩
      · have hDE := kE.same _ _ rfl hD
        refine ⟨_, rfl, D, _, _, _, rfl, rfl, .inl (.inl hDE), rfl, t, rfl, htl, fun G1 g1 => ⟨_, rfl, ?_⟩⟩
        cases cw : isW t with
        | false => exact iteFo rfl (iteFo rfl ⟨rfl, kE.trans g1⟩)
        | true =>
          refine iteTo rfl ?_
          have k1 := kE.trans g1
          have hB1 := hB.kp k1
          have hD1 := k1.same _ _ rfl hD
          have hp1 := k1.same _ _ rfl hp
          refine ⟨_, rfl, p, dx, _, rfl, hp1, flds_no _ _ (by decide +kernel) (by decide +kernel), _, rfl, D, _, _, _, rfl, rfl, .inl (.inl hD1), rfl, p, d1, d2, bs, t, rfl, hB1, htl, k1.tab _ hT, fun _ G2 g2 => ?_, fun c => by rw [cw] at c; cases c⟩
          have k2 := k1.trans g2
          have hB2 := hB.kp k2
          have hW2 := hW.kp k2
          have hD2 := k2.same _ _ rfl hD
          refine ⟨_, rfl, W, rfl, .inl ⟨_, .inl hW2.wd⟩, _, rfl, D, _, _, _, rfl, rfl, .inl (.inl hD2), rfl, _, DGet.k (k := Sum.inr t) hW2.wd, ?_⟩
          rw [valW]
          have same : (atW es t).map (·.1) = (atW bs t).map (·.1) := by rw [atW_T, atW_T, hes]
          cases eb : atW bs t with
          | none =>
            rw [eb] at same
            cases ee : atW es t with
            | some e => rw [ee] at same; cases same
            | none => exact ⟨_, _, .none, rfl, .non, .non, .non _, fun G3 g3 => ⟨_, rfl, iteFo rfl ⟨rfl, k2.trans g3⟩⟩⟩
          | some b =>
            rw [eb] at same
            cases ee : atW es t with
            | none => rw [ee] at same; cases same
            | some e =>
              rw [ee] at same
              have s1 : e.1 = b.1 := Option.some.inj same
              have te := hW2.tu e (List.mem_of_find?_eq_some ee)
              have tb := hB2.tu b (List.mem_of_find?_eq_some eb)
              rw [s1] at te
              refine ⟨_, _, .tuple [.int b.1.2.1, .int b.1.2.2], rfl, .tup (.inl (.inl tb)) (.cons (.int _) (.cons (.int _) .nil)), .tup (.inl (.inl te)) (.cons (.int _) (.cons (.int _) .nil)), .tup (fun d hd => ?_) (by show 2 ≤ 10000; decide), fun G3 g3 => ⟨_, rfl, iteFo rfl ⟨rfl, k2.trans g3⟩⟩⟩
              simp only [List.mem_cons, List.not_mem_nil, or_false] at hd
              rcases hd with rfl | rfl
              · exact .int _ _
              · exact .int _ _
      rintro σ' G ⟨rfl, kG⟩
      have hDG := kG.same _ _ rfl hD
      have okE : okP a l = (decide (1 ≤ min a l) && decide (max a l ≤ 40)) := by
        unfold okP
        rw [Bool.eq_iff_iff]
        simp only [Bool.and_eq_true, decide_eq_true_eq]
        omega
      refine ⟨fun σ' G' => σ' = [some (.ref p), some (.ref W), some (.ref D), none, none, none, none] ∧ Kp H G' ∧ okP a l = false, ?_, ?_⟩
      · refine ⟨_, rfl, _, rfl, _, rfl, D, _, rfl, .inl (.inl hDG), (fun z => nomatch (show (1 : Nat) = 0 from z.1)), fun p1 n1 => ?_⟩
        generalize h_G1 : upd G p1 _ = G1
        have k_G1 : Kp G G1 := by rw [← h_G1]; exact .new n1
        have q_G1 := (congrFun h_G1 p1).symm.trans upd_same
        clear h_G1
        refine ⟨p1, a, [l], rfl, .inl (.inl q_G1), _, _, rfl, rfl, _, rfl, ?_⟩
        have k1 := kG.trans k_G1
        by_cases c1 : 1 ≤ min a l
        · refine iteTo (decide_eq_true c1) ?_
          have hD1 := k1.same _ _ rfl hD
          refine ⟨_, rfl, _, rfl, _, rfl, D, _, rfl, .inl (.inl hD1), (fun z => nomatch (show (1 : Nat) = 0 from z.1)), fun p2 n2 => ?_⟩
          generalize h_G2 : upd G1 p2 _ = G2
          have k_G2 : Kp G1 G2 := by rw [← h_G2]; exact .new n2
          have q_G2 := (congrFun h_G2 p2).symm.trans upd_same
          clear h_G2
          have k2 := k1.trans k_G2
          refine ⟨p2, a, [l], rfl, .inl (.inl q_G2), _, _, rfl, rfl, _, rfl, ?_⟩
          by_cases c2 : max a l ≤ 40
          · refine iteTo (decide_eq_true c2) ?_
            have hok : okP a l = true := by rw [okE, decide_eq_true c1, decide_eq_true c2]; rfl
            have hW2 := hW.kp k2
            have hD2 := k2.same _ _ rfl hD
            refine ⟨W, _, hW2.wd, trivial, fun od => ?_⟩
            have hDL : upd G2 W (.frz od (.dK (kvW es))) D = some (.tup [.str (nmOf st), .int a, .int l, .str t]) := by rw [upd_ne (ne_of hD2 hW2.wd (by intro z; cases z))]; exact hD2
            refine ⟨_, rfl, W, od, rfl, .inl ⟨kvW es, upd_same, fun D3 hD3 => ?_⟩⟩
            refine lc_it (walk_keys (d := W) (o := od) (kvs := kvW es)) (fun i H' => Kp (upd G2 W (.frz od (.dK (kvW es)))) H' ∧ H' D3 = some (.lst (((es.take i).filter (hereF a l)).map fun e => V.str e.1.1))) ⟨Kp.new hD3, upd_same⟩ (fun i H' _ ⟨kk, _⟩ => kk.same _ _ rfl upd_same) (fun i x H7 H8 hi2 ⟨kk, hl7⟩ ⟨e8, ky, v, hkv, hx⟩ => ?_) (fun H7 ⟨kk, hl7⟩ => ?_)
            · subst e8
              subst hx
              obtain ⟨e, he, rfl, rfl⟩ := kvW_at hkv
              have hil : i < es.length := (List.getElem?_eq_some_iff.mp he).1
              have te : H8 e.2 = some (.tup [.int e.1.2.1, .int e.1.2.2]) := by
                have z := hW2.tu e (List.mem_of_getElem? he)
                exact kk.same _ _ rfl (by rw [upd_ne (ne_of z hW2.wd (by intro z; cases z))]; exact z)
              have d8 := kk.same _ _ rfl hDL
              refine ⟨rfl, ?_⟩
              refine ⟨_, rfl, _, rfl, W, _, rfl, .inl ⟨kvW es, Sum.inr e.1.1, .inr ⟨od, kk.same _ _ rfl upd_same⟩, rfl, (by rw [valW, hO e (List.mem_of_getElem? he)]; rfl)⟩, _, rfl, _, rfl, _, rfl, D, _, rfl, .inl (.inl d8), (fun z => nomatch (show (1 : Nat) = 0 from z.1)), fun u nu => ?_⟩
              generalize h_H9 : upd H8 u _ = H9
              have k_H9 : Kp H8 H9 := by rw [← h_H9]; exact .new nu
              have q_H9 := (congrFun h_H9 u).symm.trans upd_same
              clear h_H9
              have hl9 := k_H9.same _ _ rfl hl7
              have tk : (es.take (i + 1)).filter (hereF a l) = (es.take i).filter (hereF a l) ++ [e].filter (hereF a l) := by rw [List.take_add_one, he, List.filter_append]; rfl
              refine ⟨.tuple [.int e.1.2.1, .int e.1.2.2], .tuple [.int a, .int l], .tup (.inl (.inl (k_H9.same _ _ rfl te))) (.cons (.int _) (.cons (.int _) .nil)), .tup (.inl (.inl q_H9)) (.cons (.int _) (.cons (.int _) .nil)), rfl, rfl, _, rfl, ?_⟩
              have ev : PyData.eqv (.tuple [.int e.1.2.1, .int e.1.2.2]) (.tuple [.int a, .int l]) = hereF a l e := by
                show ((e.1.2.1 == a) && ((e.1.2.2 == l) && true)) = decide (e.1.2.1 = a ∧ e.1.2.2 = l)
                rw [Bool.and_true, Bool.eq_iff_iff]
                simp
              rw [ev]
              refine iteB (fun cf => ?_) (fun cf => ?_)
              · refine ⟨_, rfl, _, hl9, szt (by rw [List.length_map]; have z := List.length_filter_le (hereF a l) (es.take i); rw [List.length_take] at z; omega), (kk.trans k_H9).mut hD3, ?_⟩
                rw [upd_same, tk, List.filter_cons_of_pos cf, List.map_append]
                rfl
              · refine ⟨kk.trans k_H9, ?_⟩
                rw [tk, List.filter_cons_of_neg (by rw [cf]; decide)]
                show H9 D3 = some (.lst ((((es.take i).filter _) ++ []).map _))
                rw [List.append_nil]
                exact hl9
            · have ekl : (kvW es).length = es.length := by unfold kvW; rw [List.length_map]
              rw [ekl, List.take_length, here_list gE, hes] at hl7
              refine ⟨kk.same _ _ rfl upd_same, ?_⟩
              have ku := Kp.unlock hW2.wd rfl kk
              have nDw : D3 ≠ W := fun z => by
                rw [z, upd_same] at hD3
                cases hD3
              have h9 : upd H7 W (.dK (kvW es)) D3 = some (.lst (((plT (bs.map (·.1)) a l).map fun x => V.str x.1).toList)) := by
                rw [upd_ne nDw]
                exact hl7
              generalize upd H7 W (.dK (kvW es)) = H9 at ku h9 ⊢
              have k9 := k2.trans ku
              have hB9 := hB.kp k9
              have hD9 := k9.same _ _ rfl hD
              have hp9 := k9.same _ _ rfl hp
              refine ⟨_, rfl, p, dx, _, rfl, hp9, flds_no _ _ (by decide +kernel) (by decide +kernel), _, rfl, D, _, _, _, rfl, rfl, .inl (.inl hD9), rfl, _, rfl, D, _, _, _, rfl, rfl, .inl (.inl hD9), rfl, p, d1, d2, bs, a, l, rfl, hB9, fun _ Ga ga => ?_, fun c => by rw [hok] at c; cases c⟩
              have ha9 := ga.same _ _ rfl h9
              have eat : (atP bs a l).map (fun b => V.str b.1.1) = (plT (bs.map (·.1)) a l).map fun x => V.str x.1 := by
                rw [← atP_T, Option.map_map]
                rfl
              rw [eat]
              refine ⟨_, rfl, szl (by show 1 ≤ 100000; decide), fun u nu => ?_⟩
              generalize h_Gb : upd Ga u _ = Gb
              have k_Gb : Kp Ga Gb := by rw [← h_Gb]; exact .new nu
              have q_Gb := (congrFun h_Gb u).symm.trans upd_same
              clear h_Gb
              have hb9 := k_Gb.same _ _ rfl ha9
              cases q : plT (bs.map (·.1)) a l with
              | none =>
                rw [q] at hb9
                refine ⟨D3, u, _, _, rfl, rfl, hb9, q_Gb, szl (by show 1 ≤ 100000; decide), fun v nv => ?_⟩
                generalize h_Gc : upd Gb v _ = Gc
                have k_Gc : Kp Gb Gc := by rw [← h_Gc]; exact .new nv
                have q_Gc := (congrFun h_Gc v).symm.trans upd_same
                clear h_Gc
                refine ⟨v, _, _, _, rfl, rfl, .inl (.inl q_Gc), rfl, _, _, .none, rfl, .non, .non, .non _, fun Gd gd => k _ ((((k9.trans ga).trans k_Gb).trans k_Gc).trans gd)⟩
              | some x =>
                rw [q] at hb9
                refine ⟨D3, u, _, _, rfl, rfl, hb9, q_Gb, szl (by show 2 ≤ 100000; decide), fun v nv => ?_⟩
                generalize h_Gc : upd Gb v _ = Gc
                have k_Gc : Kp Gb Gc := by rw [← h_Gc]; exact .new nv
                have q_Gc := (congrFun h_Gc v).symm.trans upd_same
                clear h_Gc
                refine ⟨v, _, _, _, rfl, rfl, .inl (.inl q_Gc), rfl, _, _, .str x.1, rfl, .str _, .str _, .str _ _, fun Gd gd => k _ ((((k9.trans ga).trans k_Gb).trans k_Gc).trans gd)⟩
          · exact iteFo (decide_eq_false c2) ⟨rfl, k2, by rw [okE, decide_eq_false c2, Bool.and_false]⟩
        · refine iteFo (decide_eq_false c1) (iteFo rfl ⟨rfl, k1, by rw [okE, decide_eq_false c1]; rfl⟩)
      rintro σ' G' ⟨rfl, kG', hok⟩
      have hB3 := hB.kp kG'
      have hD3 := kG'.same _ _ rfl hD
      have hp3 := kG'.same _ _ rfl hp
      refine ⟨_, rfl, p, dx, _, rfl, hp3, flds_no _ _ (by decide +kernel) (by decide +kernel), _, rfl, D, _, _, _, rfl, rfl, .inl (.inl hD3), rfl, _, rfl, D, _, _, _, rfl, rfl, .inl (.inl hD3), rfl, p, d1, d2, bs, a, l, rfl, hB3, (fun c => by rw [hok] at c; cases c), fun _ => ?_⟩
      refine ⟨true, kind_mast T 0 (by decide), fun _ e ne => ?_, fun q => Bool.noConfusion q⟩
      refine ⟨_, rfl, 0, rfl, by decide, rfl, rfl, fun H3 k3 => ⟨rfl, _, rfl, k _ (kG'.trans k3)⟩⟩
/-! ### law -/
theorem BookAt.kpE {C : Addr} {H H' : Hp} {p d1 d2 : Addr} {bs : List Ent} {S : List Addr} (b : BookAt C H p d1 d2 bs) (k : KpE S H H') (h0 : p ∉ S) (h1 : d1 ∉ S) (h2 : d2 ∉ S) (h3 : ∀ e ∈ bs, e.2 ∉ S) : BookAt C H' p d1 d2 bs :=
  ⟨let ⟨dx, h⟩ := b.ob; ⟨dx, k.same _ _ rfl h0 h⟩, k.same _ _ rfl h1 b.pl, k.same _ _ rfl h2 b.wd, fun e he => k.same _ _ rfl (h3 e he) (b.tu e he)⟩
theorem DictAt.kpS {H H' : Hp} {d : Addr} {es : List Ent} {S : List Addr} (x : DictAt H d es) (k : KpE S H H') (h1 : d ∉ S) (h2 : ∀ e ∈ es, e.2 ∉ S) : DictAt H' d es :=
  ⟨k.same _ _ rfl h1 x.wd, fun e he => k.same _ _ rfl (h2 e he) (x.tu e he)⟩
theorem IsDeed.kpE {H H' : Hp} {u : Addr} {S : List Addr} (h : IsDeed H u) (k : KpE S H H') (n : u ∉ S) : IsDeed H' u := by
  obtain ⟨st, a, l, t, h, ht⟩ := h
  exact ⟨st, a, l, t, k.same _ _ rfl n h, ht⟩
theorem no1 {H : Hp} {a b : Addr} {o u : HO} (h : H a = some o) (h' : H b = some u) (d : o ≠ u) : a ∉ [b] := fun m => ne_of h h' d (List.mem_singleton.mp m)
theorem no2 {a b c : Addr} (h1 : a ≠ b) (h2 : a ≠ c) : a ∉ [b, c] := fun m => by
  simp only [List.mem_cons, List.not_mem_nil, or_false] at m
  exact m.elim h1 h2
structure Sat (T : Txt K mg) (x d1 d2 x2 e1 e2 S W : Addr) (bs es : List Ent) (n : Nat) (H : Hp) : Prop where
  bk : BookAt T.a_Phrasebook H x d1 d2 bs
  ot : BookAt T.a_Phrasebook H x2 e1 e2 []
  st : H S = some (.dK [(Sum.inr "words", .ref W)])
  di : DictAt H W es
  same : es.map (·.1) = bs.map (·.1)
  good : GoodT (bs.map (·.1))
  len : bs.length ≤ n
theorem Sat.kp {T : Txt K mg} {x d1 d2 x2 e1 e2 S W : Addr} {bs es : List Ent} {n : Nat} {H H' : Hp} (s : Sat T x d1 d2 x2 e1 e2 S W bs es n H) (k : Kp H H') : Sat T x d1 d2 x2 e1 e2 S W bs es n H' :=
  ⟨s.bk.kp k, s.ot.kp k, k.same _ _ rfl s.st, s.di.kp k, s.same, s.good, s.len⟩
theorem words_len (bs : List Ent) : (wordsD bs).length = bs.length := by
  unfold wordsD sortD
  rw [List.length_mergeSort, List.length_map]
def sp_law (K : PySem.W.Frag) (P : Addr) : Sp := fun vs H Q _ => ∃ (a : Addr) (ns : List Int), vs = [.ref a] ∧ SqL K H a (ns.map V.int) ∧ ns.length ≤ 63 ∧ GxR.TabG H P ∧ ∀ H', Q (.bl true) H'
theorem dn_no {n : Nat} (x : Str) : Dn (n + 2) (.tuple [.str "no", .str x]) := by
  refine .tup (fun d hd => ?_) (by show 2 ≤ 10000; decide)
  simp only [List.mem_cons, List.not_mem_nil, or_false] at hd
  rcases hd with rfl | rfl
  · exact .str _ _
  · exact .str _ _
theorem dn_told {n : Nat} : Dn (n + 2) (.tuple [.str "told", .none]) := by
  refine .tup (fun d hd => ?_) (by show 2 ≤ 10000; decide)
  simp only [List.mem_cons, List.not_mem_nil, or_false] at hd
  rcases hd with rfl | rfl
  · exact .str _ _
  · exact .non _
theorem ok_law (T : Txt K mg) (TB : GxR.TabB base mg T.c_tab T.P_tab) {f : Addr} {fd : FuncData} (F : Fun K "law" "law" s_law f fd) : FnOk P w K mg base CX0 12 f fd ["_law_script"] (sp_law K T.P_tab) := by
  refine F.ok sc_law (fun vs H Q E h => ?_) (fun cdv A outer s H vs Q E hr h => ?_)
  · obtain ⟨a, ns, rfl, _⟩ := h
    rfl
  · obtain ⟨a, ns, rfl, hS, hlen, hT, k⟩ := h
    have hu := hu_of hr
    refine ⟨_, (pss_cons (ps_set (i := 1) sc_law.nd rfl (by first | exact Or.inl rfl | exact Or.inr rfl) (pe_make0 T.K_Phrasebook (ok_p_Phrasebook_init T) (hr.mono (by decide)) rfl T.g_Phrasebook T.b_p_Phrasebook_init .nil pass0))
      (pss_cons (ps_set (i := 2) sc_law.nd rfl (by first | exact Or.inl rfl | exact Or.inr rfl) (pe_make0 T.K_Phrasebook (ok_p_Phrasebook_init T) (hr.mono (by decide)) rfl T.g_Phrasebook T.b_p_Phrasebook_init .nil pass0))
      (pss_cons (ps_set (i := 3) sc_law.nd rfl (by first | exact Or.inl rfl | exact Or.inr rfl) (pe_disp (pps_cons pe_str pe_dnewK pps_nil) rfl rfl (by intro z; cases z) (by decide)))
      (pss_cons (ps_for PassesOwn.never rfl (pi_list (pe_call (ok_l_book_deeds T) (hr.mono (by decide)) rfl T.g_l_book_deeds T.F_l_book_deeds.kp T.b_l_book_deeds .nil pass0 (pa_cons (pv 0) (pa_cons pe_int (pa_cons pe_int pa_nil))))) (pg_name (i := 4) sc_law.nd rfl (by first | exact Or.inl rfl | exact Or.inr rfl))
      (pss_cons (ps_set (i := 5) sc_law.nd rfl (by first | exact Or.inl rfl | exact Or.inr rfl) (pe_call (ok_l_word_deed T) (hr.mono (by decide)) rfl T.g_l_word_deed T.F_l_word_deed.kp T.b_l_word_deed .nil pass0 (pa_cons (pv 3) (pa_cons (pv 4) pa_nil))))
      (pss_cons (ps_if (PW.pt (pw_or (pt_not (pt_val (pe_call (ok_l_like T 4) (hr.mono (by decide)) rfl T.g_l_like T.F_l_like.kp T.b_l_like .nil pass0 (pa_cons (pe_call (ok_l_tried T TB) (hr.mono (by decide)) rfl T.g_l_tried T.F_l_tried.kp T.b_l_tried .nil pass0 (pa_cons (pv 1) (pa_cons (pv 4) pa_nil))) (pa_cons (pv 5) pa_nil))))) (pw_or1 (pt_not (pt_val (pe_call (ok_l_right T TB) (hr.mono (by decide)) rfl T.g_l_right T.F_l_right.kp T.b_l_right .nil pass0 (pa_cons (pv 1) (pa_cons (pe_dget hu (pv 3) pe_str (fun _ _ => rfl)) (pa_cons (pv 4) pa_nil)))))))))
      (pss_one (ps_ret pe_bl))
      pss_nil)
      (pss_cons (ps_set (i := 6) sc_law.nd rfl (by first | exact Or.inl rfl | exact Or.inr rfl) (pe_meth0 (pv 1) T.cl_Phrasebook T.M_p_Phrasebook_words (ok_p_Phrasebook_words T) (hr.mono (by decide)) T.b_p_Phrasebook_words .nil pass0))
      (pss_one (ps_expr (pe_bm PySem.F.plainAttrs_list PySem.F.slot_list_append PySem.F.type_list_append mt_append (pv 6) (pa_cons pe_int pa_nil))))))))
      (pss_cons (ps_for PassesOwn.never rfl (pi_list (pe_call (ok_l_book_deeds T) (hr.mono (by decide)) rfl T.g_l_book_deeds T.F_l_book_deeds.kp T.b_l_book_deeds .nil pass0 (pa_cons (pv 0) (pa_cons pe_int (pa_cons pe_int pa_nil))))) (pg_name (i := 4) sc_law.nd rfl (by first | exact Or.inl rfl | exact Or.inr rfl))
      (pss_one (ps_if (pt_not (pt_val (pe_call (ok_l_right T TB) (hr.mono (by decide)) rfl T.g_l_right T.F_l_right.kp T.b_l_right .nil pass0 (pa_cons (pv 1) (pa_cons (pe_dget hu (pv 3) pe_str (fun _ _ => rfl)) (pa_cons (pv 4) pa_nil))))))
      (pss_one (ps_ret pe_bl))
      pss_nil)))
      (pss_one (ps_ret (pe_cmpR (op_eqD hr.units) (pe_meth0 (pv 2) T.cl_Phrasebook T.M_p_Phrasebook_words (ok_p_Phrasebook_words T) (hr.mono (by decide)) T.b_p_Phrasebook_words .nil pass0) (pe_lst pa_nil) (nomark _))))))))), ?_⟩
    intro x dx nx ndx ne
    have k0 : Kp H (upd (upd H dx (.own x)) x (.ins T.a_Phrasebook dx [])) := (Kp.new ndx).trans (.new (by rw [upd_ne ne.symm]; exact nx))
    refine ⟨x, dx, rfl, upd_same, fun d1 d2 H1 f1 f2 B1 e1 => ⟨rfl, ?_⟩⟩
    have k1 : Kp H H1 := kp_made nx ndx ne e1
    have g1 : H d1 = none := k0.free _ f1
    have g2 : H d2 = none := k0.free _ f2
    clear e1
    intro x2 dx2 nx2 ndx2 ne2
    have k20 : Kp H1 (upd (upd H1 dx2 (.own x2)) x2 (.ins T.a_Phrasebook dx2 [])) := (Kp.new ndx2).trans (.new (by rw [upd_ne ne2.symm]; exact nx2))
    refine ⟨x2, dx2, rfl, upd_same, fun e1 e2 H2 h1 h2 B2 e20 => ⟨rfl, ?_⟩⟩
    have k2 : Kp H1 H2 := kp_made nx2 ndx2 ne2 e20
    have n1e : e1 ≠ d1 := fun z => by
      rw [z] at h1
      have q := k20.free _ h1
      rw [B1.pl] at q
      cases q
    have n2e : e2 ≠ d2 := fun z => by
      rw [z] at h2
      have q := k20.free _ h2
      rw [B1.wd] at q
      cases q
    clear e20
    have B12 := B1.kp k2
    intro S nS
    intro W nW
    have nWS : W ≠ S := fun z => by
      rw [z, upd_same] at nW
      cases nW
    have nW2 : H2 W = none := by
      rw [upd_ne nWS] at nW
      exact nW
    refine ⟨by rw [upd_ne nWS.symm]; exact upd_same, [(Sum.inr "words", .ref W)], rfl, (by show 1 ≤ 15; decide), ?_⟩
    have kG : Kp H2 (upd (upd (upd H2 S (.dK [])) W (.dK [])) S (.dK (mergeK [] [(Sum.inr "words", .ref W)]))) := ((Kp.new nS).mut nW2).mut nS
    have sG : upd (upd (upd H2 S (.dK [])) W (.dK [])) S (.dK (mergeK [] [(Sum.inr "words", .ref W)])) S = some (.dK [(Sum.inr "words", .ref W)]) := upd_same
    have wG : upd (upd (upd H2 S (.dK [])) W (.dK [])) S (.dK (mergeK [] [(Sum.inr "words", .ref W)])) W = some (.dK []) := by rw [upd_ne nWS, upd_same]
    generalize upd (upd (upd H2 S (.dK [])) W (.dK [])) S (.dK (mergeK [] [(Sum.inr "words", .ref W)])) = G0 at kG sG wG ⊢
    have nd2W : d2 ≠ W := ne_of_none B12.wd nW2
    have ne2W : e2 ≠ W := ne_of_none B2.wd nW2
    have nd2S : d2 ≠ S := ne_of_none B12.wd nS
    have k3 : Kp H G0 := (k1.trans k2).trans kG
    have fx : H x = none := nx
    have fW : H W = none := k1.free _ (k2.free _ nW2)
    have S0 : Sat T x d1 d2 x2 e1 e2 S W [] [] 0 G0 := ⟨B12.kp kG, B2.kp kG, sG, ⟨wG, by simp⟩, rfl, ⟨by simp, by simp, by simp⟩, Nat.le_refl _⟩
    have noW : ∀ {G : Hp} {bs es : List Ent} {n : Nat}, Sat T x d1 d2 x2 e1 e2 S W bs es n G → ∀ {G' : Hp} {es2 : List Ent}, KpE [W] G G' → DictAt G' W es2 → BookAt T.a_Phrasebook G' x d1 d2 bs ∧ BookAt T.a_Phrasebook G' x2 e1 e2 [] ∧ G' S = some (.dK [(Sum.inr "words", .ref W)]) := fun {G bs es n} s {G' es2} kk _ => by
      obtain ⟨dxx, hx⟩ := s.bk.ob
      obtain ⟨dxy, hy⟩ := s.ot.ob
      have hw := s.di.wd
      exact ⟨s.bk.kpE kk (no1 hx hw (by intro z; cases z)) (no1 s.bk.pl hw (by intro z; cases z)) (fun m => nd2W (List.mem_singleton.mp m)) fun e he => no1 (s.bk.tu e he) hw (by intro z; cases z),
        s.ot.kpE kk (no1 hy hw (by intro z; cases z)) (no1 s.ot.pl hw (by intro z; cases z)) (fun m => ne2W (List.mem_singleton.mp m)) (by simp), kk.same _ _ rfl (fun m => nWS (List.mem_singleton.mp m).symm) s.st⟩
    refine ⟨_, rfl, a, ns, 0, 48, rfl, k3.sqL hS, by decide, by decide, fun r us Hd nr kd qd hul hus => ?_⟩
    have Sd := S0.kp kd
    refine ⟨r, rfl, ⟨_, .inl (.inl qd)⟩, for_list (K := K) (a := r) (xs := us.map V.ref) (fun i σ H' => ∃ (bs es : List Ent) (y4 y5 y6 : Option V), σ = [some (.ref a), some (.ref x), some (.ref x2), some (.ref S), y4, y5, y6] ∧ Kp H H' ∧ Sat T x d1 d2 x2 e1 e2 S W bs es i H' ∧ H' r = some (.lst (us.map V.ref)) ∧ ∀ u ∈ us, IsDeed H' u)
      ⟨[], [], none, none, none, rfl, k3.trans kd, Sd, qd, hus⟩ (fun i σ H' _ ⟨_, _, _, _, _, _, _, _, h, _⟩ => .inl (.inl h)) ?_ ?_⟩
    · rintro i v σ H' hi ⟨bs, es, y4, y5, y6, rfl, kp, ss, hr', hus'⟩
      have hil : i < 48 := by
        have z := (List.getElem?_eq_some_iff.mp hi).1
        rw [List.length_map, hul] at z
        exact z
      obtain ⟨u, hu', rfl⟩ := List.mem_map.mp (List.mem_of_getElem? hi)
      obtain ⟨st, da, dl, dt, hD, hdt⟩ := hus' u hu'
      have hbl := ss.len
      have hel : es.length = bs.length := by
        have z := congrArg List.length ss.same
        rw [List.length_map, List.length_map] at z
        exact z
      have gE : GoodT (es.map (·.1)) := by rw [ss.same]; exact ss.good
      -- what stands behind the trying
      refine ⟨_, rfl, _, rfl, S, W, u, es, st, da, dl, dt, rfl, ss.st, nWS.symm, ss.di, hD, by omega, hdt, gE, fun j ev r2 H2 nr2 k2 q2 => ?_, fun ev r2 H2 es2 nr2 k2 W2 ee2 len2 q2 => ?_⟩
      · have s2 := ss.kp k2
        have hD2 := k2.same _ _ rfl hD
        have ev' : deedV (bs.map (·.1)) st da dl dt = some j := by rw [← ss.same]; exact ev
        refine ⟨_, rfl, _, rfl, x, d1, d2, u, bs, st, da, dl, dt, rfl, s2.bk, hD2, by omega, hdt, s2.good, (kp.trans k2).tab _ hT, fun j' ev2 r3 H3 nr3 k3' q3 => ?_, fun ev2 => by rw [ev'] at ev2; cases ev2⟩
        rw [ev'] at ev2
        cases ev2
        have s3 := s2.kp k3'
        have q23 := k3'.same _ _ rfl q2
        refine ⟨_, rfl, _, _, .tuple [.str "no", .str (kindN j)], rfl, .tup (.inl (.inl q3)) (.cons (.str _) (.cons (.str _) .nil)), .tup (.inl (.inl q23)) (.cons (.str _) (.cons (.str _) .nil)), dn_no _, fun H4 k4 => ⟨_, rfl, iteFo rfl ?_⟩⟩
        have s4 := s3.kp k4
        have kp4 := (k2.trans k3').trans k4
        have hD4 := kp4.same _ _ rfl hD
        refine ⟨_, rfl, _, rfl, S, .ref W, rfl, DGet.k (k := Sum.inr "words") s4.st, _, rfl, x, d1, d2, W, u, bs, es, st, da, dl, dt, rfl, s4.bk, s4.di, hD4, s4.same, s4.good, by omega, hdt, (kp.trans kp4).tab _ hT, fun H5 k5 => ⟨_, rfl, iteFo rfl ?_⟩⟩
        have s5 := s4.kp k5
        obtain ⟨dxx, hx5⟩ := s5.bk.ob
        refine ⟨_, rfl, x, dxx, _, rfl, hx5, flds_no _ _ (by decide +kernel) (by decide +kernel), x, d1, d2, bs, rfl, s5.bk, by omega, fun r6 ys6 H6 nr6 k6 q6 dp6 => ?_⟩
        have kall := (kp4.trans k5).trans k6
        refine ⟨_, rfl, .inl ⟨rfl, _, SqL.of q6⟩, r6, _, _, rfl, rfl, q6, ?_, ?_⟩
        · have z := DpAll.len dp6
          rw [words_len] at z
          exact szt (by omega)
        · have kz := (kp4.trans k5).trans (k6.mut (o := .lst (ys6 ++ [.int 0])) nr6)
          have sz := ss.kp kz
          exact ⟨bs, es, _, _, _, rfl, kp.trans kz, ⟨sz.bk, sz.ot, sz.st, sz.di, sz.same, sz.good, by omega⟩, kz.same _ _ rfl hr', fun u hu => (hus' u hu).kp kz⟩
      · have hw := ss.di.wd
        obtain ⟨bk2, ot2, st2⟩ := noW ss k2 W2
        have hD2 := k2.same _ _ rfl (no1 hD hw (by intro z; cases z)) hD
        have kpH2 : Kp H H2 := KpE.kp kp k2 (fun b hb => by rw [List.mem_singleton.mp hb]; exact fW)
        have ev' : deedV (bs.map (·.1)) st da dl dt = none := by rw [← ss.same]; exact ev
        refine ⟨_, rfl, _, rfl, x, d1, d2, u, bs, st, da, dl, dt, rfl, bk2, hD2, by omega, hdt, ss.good, kpH2.tab _ hT, (fun j ev2 => by rw [ev'] at ev2; cases ev2), fun ev2 r3 H3 bs2 nr3 k3' bk3 eb2 lb2 q3 => ?_⟩
        have kpH3 : Kp H H3 := KpE.kp kpH2 k3' (fun b hb => by
          simp only [List.mem_cons, List.not_mem_nil, or_false] at hb
          rcases hb with rfl | rfl
          · exact g1
          · exact g2)
        have tupN : ∀ {z : Addr} {vs : List V}, H2 z = some (.tup vs) → z ∉ [d1, d2] := fun {z vs} hz => no2 (ne_of hz bk2.pl (by intro z; cases z)) (ne_of hz bk2.wd (by intro z; cases z))
        have q23 := k3'.same _ _ rfl (tupN q2) q2
        have hD3 := k3'.same _ _ rfl (tupN hD2) hD2
        have di3 : DictAt H3 W es2 := W2.kpS k3' (no2 (ne_of W2.wd bk2.pl (by intro z; cases z)) nd2W.symm) fun e he => tupN (W2.tu e he)
        have st3 := k3'.same _ _ rfl (no2 (ne_of st2 bk2.pl (by intro z; cases z)) nd2S.symm) st2
        obtain ⟨dxy, hy⟩ := ot2.ob
        have ot3 : BookAt T.a_Phrasebook H3 x2 e1 e2 [] := ot2.kpE k3' (no2 (ne_of hy bk2.pl (by intro z; cases z)) (ne_of hy bk2.wd (by intro z; cases z))) (no2 n1e (ne_of ot2.pl bk2.wd (by intro z; cases z))) (no2 (ne_of ot2.wd bk2.pl (by intro z; cases z)) n2e) (by simp)
        have hr2 := k2.same _ _ rfl (no1 hr' hw (by intro z; cases z)) hr'
        have hr3 := k3'.same _ _ rfl (no2 (ne_of hr2 bk2.pl (by intro z; cases z)) (ne_of hr2 bk2.wd (by intro z; cases z))) hr2
        have hus3 : ∀ u ∈ us, IsDeed H3 u := fun u hu => by
          obtain ⟨st', a', l', t', h', ht'⟩ := hus' u hu
          have q1 := k2.same _ _ rfl (no1 h' hw (by intro z; cases z)) h'
          exact ⟨st', a', l', t', k3'.same _ _ rfl (tupN q1) q1, ht'⟩
        have s3 : Sat T x d1 d2 x2 e1 e2 S W bs2 es2 (i + 1) H3 := ⟨bk3, ot3, st3, di3, by rw [ee2, eb2, ss.same], by rw [eb2]; exact ss.good.step ev', by omega⟩
        have hbl2 := s3.len
        refine ⟨_, rfl, _, _, .tuple [.str "told", .none], rfl, .tup (.inl (.inl q3)) (.cons (.str _) (.cons .non .nil)), .tup (.inl (.inl q23)) (.cons (.str _) (.cons .non .nil)), dn_told, fun H4 k4 => ⟨_, rfl, iteFo rfl ?_⟩⟩
        have s4 := s3.kp k4
        have hD4 := k4.same _ _ rfl hD3
        refine ⟨_, rfl, _, rfl, S, .ref W, rfl, DGet.k (k := Sum.inr "words") s4.st, _, rfl, x, d1, d2, W, u, bs2, es2, st, da, dl, dt, rfl, s4.bk, s4.di, hD4, s4.same, s4.good, by omega, hdt, (kpH3.trans k4).tab _ hT, fun H5 k5 => ⟨_, rfl, iteFo rfl ?_⟩⟩
        have s5 := s4.kp k5
        obtain ⟨dxx, hx5⟩ := s5.bk.ob
        refine ⟨_, rfl, x, dxx, _, rfl, hx5, flds_no _ _ (by decide +kernel) (by decide +kernel), x, d1, d2, bs2, rfl, s5.bk, by omega, fun r6 ys6 H6 nr6 k6 q6 dp6 => ?_⟩
        refine ⟨_, rfl, .inl ⟨rfl, _, SqL.of q6⟩, r6, _, _, rfl, rfl, q6, ?_, ?_⟩
        · have z := DpAll.len dp6
          rw [words_len] at z
          exact szt (by omega)
        · have kz := (k4.trans k5).trans (k6.mut (o := .lst (ys6 ++ [.int 0])) nr6)
          have sz := s3.kp kz
          exact ⟨bs2, es2, _, _, _, rfl, kpH3.trans kz, sz, kz.same _ _ rfl hr3, fun u hu => (hus3 u hu).kp kz⟩
    · rintro σ H' ⟨bs, es, y4, y5, y6, rfl, kp, ss, hr', hus'⟩
      have hbl := ss.len
      rw [List.length_map, hul] at hbl
      refine ⟨_, rfl, a, ns, 0, 6, rfl, kp.sqL hS, by decide, by decide, fun r9 us9 H9 nr9 k9 q9 hul9 hus9 => ?_⟩
      refine ⟨r9, rfl, ⟨_, .inl (.inl q9)⟩, for_list (K := K) (a := r9) (xs := us9.map V.ref) (fun i σ G => ∃ y4 : Option V, σ = [some (.ref a), some (.ref x), some (.ref x2), some (.ref S), y4, y5, y6] ∧ Kp H9 G)
        ⟨_, rfl, .refl _⟩ (fun i σ G _ ⟨_, _, kg⟩ => .inl (.inl (kg.same _ _ rfl q9))) ?_ ?_⟩
      · rintro i v σ G hi ⟨z4, rfl, kg⟩
        obtain ⟨u, hu', rfl⟩ := List.mem_map.mp (List.mem_of_getElem? hi)
        have kG9 := k9.trans kg
        obtain ⟨st, da, dl, dt, hD, hdt⟩ := (hus9 u hu').kp kg
        have sg := ss.kp kG9
        refine ⟨_, rfl, _, rfl, S, .ref W, rfl, DGet.k (k := Sum.inr "words") sg.st, _, rfl, x, d1, d2, W, u, bs, es, st, da, dl, dt, rfl, sg.bk, sg.di, hD, sg.same, sg.good, by omega, hdt, (kp.trans kG9).tab _ hT, fun G5 k5 => ⟨_, rfl, iteFo rfl ?_⟩⟩
        exact ⟨_, rfl, kg.trans k5⟩
      · rintro σ G ⟨z4, rfl, kg⟩
        have sg := ss.kp (k9.trans kg)
        obtain ⟨dxy, hy⟩ := sg.ot.ob
        refine ⟨_, rfl, x2, dxy, _, rfl, hy, flds_no _ _ (by decide +kernel) (by decide +kernel), x2, e1, e2, [], rfl, sg.ot, by decide, fun r6 ys6 H6 nr6 k6 q6 dp6 => ?_⟩
        have e0 : ys6 = [] := by
          have z := DpAll.len dp6
          rw [words_len] at z
          exact List.length_eq_zero_iff.mp z
        subst e0
        refine ⟨Nat.zero_le _, fun r7 nr7 => ?_⟩
        generalize h_Gz : upd H6 r7 _ = Gz
        have k_Gz : Kp H6 Gz := by rw [← h_Gz]; exact .new nr7
        have q_Gz := (congrFun h_Gz r7).symm.trans upd_same
        clear h_Gz
        exact ⟨.list [], .list [], .lst (.inl (.inl (k_Gz.same _ _ rfl q6))) .nil, .lst (.inl (.inl q_Gz)) .nil, rfl, rfl, k _⟩
end
theorem all_mk {l : PySem.W.OpenLaw} {w : World} {K : PySem.W.Frag} {h : Heap} {mg : Str → Option Value} {fa : Addr} (X : K.In h) (G : h.Ns mainGlobals mg) (hfa : mg "law" = some (.ref fa)) (own : ∀ y ∈ (["is_word"] : List Str), ∀ f, mg y = some (.ref f) → LamX.OwnTab K f h)
    {C_MastError : Addr}
    {C_BadPlace : Addr}
    {C_BadWord : Addr}
    {C_Taken : Addr}
    {C_Known : Addr}
    {C_NoWord : Addr}
    {C_Phrasebook : Addr}
    {f1 : Addr} {od1 an1 : Option Addr} {sl1 : Array (Option Value)} {oc1 kV1 dc1 pm1 ct1 : Value}
    {c_tab P_tab : Addr} {dd_tab : Option Addr} {vs_tab : Array Value} {sl_tab : Array (Option Value)} {fl_tab : Str} {tf_tab tg_tab tt_tab : Tok} {fg_tab tx_tab : Int} {b_tab : Bool}
    {f2 : Addr} {od2 an2 : Option Addr} {sl2 : Array (Option Value)} {oc2 kV2 dc2 pm2 cd2 ct2 : Value}
    {f3 : Addr} {od3 an3 : Option Addr} {sl3 : Array (Option Value)} {oc3 kV3 dc3 pm3 cd3 ct3 : Value}
    {f4 : Addr} {od4 an4 : Option Addr} {sl4 : Array (Option Value)} {oc4 kV4 dc4 pm4 cd4 ct4 : Value}
    {f5 : Addr} {od5 an5 : Option Addr} {sl5 : Array (Option Value)} {oc5 kV5 dc5 pm5 cd5 ct5 : Value}
    {f6 : Addr} {od6 an6 : Option Addr} {sl6 : Array (Option Value)} {oc6 kV6 dc6 pm6 cd6 ct6 : Value}
    {f7 : Addr} {od7 an7 : Option Addr} {sl7 : Array (Option Value)} {oc7 kV7 dc7 pm7 cd7 ct7 : Value}
    {f8 : Addr} {od8 an8 : Option Addr} {sl8 : Array (Option Value)} {oc8 kV8 dc8 pm8 cd8 ct8 : Value}
    {f9 : Addr} {od9 an9 : Option Addr} {sl9 : Array (Option Value)} {oc9 kV9 dc9 pm9 cd9 ct9 : Value}
    {f10 : Addr} {od10 an10 : Option Addr} {sl10 : Array (Option Value)} {oc10 kV10 dc10 pm10 cd10 ct10 : Value}
    {f11 : Addr} {od11 an11 : Option Addr} {sl11 : Array (Option Value)} {oc11 kV11 dc11 pm11 cd11 ct11 : Value}
    {f12 : Addr} {od12 an12 : Option Addr} {sl12 : Array (Option Value)} {oc12 kV12 dc12 pm12 cd12 ct12 : Value}
    {f13 : Addr} {od13 an13 : Option Addr} {sl13 : Array (Option Value)} {oc13 kV13 dc13 pm13 cd13 ct13 : Value}
    {f14 : Addr} {od14 an14 : Option Addr} {sl14 : Array (Option Value)} {oc14 kV14 dc14 pm14 cd14 ct14 : Value}
    {f15 : Addr} {od15 an15 : Option Addr} {sl15 : Array (Option Value)} {oc15 kV15 dc15 pm15 cd15 ct15 : Value}
    {f16 : Addr} {od16 an16 : Option Addr} {sl16 : Array (Option Value)} {oc16 kV16 dc16 pm16 cd16 ct16 : Value}
    {f17 : Addr} {od17 an17 : Option Addr} {sl17 : Array (Option Value)} {oc17 kV17 dc17 pm17 cd17 ct17 : Value}
    {f18 : Addr} {od18 an18 : Option Addr} {sl18 : Array (Option Value)} {oc18 kV18 dc18 pm18 cd18 ct18 : Value}
    {f19 : Addr} {od19 an19 : Option Addr} {sl19 : Array (Option Value)} {oc19 kV19 dc19 pm19 cd19 ct19 : Value}
    {f20 : Addr} {od20 an20 : Option Addr} {sl20 : Array (Option Value)} {oc20 kV20 dc20 pm20 cd20 ct20 : Value}
    {tk_LETTERS : Tok}
    {tk_LAST_PAGE : Tok}
    {tk_LONGEST_WORD : Tok}
    (e_MastError : PySem.W.nsIn K mainGlobals "MastError" = some (some (.ref C_MastError)))
    (x_MastError : PySem.W.excIn K C_MastError [.type "ValueError", .type "Exception", .type "BaseException", .type "object"] "ValueError.__new__" = true)
    (k_MastError : PySem.W.keepIn K (.ref C_MastError) = true)
    (b_MastError : PySem.W.subIn K (.ref C_MastError) (.type "BaseException") = some true)
    (t_MastError : PySem.W.typeIn K (.ref C_MastError) = some (.type "type"))
    (i_MastError : PySem.W.isClsIn K C_MastError = true)
    (h_MastError : PySem.W.hasDictIn K C_MastError = true)
    (ga_MastError : PySem.W.findIn K (.ref C_MastError) "__getattribute__" = some (some (.builtin "BaseException.__getattribute__")))
    (gg_MastError : PySem.W.findIn K (.ref C_MastError) "__getattr__" = some none)
    (cl_MastError : PySem.W.findIn K (.ref C_MastError) "__class__" = some (some (.builtin "object.__class__")))
    (mo_MastError : PySem.W.mroIn K C_MastError (.type "object") = some true)
    (v_MastError : PySem.W.subIn K (.ref C_MastError) (.type "ValueError") = some true)
    (e_BadPlace : PySem.W.nsIn K mainGlobals "BadPlace" = some (some (.ref C_BadPlace)))
    (x_BadPlace : PySem.W.excIn K C_BadPlace [.type "ValueError", .type "Exception", .type "BaseException", .type "object"] "ValueError.__new__" = true)
    (k_BadPlace : PySem.W.keepIn K (.ref C_BadPlace) = true)
    (b_BadPlace : PySem.W.subIn K (.ref C_BadPlace) (.type "BaseException") = some true)
    (t_BadPlace : PySem.W.typeIn K (.ref C_BadPlace) = some (.type "type"))
    (i_BadPlace : PySem.W.isClsIn K C_BadPlace = true)
    (h_BadPlace : PySem.W.hasDictIn K C_BadPlace = true)
    (ga_BadPlace : PySem.W.findIn K (.ref C_BadPlace) "__getattribute__" = some (some (.builtin "BaseException.__getattribute__")))
    (gg_BadPlace : PySem.W.findIn K (.ref C_BadPlace) "__getattr__" = some none)
    (cl_BadPlace : PySem.W.findIn K (.ref C_BadPlace) "__class__" = some (some (.builtin "object.__class__")))
    (mo_BadPlace : PySem.W.mroIn K C_BadPlace (.type "object") = some true)
    (v_BadPlace : PySem.W.subIn K (.ref C_BadPlace) (.type "ValueError") = some true)
    (e_BadWord : PySem.W.nsIn K mainGlobals "BadWord" = some (some (.ref C_BadWord)))
    (x_BadWord : PySem.W.excIn K C_BadWord [.type "ValueError", .type "Exception", .type "BaseException", .type "object"] "ValueError.__new__" = true)
    (k_BadWord : PySem.W.keepIn K (.ref C_BadWord) = true)
    (b_BadWord : PySem.W.subIn K (.ref C_BadWord) (.type "BaseException") = some true)
    (t_BadWord : PySem.W.typeIn K (.ref C_BadWord) = some (.type "type"))
    (i_BadWord : PySem.W.isClsIn K C_BadWord = true)
    (h_BadWord : PySem.W.hasDictIn K C_BadWord = true)
    (ga_BadWord : PySem.W.findIn K (.ref C_BadWord) "__getattribute__" = some (some (.builtin "BaseException.__getattribute__")))
    (gg_BadWord : PySem.W.findIn K (.ref C_BadWord) "__getattr__" = some none)
    (cl_BadWord : PySem.W.findIn K (.ref C_BadWord) "__class__" = some (some (.builtin "object.__class__")))
    (mo_BadWord : PySem.W.mroIn K C_BadWord (.type "object") = some true)
    (v_BadWord : PySem.W.subIn K (.ref C_BadWord) (.type "ValueError") = some true)
    (e_Taken : PySem.W.nsIn K mainGlobals "Taken" = some (some (.ref C_Taken)))
    (x_Taken : PySem.W.excIn K C_Taken [.type "ValueError", .type "Exception", .type "BaseException", .type "object"] "ValueError.__new__" = true)
    (k_Taken : PySem.W.keepIn K (.ref C_Taken) = true)
    (b_Taken : PySem.W.subIn K (.ref C_Taken) (.type "BaseException") = some true)
    (t_Taken : PySem.W.typeIn K (.ref C_Taken) = some (.type "type"))
    (i_Taken : PySem.W.isClsIn K C_Taken = true)
    (h_Taken : PySem.W.hasDictIn K C_Taken = true)
    (ga_Taken : PySem.W.findIn K (.ref C_Taken) "__getattribute__" = some (some (.builtin "BaseException.__getattribute__")))
    (gg_Taken : PySem.W.findIn K (.ref C_Taken) "__getattr__" = some none)
    (cl_Taken : PySem.W.findIn K (.ref C_Taken) "__class__" = some (some (.builtin "object.__class__")))
    (mo_Taken : PySem.W.mroIn K C_Taken (.type "object") = some true)
    (v_Taken : PySem.W.subIn K (.ref C_Taken) (.type "ValueError") = some true)
    (e_Known : PySem.W.nsIn K mainGlobals "Known" = some (some (.ref C_Known)))
    (x_Known : PySem.W.excIn K C_Known [.type "ValueError", .type "Exception", .type "BaseException", .type "object"] "ValueError.__new__" = true)
    (k_Known : PySem.W.keepIn K (.ref C_Known) = true)
    (b_Known : PySem.W.subIn K (.ref C_Known) (.type "BaseException") = some true)
    (t_Known : PySem.W.typeIn K (.ref C_Known) = some (.type "type"))
    (i_Known : PySem.W.isClsIn K C_Known = true)
    (h_Known : PySem.W.hasDictIn K C_Known = true)
    (ga_Known : PySem.W.findIn K (.ref C_Known) "__getattribute__" = some (some (.builtin "BaseException.__getattribute__")))
    (gg_Known : PySem.W.findIn K (.ref C_Known) "__getattr__" = some none)
    (cl_Known : PySem.W.findIn K (.ref C_Known) "__class__" = some (some (.builtin "object.__class__")))
    (mo_Known : PySem.W.mroIn K C_Known (.type "object") = some true)
    (v_Known : PySem.W.subIn K (.ref C_Known) (.type "ValueError") = some true)
    (e_NoWord : PySem.W.nsIn K mainGlobals "NoWord" = some (some (.ref C_NoWord)))
    (x_NoWord : PySem.W.excIn K C_NoWord [.type "ValueError", .type "Exception", .type "BaseException", .type "object"] "ValueError.__new__" = true)
    (k_NoWord : PySem.W.keepIn K (.ref C_NoWord) = true)
    (b_NoWord : PySem.W.subIn K (.ref C_NoWord) (.type "BaseException") = some true)
    (t_NoWord : PySem.W.typeIn K (.ref C_NoWord) = some (.type "type"))
    (i_NoWord : PySem.W.isClsIn K C_NoWord = true)
    (h_NoWord : PySem.W.hasDictIn K C_NoWord = true)
    (ga_NoWord : PySem.W.findIn K (.ref C_NoWord) "__getattribute__" = some (some (.builtin "BaseException.__getattribute__")))
    (gg_NoWord : PySem.W.findIn K (.ref C_NoWord) "__getattr__" = some none)
    (cl_NoWord : PySem.W.findIn K (.ref C_NoWord) "__class__" = some (some (.builtin "object.__class__")))
    (mo_NoWord : PySem.W.mroIn K C_NoWord (.type "object") = some true)
    (v_NoWord : PySem.W.subIn K (.ref C_NoWord) (.type "ValueError") = some true)
    (s_MastError_MastError : PySem.W.subIn K (.ref C_MastError) (.ref C_MastError) = some true)
    (s_BadPlace_MastError : PySem.W.subIn K (.ref C_BadPlace) (.ref C_MastError) = some true)
    (s_BadPlace_BadPlace : PySem.W.subIn K (.ref C_BadPlace) (.ref C_BadPlace) = some true)
    (s_BadPlace_BadWord : PySem.W.subIn K (.ref C_BadPlace) (.ref C_BadWord) = some false)
    (s_BadPlace_Taken : PySem.W.subIn K (.ref C_BadPlace) (.ref C_Taken) = some false)
    (s_BadPlace_Known : PySem.W.subIn K (.ref C_BadPlace) (.ref C_Known) = some false)
    (s_BadPlace_NoWord : PySem.W.subIn K (.ref C_BadPlace) (.ref C_NoWord) = some false)
    (s_BadWord_MastError : PySem.W.subIn K (.ref C_BadWord) (.ref C_MastError) = some true)
    (s_BadWord_BadPlace : PySem.W.subIn K (.ref C_BadWord) (.ref C_BadPlace) = some false)
    (s_BadWord_BadWord : PySem.W.subIn K (.ref C_BadWord) (.ref C_BadWord) = some true)
    (s_BadWord_Taken : PySem.W.subIn K (.ref C_BadWord) (.ref C_Taken) = some false)
    (s_BadWord_Known : PySem.W.subIn K (.ref C_BadWord) (.ref C_Known) = some false)
    (s_BadWord_NoWord : PySem.W.subIn K (.ref C_BadWord) (.ref C_NoWord) = some false)
    (s_Taken_MastError : PySem.W.subIn K (.ref C_Taken) (.ref C_MastError) = some true)
    (s_Taken_BadPlace : PySem.W.subIn K (.ref C_Taken) (.ref C_BadPlace) = some false)
    (s_Taken_BadWord : PySem.W.subIn K (.ref C_Taken) (.ref C_BadWord) = some false)
    (s_Taken_Taken : PySem.W.subIn K (.ref C_Taken) (.ref C_Taken) = some true)
    (s_Taken_Known : PySem.W.subIn K (.ref C_Taken) (.ref C_Known) = some false)
    (s_Taken_NoWord : PySem.W.subIn K (.ref C_Taken) (.ref C_NoWord) = some false)
    (s_Known_MastError : PySem.W.subIn K (.ref C_Known) (.ref C_MastError) = some true)
    (s_Known_BadPlace : PySem.W.subIn K (.ref C_Known) (.ref C_BadPlace) = some false)
    (s_Known_BadWord : PySem.W.subIn K (.ref C_Known) (.ref C_BadWord) = some false)
    (s_Known_Taken : PySem.W.subIn K (.ref C_Known) (.ref C_Taken) = some false)
    (s_Known_Known : PySem.W.subIn K (.ref C_Known) (.ref C_Known) = some true)
    (s_Known_NoWord : PySem.W.subIn K (.ref C_Known) (.ref C_NoWord) = some false)
    (s_NoWord_MastError : PySem.W.subIn K (.ref C_NoWord) (.ref C_MastError) = some true)
    (s_NoWord_BadPlace : PySem.W.subIn K (.ref C_NoWord) (.ref C_BadPlace) = some false)
    (s_NoWord_BadWord : PySem.W.subIn K (.ref C_NoWord) (.ref C_BadWord) = some false)
    (s_NoWord_Taken : PySem.W.subIn K (.ref C_NoWord) (.ref C_Taken) = some false)
    (s_NoWord_Known : PySem.W.subIn K (.ref C_NoWord) (.ref C_Known) = some false)
    (s_NoWord_NoWord : PySem.W.subIn K (.ref C_NoWord) (.ref C_NoWord) = some true)
    (e_Phrasebook : PySem.W.nsIn K mainGlobals "Phrasebook" = some (some (.ref C_Phrasebook)))
    (pg_Phrasebook : PySem.W.plainGet K C_Phrasebook Str.empty = true)
    (hd_Phrasebook : PySem.W.hasDictIn K C_Phrasebook = true)
    (po_Phrasebook : PySem.W.plainOver K C_Phrasebook = true)
    (sa_Phrasebook : PySem.W.findIn K (.ref C_Phrasebook) "__setattr__" = some (some (.builtin "object.__setattr__")))
    (mk_Phrasebook : PySem.W.makesIn K C_Phrasebook = true)
    (kc_Phrasebook : PySem.W.keepIn K (.ref C_Phrasebook) = true)
    (n_Phrasebook_word_by_place : PySem.W.findIn K (.ref C_Phrasebook) "word_by_place" = some none)
    (n_Phrasebook_place_by_word : PySem.W.findIn K (.ref C_Phrasebook) "place_by_word" = some none)
    (a1 : PySem.W.nsIn K mainGlobals "is_word" = some (some (.ref f1)))
    (l1 : K.lookup f1 = some ⟨oc1, od1, .func (PySem.W.fnOf "is_word" "is_word" (defArgs s_p_is_word) (defBody s_p_is_word) (defScope s_p_is_word) .none kV1 dc1 pm1 an1 (.ref c_tab) ct1), sl1⟩)
    (c1 : PySem.W.codeIn K (.ref c_tab) "is_word" = true)
    (y_l : K.lookup c_tab = some ⟨.type "code", dd_tab, .fields vs_tab, sl_tab⟩)
    (y_11 : vs_tab[11]? = some (.ref P_tab))
    (y_18 : vs_tab.getD 18 .none = .str fl_tab tf_tab)
    (y_7 : vs_tab.getD 7 .none = .int fg_tab tg_tab)
    (y_9 : vs_tab.getD 9 .none = .bool b_tab)
    (y_10 : vs_tab.getD 10 .none = .int tx_tab tt_tab)
    (y_ne : c_tab ≠ P_tab)
    (y_P : K.lookup P_tab = none)
    (k1 : PySem.W.keepIn K (.ref f1) = true)
    (a2 : PySem.W.nsIn K mainGlobals "check_word" = some (some (.ref f2)))
    (l2 : K.lookup f2 = some ⟨oc2, od2, .func (PySem.W.fnOf "check_word" "check_word" (defArgs s_p_check_word) (defBody s_p_check_word) (defScope s_p_check_word) .none kV2 dc2 pm2 an2 cd2 ct2), sl2⟩)
    (c2 : PySem.W.codeIn K cd2 "check_word" = true)
    (k2 : PySem.W.keepIn K (.ref f2) = true)
    (a3 : PySem.W.nsIn K mainGlobals "check_place" = some (some (.ref f3)))
    (l3 : K.lookup f3 = some ⟨oc3, od3, .func (PySem.W.fnOf "check_place" "check_place" (defArgs s_p_check_place) (defBody s_p_check_place) (defScope s_p_check_place) .none kV3 dc3 pm3 an3 cd3 ct3), sl3⟩)
    (c3 : PySem.W.codeIn K cd3 "check_place" = true)
    (k3 : PySem.W.keepIn K (.ref f3) = true)
    (a4 : PySem.W.findIn K (.ref C_Phrasebook) "__init__" = some (some (.ref f4)))
    (i4 : PySem.W.isFn K (.ref f4) = true)
    (l4 : K.lookup f4 = some ⟨oc4, od4, .func (PySem.W.fnOf "__init__" "Phrasebook.__init__" (defArgs s_p_Phrasebook_init) (defBody s_p_Phrasebook_init) (defScope s_p_Phrasebook_init) .none kV4 dc4 pm4 an4 cd4 ct4), sl4⟩)
    (c4 : PySem.W.codeIn K cd4 "Phrasebook.__init__" = true)
    (k4 : PySem.W.keepIn K (.ref f4) = true)
    (a5 : PySem.W.findIn K (.ref C_Phrasebook) "enter" = some (some (.ref f5)))
    (i5 : PySem.W.isFn K (.ref f5) = true)
    (l5 : K.lookup f5 = some ⟨oc5, od5, .func (PySem.W.fnOf "enter" "Phrasebook.enter" (defArgs s_p_Phrasebook_enter) (defBody s_p_Phrasebook_enter) (defScope s_p_Phrasebook_enter) .none kV5 dc5 pm5 an5 cd5 ct5), sl5⟩)
    (c5 : PySem.W.codeIn K cd5 "Phrasebook.enter" = true)
    (k5 : PySem.W.keepIn K (.ref f5) = true)
    (a6 : PySem.W.findIn K (.ref C_Phrasebook) "strike" = some (some (.ref f6)))
    (i6 : PySem.W.isFn K (.ref f6) = true)
    (l6 : K.lookup f6 = some ⟨oc6, od6, .func (PySem.W.fnOf "strike" "Phrasebook.strike" (defArgs s_p_Phrasebook_strike) (defBody s_p_Phrasebook_strike) (defScope s_p_Phrasebook_strike) .none kV6 dc6 pm6 an6 cd6 ct6), sl6⟩)
    (c6 : PySem.W.codeIn K cd6 "Phrasebook.strike" = true)
    (k6 : PySem.W.keepIn K (.ref f6) = true)
    (a7 : PySem.W.findIn K (.ref C_Phrasebook) "place_of" = some (some (.ref f7)))
    (i7 : PySem.W.isFn K (.ref f7) = true)
    (l7 : K.lookup f7 = some ⟨oc7, od7, .func (PySem.W.fnOf "place_of" "Phrasebook.place_of" (defArgs s_p_Phrasebook_place_of) (defBody s_p_Phrasebook_place_of) (defScope s_p_Phrasebook_place_of) .none kV7 dc7 pm7 an7 cd7 ct7), sl7⟩)
    (c7 : PySem.W.codeIn K cd7 "Phrasebook.place_of" = true)
    (k7 : PySem.W.keepIn K (.ref f7) = true)
    (a8 : PySem.W.findIn K (.ref C_Phrasebook) "word_at" = some (some (.ref f8)))
    (i8 : PySem.W.isFn K (.ref f8) = true)
    (l8 : K.lookup f8 = some ⟨oc8, od8, .func (PySem.W.fnOf "word_at" "Phrasebook.word_at" (defArgs s_p_Phrasebook_word_at) (defBody s_p_Phrasebook_word_at) (defScope s_p_Phrasebook_word_at) .none kV8 dc8 pm8 an8 cd8 ct8), sl8⟩)
    (c8 : PySem.W.codeIn K cd8 "Phrasebook.word_at" = true)
    (k8 : PySem.W.keepIn K (.ref f8) = true)
    (a9 : PySem.W.findIn K (.ref C_Phrasebook) "words" = some (some (.ref f9)))
    (i9 : PySem.W.isFn K (.ref f9) = true)
    (l9 : K.lookup f9 = some ⟨oc9, od9, .func (PySem.W.fnOf "words" "Phrasebook.words" (defArgs s_p_Phrasebook_words) (defBody s_p_Phrasebook_words) (defScope s_p_Phrasebook_words) .none kV9 dc9 pm9 an9 cd9 ct9), sl9⟩)
    (c9 : PySem.W.codeIn K cd9 "Phrasebook.words" = true)
    (k9 : PySem.W.keepIn K (.ref f9) = true)
    (a10 : PySem.W.nsIn K mainGlobals "_law_cell" = some (some (.ref f10)))
    (l10 : K.lookup f10 = some ⟨oc10, od10, .func (PySem.W.fnOf "_law_cell" "_law_cell" (defArgs s_l_cell) (defBody s_l_cell) (defScope s_l_cell) .none kV10 dc10 pm10 an10 cd10 ct10), sl10⟩)
    (c10 : PySem.W.codeIn K cd10 "_law_cell" = true)
    (k10 : PySem.W.keepIn K (.ref f10) = true)
    (a11 : PySem.W.nsIn K mainGlobals "_law_row" = some (some (.ref f11)))
    (l11 : K.lookup f11 = some ⟨oc11, od11, .func (PySem.W.fnOf "_law_row" "_law_row" (defArgs s_l_row) (defBody s_l_row) (defScope s_l_row) .none kV11 dc11 pm11 an11 cd11 ct11), sl11⟩)
    (c11 : PySem.W.codeIn K cd11 "_law_row" = true)
    (k11 : PySem.W.keepIn K (.ref f11) = true)
    (a12 : PySem.W.nsIn K mainGlobals "_law_like" = some (some (.ref f12)))
    (l12 : K.lookup f12 = some ⟨oc12, od12, .func (PySem.W.fnOf "_law_like" "_law_like" (defArgs s_l_like) (defBody s_l_like) (defScope s_l_like) .none kV12 dc12 pm12 an12 cd12 ct12), sl12⟩)
    (c12 : PySem.W.codeIn K cd12 "_law_like" = true)
    (k12 : PySem.W.keepIn K (.ref f12) = true)
    (a13 : PySem.W.nsIn K mainGlobals "_law_word" = some (some (.ref f13)))
    (l13 : K.lookup f13 = some ⟨oc13, od13, .func (PySem.W.fnOf "_law_word" "_law_word" (defArgs s_l_word) (defBody s_l_word) (defScope s_l_word) .none kV13 dc13 pm13 an13 cd13 ct13), sl13⟩)
    (c13 : PySem.W.codeIn K cd13 "_law_word" = true)
    (k13 : PySem.W.keepIn K (.ref f13) = true)
    (a14 : PySem.W.nsIn K mainGlobals "_law_is_word" = some (some (.ref f14)))
    (l14 : K.lookup f14 = some ⟨oc14, od14, .func (PySem.W.fnOf "_law_is_word" "_law_is_word" (defArgs s_l_is_word) (defBody s_l_is_word) (defScope s_l_is_word) .none kV14 dc14 pm14 an14 cd14 ct14), sl14⟩)
    (c14 : PySem.W.codeIn K cd14 "_law_is_word" = true)
    (k14 : PySem.W.keepIn K (.ref f14) = true)
    (a15 : PySem.W.nsIn K mainGlobals "_law_word_deed" = some (some (.ref f15)))
    (l15 : K.lookup f15 = some ⟨oc15, od15, .func (PySem.W.fnOf "_law_word_deed" "_law_word_deed" (defArgs s_l_word_deed) (defBody s_l_word_deed) (defScope s_l_word_deed) .none kV15 dc15 pm15 an15 cd15 ct15), sl15⟩)
    (c15 : PySem.W.codeIn K cd15 "_law_word_deed" = true)
    (k15 : PySem.W.keepIn K (.ref f15) = true)
    (a16 : PySem.W.nsIn K mainGlobals "_law_book_deeds" = some (some (.ref f16)))
    (l16 : K.lookup f16 = some ⟨oc16, od16, .func (PySem.W.fnOf "_law_book_deeds" "_law_book_deeds" (defArgs s_l_book_deeds) (defBody s_l_book_deeds) (defScope s_l_book_deeds) .none kV16 dc16 pm16 an16 cd16 ct16), sl16⟩)
    (c16 : PySem.W.codeIn K cd16 "_law_book_deeds" = true)
    (k16 : PySem.W.keepIn K (.ref f16) = true)
    (a17 : PySem.W.nsIn K mainGlobals "_law_kind" = some (some (.ref f17)))
    (l17 : K.lookup f17 = some ⟨oc17, od17, .func (PySem.W.fnOf "_law_kind" "_law_kind" (defArgs s_l_kind) (defBody s_l_kind) (defScope s_l_kind) .none kV17 dc17 pm17 an17 cd17 ct17), sl17⟩)
    (c17 : PySem.W.codeIn K cd17 "_law_kind" = true)
    (k17 : PySem.W.keepIn K (.ref f17) = true)
    (a18 : PySem.W.nsIn K mainGlobals "_law_tried" = some (some (.ref f18)))
    (l18 : K.lookup f18 = some ⟨oc18, od18, .func (PySem.W.fnOf "_law_tried" "_law_tried" (defArgs s_l_tried) (defBody s_l_tried) (defScope s_l_tried) .none kV18 dc18 pm18 an18 cd18 ct18), sl18⟩)
    (c18 : PySem.W.codeIn K cd18 "_law_tried" = true)
    (k18 : PySem.W.keepIn K (.ref f18) = true)
    (a19 : PySem.W.nsIn K mainGlobals "_law_right" = some (some (.ref f19)))
    (l19 : K.lookup f19 = some ⟨oc19, od19, .func (PySem.W.fnOf "_law_right" "_law_right" (defArgs s_l_right) (defBody s_l_right) (defScope s_l_right) .none kV19 dc19 pm19 an19 cd19 ct19), sl19⟩)
    (c19 : PySem.W.codeIn K cd19 "_law_right" = true)
    (k19 : PySem.W.keepIn K (.ref f19) = true)
    (a20 : PySem.W.nsIn K mainGlobals "law" = some (some (.ref f20)))
    (l20 : K.lookup f20 = some ⟨oc20, od20, .func (PySem.W.fnOf "law" "law" (defArgs s_law) (defBody s_law) (defScope s_law) .none kV20 dc20 pm20 an20 cd20 ct20), sl20⟩)
    (c20 : PySem.W.codeIn K cd20 "law" = true)
    (k20 : PySem.W.keepIn K (.ref f20) = true)
    (q_LETTERS : PySem.W.nsIn K mainGlobals "LETTERS" = some (some (.str "abcdefghijklmnopqrstuvwxyz" tk_LETTERS)))
    (q_LAST_PAGE : PySem.W.nsIn K mainGlobals "LAST_PAGE" = some (some (.int 40 tk_LAST_PAGE)))
    (q_LONGEST_WORD : PySem.W.nsIn K mainGlobals "LONGEST_WORD" = some (some (.int 12 tk_LONGEST_WORD)))
    (z_all : PySem.W.nsIn K mainGlobals "all" = some none)
    (z_len : PySem.W.nsIn K mainGlobals "len" = some none)
    (z_sorted : PySem.W.nsIn K mainGlobals "sorted" = some none)
    (z_range : PySem.W.nsIn K mainGlobals "range" = some none)
    (z_isinstance : PySem.W.nsIn K mainGlobals "isinstance" = some none)
    (z_bool : PySem.W.nsIn K mainGlobals "bool" = some none)
    (z_int : PySem.W.nsIn K mainGlobals "int" = some none)
    (z_str : PySem.W.nsIn K mainGlobals "str" = some none)
    (z_list : PySem.W.nsIn K mainGlobals "list" = some none)
    (z_tuple : PySem.W.nsIn K mainGlobals "tuple" = some none)
    (z_max : PySem.W.nsIn K mainGlobals "max" = some none)
    (z_min : PySem.W.nsIn K mainGlobals "min" = some none)
    (oc_get : PySem.W.specialIn K (.builtin "object.__class__") "__get__" = some (some (.builtin "getset_descriptor.__get__")))
    (oc_tak : PySem.W.takesIn K (.builtin "object.__class__") = some true) :
    LamX.LawAtS l w K CX0 12 63 "_law_script" mg fa h := by
  have e := hfa.symm.trans (PySem.W.mg_of X G a20)
  cases e
  let T : Txt K mg :=
    { a_MastError := C_MastError,
      g_MastError := PySem.W.mg_of X G e_MastError,
      x_MastError := x_MastError,
      k_MastError := k_MastError,
      b_MastError := b_MastError,
      t_MastError := t_MastError,
      i_MastError := i_MastError,
      h_MastError := h_MastError,
      ga_MastError := ga_MastError,
      gg_MastError := gg_MastError,
      cl_MastError := cl_MastError,
      mo_MastError := mo_MastError,
      v_MastError := v_MastError,
      a_BadPlace := C_BadPlace,
      g_BadPlace := PySem.W.mg_of X G e_BadPlace,
      x_BadPlace := x_BadPlace,
      k_BadPlace := k_BadPlace,
      b_BadPlace := b_BadPlace,
      t_BadPlace := t_BadPlace,
      i_BadPlace := i_BadPlace,
      h_BadPlace := h_BadPlace,
      ga_BadPlace := ga_BadPlace,
      gg_BadPlace := gg_BadPlace,
      cl_BadPlace := cl_BadPlace,
      mo_BadPlace := mo_BadPlace,
      v_BadPlace := v_BadPlace,
      a_BadWord := C_BadWord,
      g_BadWord := PySem.W.mg_of X G e_BadWord,
      x_BadWord := x_BadWord,
      k_BadWord := k_BadWord,
      b_BadWord := b_BadWord,
      t_BadWord := t_BadWord,
      i_BadWord := i_BadWord,
      h_BadWord := h_BadWord,
      ga_BadWord := ga_BadWord,
      gg_BadWord := gg_BadWord,
      cl_BadWord := cl_BadWord,
      mo_BadWord := mo_BadWord,
      v_BadWord := v_BadWord,
      a_Taken := C_Taken,
      g_Taken := PySem.W.mg_of X G e_Taken,
      x_Taken := x_Taken,
      k_Taken := k_Taken,
      b_Taken := b_Taken,
      t_Taken := t_Taken,
      i_Taken := i_Taken,
      h_Taken := h_Taken,
      ga_Taken := ga_Taken,
      gg_Taken := gg_Taken,
      cl_Taken := cl_Taken,
      mo_Taken := mo_Taken,
      v_Taken := v_Taken,
      a_Known := C_Known,
      g_Known := PySem.W.mg_of X G e_Known,
      x_Known := x_Known,
      k_Known := k_Known,
      b_Known := b_Known,
      t_Known := t_Known,
      i_Known := i_Known,
      h_Known := h_Known,
      ga_Known := ga_Known,
      gg_Known := gg_Known,
      cl_Known := cl_Known,
      mo_Known := mo_Known,
      v_Known := v_Known,
      a_NoWord := C_NoWord,
      g_NoWord := PySem.W.mg_of X G e_NoWord,
      x_NoWord := x_NoWord,
      k_NoWord := k_NoWord,
      b_NoWord := b_NoWord,
      t_NoWord := t_NoWord,
      i_NoWord := i_NoWord,
      h_NoWord := h_NoWord,
      ga_NoWord := ga_NoWord,
      gg_NoWord := gg_NoWord,
      cl_NoWord := cl_NoWord,
      mo_NoWord := mo_NoWord,
      v_NoWord := v_NoWord,
      s_MastError_MastError := s_MastError_MastError,
      s_BadPlace_MastError := s_BadPlace_MastError,
      s_BadPlace_BadPlace := s_BadPlace_BadPlace,
      s_BadPlace_BadWord := s_BadPlace_BadWord,
      s_BadPlace_Taken := s_BadPlace_Taken,
      s_BadPlace_Known := s_BadPlace_Known,
      s_BadPlace_NoWord := s_BadPlace_NoWord,
      s_BadWord_MastError := s_BadWord_MastError,
      s_BadWord_BadPlace := s_BadWord_BadPlace,
      s_BadWord_BadWord := s_BadWord_BadWord,
      s_BadWord_Taken := s_BadWord_Taken,
      s_BadWord_Known := s_BadWord_Known,
      s_BadWord_NoWord := s_BadWord_NoWord,
      s_Taken_MastError := s_Taken_MastError,
      s_Taken_BadPlace := s_Taken_BadPlace,
      s_Taken_BadWord := s_Taken_BadWord,
      s_Taken_Taken := s_Taken_Taken,
      s_Taken_Known := s_Taken_Known,
      s_Taken_NoWord := s_Taken_NoWord,
      s_Known_MastError := s_Known_MastError,
      s_Known_BadPlace := s_Known_BadPlace,
      s_Known_BadWord := s_Known_BadWord,
      s_Known_Taken := s_Known_Taken,
      s_Known_Known := s_Known_Known,
      s_Known_NoWord := s_Known_NoWord,
      s_NoWord_MastError := s_NoWord_MastError,
      s_NoWord_BadPlace := s_NoWord_BadPlace,
      s_NoWord_BadWord := s_NoWord_BadWord,
      s_NoWord_Taken := s_NoWord_Taken,
      s_NoWord_Known := s_NoWord_Known,
      s_NoWord_NoWord := s_NoWord_NoWord,
      a_Phrasebook := C_Phrasebook,
      g_Phrasebook := PySem.W.mg_of X G e_Phrasebook,
      cl_Phrasebook := ⟨pg_Phrasebook, hd_Phrasebook, po_Phrasebook, sa_Phrasebook⟩,
      n_Phrasebook_word_by_place := n_Phrasebook_word_by_place,
      n_Phrasebook_place_by_word := n_Phrasebook_place_by_word,
      c_tab := c_tab,
      P_tab := P_tab,
      W_p_is_word := ⟨_, _, _, _, _, _, _, _, rfl, l1, c1⟩,
      f_p_is_word := f1,
      d_p_is_word := _,
      F_p_is_word := fun_mk (st := s_p_is_word) l1 c1 k1,
      b_p_is_word := (fun_mk (st := s_p_is_word) l1 c1 k1).binds (ps := ["text"]) fun _ _ _ _ _ _ us hl => match us, hl with | [_], _ => rfl,
      g_p_is_word := PySem.W.mg_of X G a1,
      f_p_check_word := f2,
      d_p_check_word := _,
      F_p_check_word := fun_mk (st := s_p_check_word) l2 c2 k2,
      b_p_check_word := (fun_mk (st := s_p_check_word) l2 c2 k2).binds (ps := ["text"]) fun _ _ _ _ _ _ us hl => match us, hl with | [_], _ => rfl,
      g_p_check_word := PySem.W.mg_of X G a2,
      f_p_check_place := f3,
      d_p_check_place := _,
      F_p_check_place := fun_mk (st := s_p_check_place) l3 c3 k3,
      b_p_check_place := (fun_mk (st := s_p_check_place) l3 c3 k3).binds (ps := ["page", "line"]) fun _ _ _ _ _ _ us hl => match us, hl with | [_, _], _ => rfl,
      g_p_check_place := PySem.W.mg_of X G a3,
      f_p_Phrasebook_init := f4,
      d_p_Phrasebook_init := _,
      F_p_Phrasebook_init := fun_mk (st := s_p_Phrasebook_init) l4 c4 k4,
      b_p_Phrasebook_init := (fun_mk (st := s_p_Phrasebook_init) l4 c4 k4).binds (ps := ["self"]) fun _ _ _ _ _ _ us hl => match us, hl with | [_], _ => rfl,
      M_p_Phrasebook_init := ⟨a4, i4, k4⟩,
      K_Phrasebook := ⟨mk_Phrasebook, a4, i4, kc_Phrasebook⟩,
      f_p_Phrasebook_enter := f5,
      d_p_Phrasebook_enter := _,
      F_p_Phrasebook_enter := fun_mk (st := s_p_Phrasebook_enter) l5 c5 k5,
      b_p_Phrasebook_enter := (fun_mk (st := s_p_Phrasebook_enter) l5 c5 k5).binds (ps := ["self", "page", "line", "word"]) fun _ _ _ _ _ _ us hl => match us, hl with | [_, _, _, _], _ => rfl,
      M_p_Phrasebook_enter := ⟨a5, i5, k5⟩,
      f_p_Phrasebook_strike := f6,
      d_p_Phrasebook_strike := _,
      F_p_Phrasebook_strike := fun_mk (st := s_p_Phrasebook_strike) l6 c6 k6,
      b_p_Phrasebook_strike := (fun_mk (st := s_p_Phrasebook_strike) l6 c6 k6).binds (ps := ["self", "page", "line"]) fun _ _ _ _ _ _ us hl => match us, hl with | [_, _, _], _ => rfl,
      M_p_Phrasebook_strike := ⟨a6, i6, k6⟩,
      f_p_Phrasebook_place_of := f7,
      d_p_Phrasebook_place_of := _,
      F_p_Phrasebook_place_of := fun_mk (st := s_p_Phrasebook_place_of) l7 c7 k7,
      b_p_Phrasebook_place_of := (fun_mk (st := s_p_Phrasebook_place_of) l7 c7 k7).binds (ps := ["self", "word"]) fun _ _ _ _ _ _ us hl => match us, hl with | [_, _], _ => rfl,
      M_p_Phrasebook_place_of := ⟨a7, i7, k7⟩,
      f_p_Phrasebook_word_at := f8,
      d_p_Phrasebook_word_at := _,
      F_p_Phrasebook_word_at := fun_mk (st := s_p_Phrasebook_word_at) l8 c8 k8,
      b_p_Phrasebook_word_at := (fun_mk (st := s_p_Phrasebook_word_at) l8 c8 k8).binds (ps := ["self", "page", "line"]) fun _ _ _ _ _ _ us hl => match us, hl with | [_, _, _], _ => rfl,
      M_p_Phrasebook_word_at := ⟨a8, i8, k8⟩,
      f_p_Phrasebook_words := f9,
      d_p_Phrasebook_words := _,
      F_p_Phrasebook_words := fun_mk (st := s_p_Phrasebook_words) l9 c9 k9,
      b_p_Phrasebook_words := (fun_mk (st := s_p_Phrasebook_words) l9 c9 k9).binds (ps := ["self"]) fun _ _ _ _ _ _ us hl => match us, hl with | [_], _ => rfl,
      M_p_Phrasebook_words := ⟨a9, i9, k9⟩,
      f_l_cell := f10,
      d_l_cell := _,
      F_l_cell := fun_mk (st := s_l_cell) l10 c10 k10,
      b_l_cell := (fun_mk (st := s_l_cell) l10 c10 k10).binds (ps := ["_law_script", "_law_at"]) fun _ _ _ _ _ _ us hl => match us, hl with | [_, _], _ => rfl,
      g_l_cell := PySem.W.mg_of X G a10,
      f_l_row := f11,
      d_l_row := _,
      F_l_row := fun_mk (st := s_l_row) l11 c11 k11,
      b_l_row := (fun_mk (st := s_l_row) l11 c11 k11).binds (ps := ["_law_cell_here", "_law_many", "_law_size"]) fun _ _ _ _ _ _ us hl => match us, hl with | [_, _, _], _ => rfl,
      g_l_row := PySem.W.mg_of X G a11,
      f_l_like := f12,
      d_l_like := _,
      F_l_like := fun_mk (st := s_l_like) l12 c12 k12,
      b_l_like := (fun_mk (st := s_l_like) l12 c12 k12).binds (ps := ["_law_found", "_law_due"]) fun _ _ _ _ _ _ us hl => match us, hl with | [_, _], _ => rfl,
      g_l_like := PySem.W.mg_of X G a12,
      f_l_word := f13,
      d_l_word := _,
      F_l_word := fun_mk (st := s_l_word) l13 c13 k13,
      b_l_word := (fun_mk (st := s_l_word) l13 c13 k13).binds (ps := ["_law_cell_here"]) fun _ _ _ _ _ _ us hl => match us, hl with | [_], _ => rfl,
      g_l_word := PySem.W.mg_of X G a13,
      f_l_is_word := f14,
      d_l_is_word := _,
      F_l_is_word := fun_mk (st := s_l_is_word) l14 c14 k14,
      b_l_is_word := (fun_mk (st := s_l_is_word) l14 c14 k14).binds (ps := ["_law_text"]) fun _ _ _ _ _ _ us hl => match us, hl with | [_], _ => rfl,
      g_l_is_word := PySem.W.mg_of X G a14,
      f_l_word_deed := f15,
      d_l_word_deed := _,
      F_l_word_deed := fun_mk (st := s_l_word_deed) l15 c15 k15,
      b_l_word_deed := (fun_mk (st := s_l_word_deed) l15 c15 k15).binds (ps := ["_law_state", "_law_deed"]) fun _ _ _ _ _ _ us hl => match us, hl with | [_, _], _ => rfl,
      g_l_word_deed := PySem.W.mg_of X G a15,
      f_l_book_deeds := f16,
      d_l_book_deeds := _,
      F_l_book_deeds := fun_mk (st := s_l_book_deeds) l16 c16 k16,
      b_l_book_deeds := (fun_mk (st := s_l_book_deeds) l16 c16 k16).binds (ps := ["_law_script", "_law_at", "_law_many"]) fun _ _ _ _ _ _ us hl => match us, hl with | [_, _, _], _ => rfl,
      g_l_book_deeds := PySem.W.mg_of X G a16,
      f_l_kind := f17,
      d_l_kind := _,
      F_l_kind := fun_mk (st := s_l_kind) l17 c17 k17,
      b_l_kind := (fun_mk (st := s_l_kind) l17 c17 k17).binds (ps := ["_law_e"]) fun _ _ _ _ _ _ us hl => match us, hl with | [_], _ => rfl,
      g_l_kind := PySem.W.mg_of X G a17,
      f_l_tried := f18,
      d_l_tried := _,
      F_l_tried := fun_mk (st := s_l_tried) l18 c18 k18,
      b_l_tried := (fun_mk (st := s_l_tried) l18 c18 k18).binds (ps := ["_law_book", "_law_deed"]) fun _ _ _ _ _ _ us hl => match us, hl with | [_, _], _ => rfl,
      g_l_tried := PySem.W.mg_of X G a18,
      f_l_right := f19,
      d_l_right := _,
      F_l_right := fun_mk (st := s_l_right) l19 c19 k19,
      b_l_right := (fun_mk (st := s_l_right) l19 c19 k19).binds (ps := ["_law_book", "_law_words", "_law_deed"]) fun _ _ _ _ _ _ us hl => match us, hl with | [_, _, _], _ => rfl,
      g_l_right := PySem.W.mg_of X G a19,
      u_LETTERS := _,
      c_LETTERS := PySem.W.mg_of X G q_LETTERS,
      r_LETTERS := ⟨_, rfl⟩,
      u_LAST_PAGE := _,
      c_LAST_PAGE := PySem.W.mg_of X G q_LAST_PAGE,
      r_LAST_PAGE := ⟨_, rfl⟩,
      u_LONGEST_WORD := _,
      c_LONGEST_WORD := PySem.W.mg_of X G q_LONGEST_WORD,
      r_LONGEST_WORD := ⟨_, rfl⟩,
      m_all := PySem.W.mg_none_of X G z_all,
      m_len := PySem.W.mg_none_of X G z_len,
      m_sorted := PySem.W.mg_none_of X G z_sorted,
      m_range := PySem.W.mg_none_of X G z_range,
      m_isinstance := PySem.W.mg_none_of X G z_isinstance,
      m_bool := PySem.W.mg_none_of X G z_bool,
      m_int := PySem.W.mg_none_of X G z_int,
      m_str := PySem.W.mg_none_of X G z_str,
      m_list := PySem.W.mg_none_of X G z_list,
      m_tuple := PySem.W.mg_none_of X G z_tuple,
      m_max := PySem.W.mg_none_of X G z_max,
      m_min := PySem.W.mg_none_of X G z_min,
      oc_get := oc_get,
      oc_tak := oc_tak }
  have hP : h.get? P_tab = some { cls := .none, data := .fields #[] } := own "is_word" (by simp) f1 (PySem.W.mg_of X G a1) c_tab P_tab _ _ _ _ _ _ l1 rfl rfl y_l y_11
  have hc : PySem.W.CodeHd h c_tab P_tab := codeHd_mk X y_l y_11 y_18 y_7 y_9 y_10 y_ne
  refine ⟨PySem.W.fnOf "law" "law" (defArgs s_law) (defBody s_law) (defScope s_law) .none kV20 dc20 pm20 an20 cd20 ct20, [(c_tab, P_tab)], sp_law K P_tab, ?_, ?_, ?_, fun s v => .of_eq rfl, fun H a ns hl _ hT hS => ⟨a, ns, rfl, hS, hl, ⟨#[], hT (c_tab, P_tab) (by simp), trivial⟩, fun _ => rfl⟩, fun base _ _ TB => ok_law T (let tb := TB (c_tab, P_tab) (by simp); ⟨tb.code, tb.bm, tb.gP⟩) (fun_mk (st := s_law) l20 c20 k20)⟩
  all_goals (intro p hp; simp only [List.mem_cons, List.not_mem_nil, or_false] at hp)
  · rcases hp with rfl
    · exact hP
  · rcases hp with rfl
    · exact y_P
  · rcases hp with rfl
    · exact hc
end Mw
open PySem PySem.W PyProof.Rows
set_option maxRecDepth 100000 in
set_option maxHeartbeats 0 in
theorem PySem.Challenge.cw_mastword_k05_a_phrasebook_holds : PySem.Challenge.rw_mastword_k05_a_phrasebook.Holds := by
  w_on; o_law; k_head; (case hw => w_witness2)
  k_fill
  refine Mw.walk_tab (l := PySem.Challenge.rw_mastword_k05_a_phrasebook) (n := 63) (k := 12) (x := "_law_script") (CX := fun _ => L2.CX0) ["is_word"] rfl (by decide) rfl ⟨rfl, by decide, by decide⟩ (by decide +kernel) (fun w h Y => PySem.W.kIn_of Y) ?F (fun _ _ _ _ _ h => h)
  case F =>
    intro w mg fa h KX G hmg own
    refine' Mw.all_mk KX G hmg own ?e_MastError ?x_MastError ?k_MastError ?b_MastError ?t_MastError ?i_MastError ?h_MastError ?ga_MastError ?gg_MastError ?cl_MastError ?mo_MastError ?v_MastError ?e_BadPlace ?x_BadPlace ?k_BadPlace ?b_BadPlace ?t_BadPlace ?i_BadPlace ?h_BadPlace ?ga_BadPlace ?gg_BadPlace ?cl_BadPlace ?mo_BadPlace ?v_BadPlace ?e_BadWord ?x_BadWord ?k_BadWord ?b_BadWord ?t_BadWord ?i_BadWord ?h_BadWord ?ga_BadWord ?gg_BadWord ?cl_BadWord ?mo_BadWord ?v_BadWord ?e_Taken ?x_Taken ?k_Taken ?b_Taken ?t_Taken ?i_Taken ?h_Taken ?ga_Taken ?gg_Taken ?cl_Taken ?mo_Taken ?v_Taken ?e_Known ?x_Known ?k_Known ?b_Known ?t_Known ?i_Known ?h_Known ?ga_Known ?gg_Known ?cl_Known ?mo_Known ?v_Known ?e_NoWord ?x_NoWord ?k_NoWord ?b_NoWord ?t_NoWord ?i_NoWord ?h_NoWord ?ga_NoWord ?gg_NoWord ?cl_NoWord ?mo_NoWord ?v_NoWord ?s_MastError_MastError ?s_BadPlace_MastError ?s_BadPlace_BadPlace ?s_BadPlace_BadWord ?s_BadPlace_Taken ?s_BadPlace_Known ?s_BadPlace_NoWord ?s_BadWord_MastError ?s_BadWord_BadPlace ?s_BadWord_BadWord ?s_BadWord_Taken ?s_BadWord_Known ?s_BadWord_NoWord ?s_Taken_MastError ?s_Taken_BadPlace ?s_Taken_BadWord ?s_Taken_Taken ?s_Taken_Known ?s_Taken_NoWord ?s_Known_MastError ?s_Known_BadPlace ?s_Known_BadWord ?s_Known_Taken ?s_Known_Known ?s_Known_NoWord ?s_NoWord_MastError ?s_NoWord_BadPlace ?s_NoWord_BadWord ?s_NoWord_Taken ?s_NoWord_Known ?s_NoWord_NoWord ?e_Phrasebook ?pg_Phrasebook ?hd_Phrasebook ?po_Phrasebook ?sa_Phrasebook ?mk_Phrasebook ?kc_Phrasebook ?n_Phrasebook_word_by_place ?n_Phrasebook_place_by_word ?a1 ?l1 ?c1 ?y_l ?y_11 ?y_18 ?y_7 ?y_9 ?y_10 ?y_ne ?y_P ?k1 ?a2 ?l2 ?c2 ?k2 ?a3 ?l3 ?c3 ?k3 ?a4 ?i4 ?l4 ?c4 ?k4 ?a5 ?i5 ?l5 ?c5 ?k5 ?a6 ?i6 ?l6 ?c6 ?k6 ?a7 ?i7 ?l7 ?c7 ?k7 ?a8 ?i8 ?l8 ?c8 ?k8 ?a9 ?i9 ?l9 ?c9 ?k9 ?a10 ?l10 ?c10 ?k10 ?a11 ?l11 ?c11 ?k11 ?a12 ?l12 ?c12 ?k12 ?a13 ?l13 ?c13 ?k13 ?a14 ?l14 ?c14 ?k14 ?a15 ?l15 ?c15 ?k15 ?a16 ?l16 ?c16 ?k16 ?a17 ?l17 ?c17 ?k17 ?a18 ?l18 ?c18 ?k18 ?a19 ?l19 ?c19 ?k19 ?a20 ?l20 ?c20 ?k20 ?q_LETTERS ?q_LAST_PAGE ?q_LONGEST_WORD ?z_all ?z_len ?z_sorted ?z_range ?z_isinstance ?z_bool ?z_int ?z_str ?z_list ?z_tuple ?z_max ?z_min ?oc_get ?oc_tak
    (case e_MastError => k_is)
    (case x_MastError => k_exc)
    (case k_MastError => k_is)
    (case b_MastError => k_is)
    (case t_MastError => k_is)
    (case i_MastError => k_is)
    (case h_MastError => k_is)
    (case ga_MastError => k_is)
    (case gg_MastError => k_is)
    (case cl_MastError => k_is)
    (case mo_MastError => k_is)
    (case v_MastError => k_is)
    (case e_BadPlace => k_is)
    (case x_BadPlace => k_exc)
    (case k_BadPlace => k_is)
    (case b_BadPlace => k_is)
    (case t_BadPlace => k_is)
    (case i_BadPlace => k_is)
    (case h_BadPlace => k_is)
    (case ga_BadPlace => k_is)
    (case gg_BadPlace => k_is)
    (case cl_BadPlace => k_is)
    (case mo_BadPlace => k_is)
    (case v_BadPlace => k_is)
    (case e_BadWord => k_is)
    (case x_BadWord => k_exc)
    (case k_BadWord => k_is)
    (case b_BadWord => k_is)
    (case t_BadWord => k_is)
    (case i_BadWord => k_is)
    (case h_BadWord => k_is)
    (case ga_BadWord => k_is)
    (case gg_BadWord => k_is)
    (case cl_BadWord => k_is)
    (case mo_BadWord => k_is)
    (case v_BadWord => k_is)
    (case e_Taken => k_is)
    (case x_Taken => k_exc)
    (case k_Taken => k_is)
    (case b_Taken => k_is)
    (case t_Taken => k_is)
    (case i_Taken => k_is)
    (case h_Taken => k_is)
    (case ga_Taken => k_is)
    (case gg_Taken => k_is)
    (case cl_Taken => k_is)
    (case mo_Taken => k_is)
    (case v_Taken => k_is)
    (case e_Known => k_is)
    (case x_Known => k_exc)
    (case k_Known => k_is)
    (case b_Known => k_is)
    (case t_Known => k_is)
    (case i_Known => k_is)
    (case h_Known => k_is)
    (case ga_Known => k_is)
    (case gg_Known => k_is)
    (case cl_Known => k_is)
    (case mo_Known => k_is)
    (case v_Known => k_is)
    (case e_NoWord => k_is)
    (case x_NoWord => k_exc)
    (case k_NoWord => k_is)
    (case b_NoWord => k_is)
    (case t_NoWord => k_is)
    (case i_NoWord => k_is)
    (case h_NoWord => k_is)
    (case ga_NoWord => k_is)
    (case gg_NoWord => k_is)
    (case cl_NoWord => k_is)
    (case mo_NoWord => k_is)
    (case v_NoWord => k_is)
    (case s_MastError_MastError => (first | rfl | k_is))
    (case s_BadPlace_MastError => (first | rfl | k_is))
    (case s_BadPlace_BadPlace => (first | rfl | k_is))
    (case s_BadPlace_BadWord => (first | rfl | k_is))
    (case s_BadPlace_Taken => (first | rfl | k_is))
    (case s_BadPlace_Known => (first | rfl | k_is))
    (case s_BadPlace_NoWord => (first | rfl | k_is))
    (case s_BadWord_MastError => (first | rfl | k_is))
    (case s_BadWord_BadPlace => (first | rfl | k_is))
    (case s_BadWord_BadWord => (first | rfl | k_is))
    (case s_BadWord_Taken => (first | rfl | k_is))
    (case s_BadWord_Known => (first | rfl | k_is))
    (case s_BadWord_NoWord => (first | rfl | k_is))
    (case s_Taken_MastError => (first | rfl | k_is))
    (case s_Taken_BadPlace => (first | rfl | k_is))
    (case s_Taken_BadWord => (first | rfl | k_is))
    (case s_Taken_Taken => (first | rfl | k_is))
    (case s_Taken_Known => (first | rfl | k_is))
    (case s_Taken_NoWord => (first | rfl | k_is))
    (case s_Known_MastError => (first | rfl | k_is))
    (case s_Known_BadPlace => (first | rfl | k_is))
    (case s_Known_BadWord => (first | rfl | k_is))
    (case s_Known_Taken => (first | rfl | k_is))
    (case s_Known_Known => (first | rfl | k_is))
    (case s_Known_NoWord => (first | rfl | k_is))
    (case s_NoWord_MastError => (first | rfl | k_is))
    (case s_NoWord_BadPlace => (first | rfl | k_is))
    (case s_NoWord_BadWord => (first | rfl | k_is))
    (case s_NoWord_Taken => (first | rfl | k_is))
    (case s_NoWord_Known => (first | rfl | k_is))
    (case s_NoWord_NoWord => (first | rfl | k_is))
    (case e_Phrasebook => k_is)
    (case pg_Phrasebook => k_is)
    (case hd_Phrasebook => k_is)
    (case po_Phrasebook => k_is)
    (case sa_Phrasebook => k_is)
    (case mk_Phrasebook => k_is)
    (case kc_Phrasebook => k_is)
    (case n_Phrasebook_word_by_place => k_is)
    (case n_Phrasebook_place_by_word => k_is)
    (case a1 => k_is)
    (case l1 => k_is)
    (case c1 => k_is)
    (case y_l => k_is)
    (case y_11 => rfl)
    (case y_18 => rfl)
    (case y_7 => rfl)
    (case y_9 => rfl)
    (case y_10 => rfl)
    (case y_ne => (intro z; cases z))
    (case y_P => rfl)
    (case k1 => k_is)
    (case a2 => k_is)
    (case l2 => k_is)
    (case c2 => k_is)
    (case k2 => k_is)
    (case a3 => k_is)
    (case l3 => k_is)
    (case c3 => k_is)
    (case k3 => k_is)
    (case a4 => k_is)
    (case i4 => k_is)
    (case l4 => k_is)
    (case c4 => k_is)
    (case k4 => k_is)
    (case a5 => k_is)
    (case i5 => k_is)
    (case l5 => k_is)
    (case c5 => k_is)
    (case k5 => k_is)
    (case a6 => k_is)
    (case i6 => k_is)
    (case l6 => k_is)
    (case c6 => k_is)
    (case k6 => k_is)
    (case a7 => k_is)
    (case i7 => k_is)
    (case l7 => k_is)
    (case c7 => k_is)
    (case k7 => k_is)
    (case a8 => k_is)
    (case i8 => k_is)
    (case l8 => k_is)
    (case c8 => k_is)
    (case k8 => k_is)
    (case a9 => k_is)
    (case i9 => k_is)
    (case l9 => k_is)
    (case c9 => k_is)
    (case k9 => k_is)
    (case a10 => k_is)
    (case l10 => k_is)
    (case c10 => k_is)
    (case k10 => k_is)
    (case a11 => k_is)
    (case l11 => k_is)
    (case c11 => k_is)
    (case k11 => k_is)
    (case a12 => k_is)
    (case l12 => k_is)
    (case c12 => k_is)
    (case k12 => k_is)
    (case a13 => k_is)
    (case l13 => k_is)
    (case c13 => k_is)
    (case k13 => k_is)
    (case a14 => k_is)
    (case l14 => k_is)
    (case c14 => k_is)
    (case k14 => k_is)
    (case a15 => k_is)
    (case l15 => k_is)
    (case c15 => k_is)
    (case k15 => k_is)
    (case a16 => k_is)
    (case l16 => k_is)
    (case c16 => k_is)
    (case k16 => k_is)
    (case a17 => k_is)
    (case l17 => k_is)
    (case c17 => k_is)
    (case k17 => k_is)
    (case a18 => k_is)
    (case l18 => k_is)
    (case c18 => k_is)
    (case k18 => k_is)
    (case a19 => k_is)
    (case l19 => k_is)
    (case c19 => k_is)
    (case k19 => k_is)
    (case a20 => k_is)
    (case l20 => k_is)
    (case c20 => k_is)
    (case k20 => k_is)
    (case q_LETTERS => k_is)
    (case q_LAST_PAGE => k_is)
    (case q_LONGEST_WORD => k_is)
    (case z_all => k_is)
    (case z_len => k_is)
    (case z_sorted => k_is)
    (case z_range => k_is)
    (case z_isinstance => k_is)
    (case z_bool => k_is)
    (case z_int => k_is)
    (case z_str => k_is)
    (case z_list => k_is)
    (case z_tuple => k_is)
    (case z_max => k_is)
    (case z_min => k_is)
    (case oc_get => k_is)
    (case oc_tak => k_is)
