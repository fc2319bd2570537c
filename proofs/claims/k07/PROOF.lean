import PyProof.Rows.All
import Wide.All
import OpenK.AllK
import Wide.FinOn
import HandS.ForMost
import HandS.ForExc
import HandS.AnyAll
import HandS.EndTab
import HandS.ExcIs
import HandS.ExcField
import HandS.ExcInit
import HandS.IsInst
import HandS.Conv
import HandS.Replace
import HandS.Flow
import HandS.Walk
import HandS.Evl
import KE.KExcIs
import HandS.EndOwn
import HandS.CallRecv
import HandS.Deep
import HandS.More
import KE.SortData
import KE.KDictWalk
import PySem.Challenge.RW_mastword_k07_signs_read
set_option Elab.async false
set_option linter.all false
set_option maxRecDepth 100000
set_option maxHeartbeats 2000000
namespace Mw
open PySem PySem.Spec PyProof.Rows L2
/-! ### what is kept: every tracked thing but the tables of code objects, which stay tables -/
def isT : HO → Bool
  | .tbl _ => true
  | _ => false
structure Kp (H H' : Hp) : Prop where
  same : ∀ a o, isT o = false → H a = some o → H' a = some o
  tab : ∀ a, GxR.TabG H a → GxR.TabG H' a
  free : ∀ a, H' a = none → H a = none
theorem Kp.refl (H : Hp) : Kp H H := ⟨fun _ _ _ h => h, fun _ h => h, fun _ h => h⟩
theorem Kp.trans {H H1 H2 : Hp} (a : Kp H H1) (b : Kp H1 H2) : Kp H H2 :=
  ⟨fun x o t h => b.same x o t (a.same x o t h), fun x h => b.tab x (a.tab x h), fun x h => a.free x (b.free x h)⟩
theorem Kp.mut {H H' : Hp} {p : Addr} {o : HO} (e : Kp H H') (h : H p = none) : Kp H (upd H' p o) := by
  refine ⟨fun a u t ha => ?_, fun a ⟨ps, ha, ht⟩ => ?_, fun a ha => ?_⟩
  · rw [upd_ne (ne_of_none ha h)]
    exact e.same a u t ha
  · obtain ⟨ps', h1, h2⟩ := e.tab a ⟨ps, ha, ht⟩
    exact ⟨ps', by rw [upd_ne (ne_of_none ha h)]; exact h1, h2⟩
  · by_cases q : a = p
    · rw [q]
      exact h
    · rw [upd_ne q] at ha
      exact e.free a ha
theorem Kp.new {H : Hp} {p : Addr} {o : HO} (h : H p = none) : Kp H (upd H p o) := (Kp.refl H).mut h
theorem Kp.rd {H H' : Hp} {a : Addr} {u : HO} (e : Kp H H') (t : isT u = false) (h : Rd H a u) : Rd H' a u := by
  rcases h with h | ⟨o, h⟩
  · exact Or.inl (e.same a _ t h)
  · exact Or.inr ⟨o, e.same a _ rfl h⟩
theorem Kp.sqL {K : PySem.W.Frag} {H H' : Hp} {a : Addr} {xs : List V} (e : Kp H H') (h : SqL K H a xs) : SqL K H' a xs := by
  rcases h with h | h
  · exact Or.inl (e.rd rfl h)
  · exact Or.inr h
theorem Kp.sqT {K : PySem.W.Frag} {H H' : Hp} {a : Addr} {xs : List V} (e : Kp H H') (h : SqT K H a xs) : SqT K H' a xs := by
  rcases h with h | h
  · exact Or.inl (e.rd rfl h)
  · exact Or.inr h
mutual
theorem Kp.dp {K : PySem.W.Frag} {H H' : Hp} (e : Kp H H') : ∀ {d : PyData} {v : V}, Dp K H v d → Dp K H' v d
  | _, _, .non => .non
  | _, _, .bl b => .bl b
  | _, _, .int i => .int i
  | _, _, .str x => .str x
  | _, _, .lst h a => .lst (e.sqL h) (Kp.dpAll e a)
  | _, _, .tup h a => .tup (e.sqT h) (Kp.dpAll e a)
theorem Kp.dpAll {K : PySem.W.Frag} {H H' : Hp} (e : Kp H H') : ∀ {ds : List PyData} {vs : List V}, DpAll K H vs ds → DpAll K H' vs ds
  | _, _, .nil => .nil
  | _, _, .cons h t => .cons (Kp.dp e h) (Kp.dpAll e t)
end
theorem DpAll.len {K : PySem.W.Frag} {H : Hp} : ∀ {vs : List V} {ds : List PyData}, DpAll K H vs ds → vs.length = ds.length
  | _, _, .nil => rfl
  | _, _, .cons _ t => congrArg (· + 1) (DpAll.len t)
theorem DpAll.get {K : PySem.W.Frag} {H : Hp} : ∀ {vs : List V} {ds : List PyData} {i : Nat} {d : PyData}, DpAll K H vs ds → ds[i]? = some d → ∃ v, vs[i]? = some v ∧ Dp K H v d
  | _, _, i, d, .nil, h => by simp at h
  | _, _, 0, d, .cons a _, h => by
    have e := Option.some.inj h
    subst e
    exact ⟨_, rfl, a⟩
  | _, _, i + 1, d, .cons _ t, h => DpAll.get (i := i) t h
theorem DpAll.app {K : PySem.W.Frag} {H : Hp} : ∀ {vs ws : List V} {ds es : List PyData}, DpAll K H vs ds → DpAll K H ws es → DpAll K H (vs ++ ws) (ds ++ es)
  | _, _, _, _, .nil, b => b
  | _, _, _, _, .cons a t, b => .cons a (DpAll.app t b)
/-- data without lists -/
inductive Nl : PyData → Prop
  | non : Nl .none
  | bl (b : Bool) : Nl (.bool b)
  | int (i : Int) : Nl (.int i)
  | str (x : Str) : Nl (.str x)
  | tup {ds : List PyData} : (∀ d ∈ ds, Nl d) → Nl (.tuple ds)
/-! a list may change: what has no list in it stays -/
mutual
theorem Dp.mut {K : PySem.W.Frag} {H : Hp} {p : Addr} {o : HO} {zs : List V} (hp : H p = some (.lst zs)) : ∀ {d : PyData} {v : V}, Nl d → Dp K H v d → Dp K (upd H p o) v d
  | _, _, _, .non => .non
  | _, _, _, .bl b => .bl b
  | _, _, _, .int i => .int i
  | _, _, _, .str x => .str x
  | _, _, n, .lst _ _ => nomatch n
  | _, _, n, .tup h a => by
    cases n with
    | tup n =>
      refine .tup ?_ (DpAll.mut hp n a)
      rcases h with (h | ⟨ob, h⟩) | h
      · exact .inl (.inl (by rw [upd_ne (ne_of h hp (by intro z; cases z))]; exact h))
      · exact .inl (.inr ⟨ob, by rw [upd_ne (ne_of h hp (by intro z; cases z))]; exact h⟩)
      · exact .inr h
theorem DpAll.mut {K : PySem.W.Frag} {H : Hp} {p : Addr} {o : HO} {zs : List V} (hp : H p = some (.lst zs)) : ∀ {ds : List PyData} {vs : List V}, (∀ d ∈ ds, Nl d) → DpAll K H vs ds → DpAll K (upd H p o) vs ds
  | _, _, _, .nil => .nil
  | _, _, n, .cons h t => .cons (Dp.mut hp (n _ List.mem_cons_self) h) (DpAll.mut hp (fun d hd => n d (List.mem_cons_of_mem _ hd)) t)
end
theorem DpAll.snoc {K : PySem.W.Frag} {H : Hp} {vs : List V} {ds : List PyData} {v : V} {d : PyData} (a : DpAll K H vs ds) (h : Dp K H v d) : DpAll K H (vs ++ [v]) (ds ++ [d]) := DpAll.app a (.cons h .nil)
theorem DpAll.dropLast {K : PySem.W.Frag} {H : Hp} : ∀ {vs : List V} {ds : List PyData}, DpAll K H vs ds → DpAll K H vs.dropLast ds.dropLast
  | _, _, .nil => .nil
  | _, _, .cons _ .nil => .nil
  | _, _, .cons h (.cons h2 t) => .cons h (DpAll.dropLast (.cons h2 t))
theorem dp_ints {K : PySem.W.Frag} {H : Hp} : ∀ ns : List Int, DpAll K H (ns.map V.int) (ns.map PyData.int)
  | [] => .nil
  | n :: r => .cons (.int n) (dp_ints r)
theorem dp_strs {K : PySem.W.Frag} {H : Hp} : ∀ ns : List Str, DpAll K H (ns.map V.str) (ns.map PyData.str)
  | [] => .nil
  | n :: r => .cons (.str n) (dp_strs r)
/-- a list of ints, a list of texts as data -/
def dI (ns : List Int) : PyData := .list (ns.map PyData.int)
def dS (ns : List Str) : PyData := .list (ns.map PyData.str)
theorem dp_dI {K : PySem.W.Frag} {H : Hp} {a : Addr} {ns : List Int} (h : SqL K H a (ns.map V.int)) : Dp K H (.ref a) (dI ns) := .lst h (dp_ints ns)
theorem dpAll_ints {K : PySem.W.Frag} {H : Hp} : ∀ {ns : List Int} {vs : List V}, DpAll K H vs (ns.map PyData.int) → vs = ns.map V.int
  | [], _, .nil => rfl
  | n :: r, _, .cons h t => by
    cases h
    rw [dpAll_ints t]
    rfl
theorem dp_of_dI {K : PySem.W.Frag} {H : Hp} {v : V} {ns : List Int} (h : Dp K H v (dI ns)) : ∃ a, v = .ref a ∧ SqL K H a (ns.map V.int) := by
  cases h with
  | lst h t =>
    rw [dpAll_ints t] at h
    exact ⟨_, rfl, h⟩
/-! ### small words -/
theorem at_int {ns : List Int} {j : Nat} (h : j < ns.length) : atI (ns.map V.int) (j : Int) = some (.int ns[j]) := atI_nat (by rw [List.getElem?_map, List.getElem?_eq_getElem h]; rfl)
theorem at_intZ {ns : List Int} {z : Int} (h0 : 0 ≤ z) (h : z.toNat < ns.length) : atI (ns.map V.int) z = some (.int ns[z.toNat]) := by
  have e := at_int h
  rw [Int.toNat_of_nonneg h0] at e
  exact e
theorem szl {n : Nat} (h : n ≤ 100000) : n ≤ sizeLine := Nat.le_trans h (by decide)
theorem szt {n : Nat} (h : n < 100000) : n < sizeLine := Nat.lt_of_lt_of_le h (by decide)
theorem iteB {b : Bool} {A B : Prop} (h1 : b = true → A) (h2 : b = false → B) : if b = true then A else B := by
  cases b with
  | true => rw [if_pos rfl]; exact h1 rfl
  | false => rw [if_neg Bool.false_ne_true]; exact h2 rfl
theorem iteD {c : Prop} [Decidable c] {A B : Prop} (h1 : c → A) (h2 : ¬ c → B) : if decide c = true then A else B :=
  iteB (fun h => h1 (of_decide_eq_true h)) (fun h => h2 (of_decide_eq_false h))
theorem iteN {c : Prop} [Decidable c] {A B : Prop} (h1 : ¬ c → A) (h2 : c → B) : if (!decide c) = true then A else B :=
  iteB (fun h => h1 (fun z => by rw [decide_eq_true z] at h; cases h)) (fun h => h2 (by
    by_cases z : c
    · exact z
    · rw [decide_eq_false z] at h; cases h))
theorem iteTo {b : Bool} {A B : Prop} (e : b = true) (h : A) : if b = true then A else B := by rw [if_pos e]; exact h
theorem iteFo {b : Bool} {A B : Prop} (e : b = false) (h : B) : if b = true then A else B := by rw [e, if_neg Bool.false_ne_true]; exact h
/-! ### rules with the written part by its own name (inside a comprehension) -/
section
variable {X : Cx} (K : PySem.W.Frag)
theorem ix_listK (h : X.K = K) : IxR X (rIxL K) := h ▸ ix_list
theorem ix_tupK (h : X.K = K) : IxR X (rIxT K) := h ▸ ix_tup
theorem ix_seqK (h : X.K = K) : IxR X (rIx K) := h ▸ ix_seq
def rLenSq : List V → Hp → VK → Prop := fun xs H Q => ∃ p ys, xs = [.ref p] ∧ (SqL K H p ys ∨ SqT K H p ys) ∧ Q (.int ys.length) H
theorem call_lenSK (h : X.K = K) : CallR X (.builtin "len") (rLenSq K) := h ▸ call_len_seq
def rLenV : List V → Hp → VK → Prop := fun xs H Q => ∃ x n, xs = [x] ∧ LenV K x H n ∧ Q (.int n) H
theorem call_lenK (h : X.K = K) : CallR X (.builtin "len") (rLenV K) := h ▸ call_len
theorem op_inK (h : X.K = K) : OpR X (compareOp .In) (rIn K false) := h ▸ op_in_seq
theorem op_notInK (h : X.K = K) : OpR X (compareOp .NotIn) (rIn K true) := h ▸ op_notIn_seq
theorem op_eqDK (h : X.K = K) (hu : X.A.units + 64 < cLine) : OpR X (compareOp .Eq) (rEqD K) := h ▸ op_eqD hu
theorem op_neDK (h : X.K = K) (hu : X.A.units + 64 < cLine) : OpR X (compareOp .NotEq) (rNeD K) := h ▸ op_neD hu
theorem call_isiKK (h : X.K = K) : CallR X (.builtin "isinstance") (rIsi K) := h ▸ call_isi
end
section
variable {X : Cx} (K : PySem.W.Frag)
theorem pgK {e : Expr} {n : Nat} {t : TGs} (h : X.K = K) (p : PG X e (gTup X.K n t)) : PG X e (gTup K n t) := h ▸ p
/-- isinstance(e, C), e what the suite has caught (without or with a dict of its own) -/
def rIsX (cls : Value) (d : Option Addr) (a : Addr) : List V → Hp → VK → Prop := fun xs H Q => ∃ (D : Addr) (c : V) (cv : Value) (b : Bool), cls = .ref D ∧ (d = none ∨ ∃ dd fs, d = some dd ∧ H dd = some (.xd fs)) ∧ ExcC K D ∧ xs = [.ref a, c] ∧ ClsV c cv ∧ PySem.W.kitOne K (.ref D) cv = some b ∧ Q (.bl b) H
theorem call_isX {a : Addr} {oe : Obj} {pn : List (Addr × Obj)} {cls : Value} {d : Option Addr} (h : X.K = K) (hz : Zc cls d oe) (hf : ∃ vs, oe.data = .fields vs) : CallR (X.suite a ((a, oe) :: pn)) (.builtin "isinstance") (rIsX K cls d a) := by
  subst h
  intro pins s σ H xs us Q I r h'
  obtain ⟨D, c, cv, b, rfl, hd, C, rfl, hc, hk, q⟩ := h'
  cases r with | cons rx rr =>
  cases rr with | cons rt rr =>
  cases rr
  cases rx
  have ec := hc.eq rt
  subst ec
  obtain ⟨hget, _⟩ := I.pin (a, oe) (List.mem_append_left _ List.mem_cons_self)
  obtain ⟨vs, hv⟩ := hf
  have hcl : (PySem.W.clsIn X.K D).isSome = true := by
    obtain ⟨cd, hc, _⟩ := PySem.W.any_some C.hd
    rw [hc]
    first | rfl | done
  have nc : PySem.W.notCls oe = true := by
    unfold PySem.W.notCls
    rw [hv]
  rcases hd with rfl | ⟨dd, fs, rfl, hdd⟩
  · have J : PySem.W.InstAt s.heap a oe D none := ⟨hget, hz.1, nc, by rw [hz.2]; trivial⟩
    exact PySem.W.kia_one (PySem.W.kitx_exc hcl C.hg C.hk C.hs C.ha C.hn C.ht C.hm) I.kIn J hk (fun z => nomatch z) fun tk => ⟨.bl b, H, I.kept (t' := tk) fun _ _ z => z, rfl, q⟩
  · obtain ⟨mA, hns, hr⟩ := I.hok dd _ hdd
    obtain ⟨od, ho, hl⟩ := lookIn_ns hns
    have J : PySem.W.InstAt s.heap a oe D (some od) := ⟨hget, hz.1, nc, by rw [hz.2]; exact ho⟩
    exact PySem.W.kia_one (PySem.W.kitx_exc hcl C.hg C.hk C.hs C.ha C.hn C.ht C.hm) I.kIn J hk (fun z => nomatch z) fun tk => ⟨.bl b, H, I.kept (t' := tk) fun _ _ z => z, rfl, q⟩
end
/-! ### isinstance of an own error, by what the written part says of its class -/
theorem kit_sub {K : PySem.W.Frag} {t : Value} {C : Addr} (ic : PySem.W.isClsIn K C = true) (tC : PySem.W.typeIn K (.ref C) = some (.type "type")) (h : PySem.W.subIn K t (.ref C) = some true) : PySem.W.kitOne K t (.ref C) = some true := by
  unfold PySem.W.kitOne
  by_cases e : (t == .ref C) = true
  · rw [if_pos e]
  · rw [if_neg e]
    have h2 : ((PySem.W.clsIn K C).isSome && PySem.W.typeIn K (.ref C) == some (.type "type")) = true := by
      have q : (PySem.W.clsIn K C).isSome = true := ic
      rw [q, tC]
      rfl
    show (if ((PySem.W.clsIn K C).isSome && PySem.W.typeIn K (.ref C) == some (.type "type")) = true then PySem.W.subIn K t (.ref C) else none) = some true
    rw [if_pos h2]
    exact h
theorem kit_not {K : PySem.W.Frag} {t : Value} {C : Addr} (ic : PySem.W.isClsIn K C = true) (tC : PySem.W.typeIn K (.ref C) = some (.type "type")) (h : PySem.W.subIn K t (.ref C) = some false) (hs : PySem.W.subIn K t t = some true) : PySem.W.kitOne K t (.ref C) = some false := by
  unfold PySem.W.kitOne
  have e : ¬ (t == .ref C) = true := fun e => by
    have z : t = .ref C := by simpa using e
    rw [z] at h hs
    rw [h] at hs
    cases hs
  rw [if_neg e]
  have h2 : ((PySem.W.clsIn K C).isSome && PySem.W.typeIn K (.ref C) == some (.type "type")) = true := by
    have q : (PySem.W.clsIn K C).isSome = true := ic
    rw [q, tC]
    rfl
  show (if ((PySem.W.clsIn K C).isSome && PySem.W.typeIn K (.ref C) == some (.type "type")) = true then PySem.W.subIn K t (.ref C) else none) = some false
  rw [if_pos h2]
  exact h
theorem meta_ve : PySem.W.kitMeta "ValueError" = true := by decide +kernel
theorem kit_ve {K : PySem.W.Frag} {C : Addr} (h : PySem.W.subIn K (.ref C) (.type "ValueError") = some true) : PySem.W.kitOne K (.ref C) (.type "ValueError") = some true := by
  unfold PySem.W.kitOne
  rw [if_neg (by intro z; cases z)]
  show (if PySem.W.kitMeta "ValueError" = true then PySem.W.subIn K (.ref C) (.type "ValueError") else none) = some true
  rw [if_pos meta_ve]
  exact h
theorem at_mod (z : Str) {m : Int} {n : Nat} (hn : 0 < n) (hl : z.cps.toList.length = n) : ∃ c, atI z.cps.toList (m % (n : Int)) = some c := by
  have h0 : 0 ≤ m % (n : Int) := Int.emod_nonneg _ (by omega)
  have h1 : m % (n : Int) < (n : Int) := Int.emod_lt_of_pos _ (by omega)
  have hj : (m % (n : Int)).toNat < z.cps.toList.length := by omega
  refine ⟨z.cps.toList[(m % (n : Int)).toNat], ?_⟩
  have e := atI_nat (List.getElem?_eq_getElem hj)
  rw [Int.toNat_of_nonneg h0] at e
  exact e
theorem cutV_map {lo hi : Option Int} {ns : List Int} : ∃ ms : List Int, cutV (ns.map V.int) lo hi = ms.map V.int ∧ (∀ m ∈ ms, m ∈ ns) ∧ ms.length ≤ ns.length := by
  unfold cutV
  rw [List.length_map]
  refine ⟨(ns.drop _).take _, by rw [List.map_take, List.map_drop], fun m h => List.mem_of_mem_drop (List.mem_of_mem_take h), ?_⟩
  rw [List.length_take, List.length_drop]
  omega
theorem mem_ints {ns : List Int} {i : Nat} {x : V} (h : (ns.map V.int)[i]? = some x) : ∃ z, z ∈ ns ∧ x = .int z ∧ ns[i]? = some z := by
  rw [List.getElem?_map] at h
  cases e : ns[i]? with
  | none =>
    rw [e] at h
    cases h
  | some z =>
    rw [e] at h
    exact ⟨z, List.mem_of_getElem? e, (Option.some.inj h).symm, rfl⟩
theorem mem_strs {ns : List Str} {i : Nat} {x : V} (h : (ns.map V.str)[i]? = some x) : ∃ z, z ∈ ns ∧ x = .str z ∧ ns[i]? = some z := by
  rw [List.getElem?_map] at h
  cases e : ns[i]? with
  | none =>
    rw [e] at h
    cases h
  | some z =>
    rw [e] at h
    exact ⟨z, List.mem_of_getElem? e, (Option.some.inj h).symm, rfl⟩
theorem take_snoc {α : Type} {l : List α} {i : Nat} {z : α} (h : l[i]? = some z) : l.take (i + 1) = l.take i ++ [z] := by
  rw [List.take_succ, h]
  rfl
/-! ### all(test for x in a text): the test may read the module's names -/
section
open GxR
variable {X : Cx} {pins : List (Addr × Obj)} {σ : L2.St} {H : Hp} {s : Shared}
/-- the test of one sign, the module's names being mg -/
def EltG (prog : Program) (w : World) (mg : Str → Option Value) (sco : Scope) (x : Str) (elt : Expr) (pb : Nat → Bool) : Prop :=
  ∀ (en : Env) (B : Around) (F : Value → Shared → Prop) (c : Nat) (t : Tok) (z : Shared) (m : Str → Option Value),
    en.scope = sco → en.globals = mainGlobals → z.heap.Ns mainGlobals mg → z.heap.Ns en.locals m → m x = some (.str ⟨#[c]⟩ t) →
    wpAny (model prog w) B (eval elt en) (fun y z' => y = .bool (pb c) ∧ Keeps z z') F z
theorem elt_inG {prog : Program} {w : World} {mg : Str → Option Value} {sco : Scope} {x g : Str} {L : Str} {tl : Tok} {p1 p2 p3 : Pos} (kf : sco.kind = .function) (lx : sco.names.lookup x = some .local) (lg : sco.names.lookup g = some .globalImplicit)
    (hL : mg g = some (.str L tl)) (dx : (x == ("__debug__" : Str)) = false := by decide) (dg : (g == ("__debug__" : Str)) = false := by decide) :
    EltG prog w mg sco x (.Compare (.Name x p1) [.In] [.Name g p2] p3) (fun c => decide (c ∈ L.cps.toList)) := by
  intro en B F c t z m es eg ng nl hm
  have kk : en.scope.kind = .function := by rw [es]; exact kf
  refine wpAny_Compare1 ?_ rfl
  refine wpAny_Name (wpAny_loadName_local kk (show en.scope.names.lookup x = some .local by rw [es]; exact lx) nl hm ?_) dx
  refine Calls.Name_function_global kk (show en.scope.names.lookup g = some .globalImplicit by rw [es]; exact lg) (Calls.loadGlobal_global (mg := mg) (by rw [eg]; exact ng) hL ?_) dg
  refine PyProof.Rows.in_str ⟨?_, keeps_refl _⟩
  rw [PySem.StrLaws.found_one L c]
theorem gen_signs {c P : Addr} {elt src : Expr} {x : Str} {px gp : Pos} {sco : Scope} {pb : Nat → Bool} {te : TE} {k : Nat} {Z : Value → Shared → Prop} {R : Str → Hp → Prop}
    (hr : Room k X.A) (TB : TabB X.base X.mg c P) (hco : X.env.code = .ref c) (S : GenS X.env sco x) (hi : PE X src te) (hel : EltG X.prog X.w X.mg sco x elt pb)
    (hs : ∀ v, genFold src X.env v = pure v) (I : Inv X pins σ H s) (h : te σ H fun v H1 => ∃ a : Str, v = .str a ∧ TabG H1 P ∧ R a H1)
    (hZ : ∀ a H1 g z, R a H1 → Ready X pins σ H1 P a pb g z → Z (.ref g) z) :
    wpAny (model X.prog X.w) X.A (eval (.GeneratorExp elt [⟨.Name x px, src, [], 0⟩] sco gp) X.env) Z X.xe s := by
  refine wpAny_GeneratorExp_walksQ hr.hd S.co (closure_ok S.free) S.cell S.dot S.loc S.kind (by have d := hr.dp; omega) ?_ hs
  refine thn (hi.run pins s σ H _ I h) fun xv z1 ⟨v, H1, J, r1, q⟩ => ?_
  obtain ⟨a, rfl, ⟨ps, hP, ht⟩, q⟩ := q
  obtain ⟨t, rfl⟩ := _root_.id r1
  refine wpAny_pyIter_str fun it St W w0 => ?_
  have gP : z1.heap.get? P = some { cls := .none, data := .fields ps } := J.hok P _ hP
  have gP2 : (z1.heap.push it).get? P = some { cls := .none, data := .fields ps } := Heap.get?_push_of_some _ gP
  have ltP : P < z1.heap.objs.size := Heap.lt_size gP
  have hd2 : PySem.W.CodeHd (z1.heap.push it) c P := TB.code.keeps fun b u e => Heap.get?_push_of_some _ (J.bk b u e)
  have nl2 : (z1.heap.push it).NoLimit := J.nolimit.push it
  have go : ∀ (code : Value) (hh : Heap) (tk : Nat) (qs : Array Value), Heap.ExtBut P (z1.heap.push it) hh → (z1.heap.push it).objs.size ≤ hh.objs.size →
      hh.get? P = some { cls := .none, data := .fields qs } → (∃ more, qs = ps ++ more) → TriplesOk qs.toList →
      wpAny (model X.prog X.w) X.A (builtinsFor X.env.globals X.env.builtins) (fun bi s₄ =>
        ∃ Ia fp wr n₀ Pf St₀ pz F, Value.ref z1.heap.objs.size = .ref Ia ∧ (∀ A' : Around, A'.handled = none → Walks X.prog X.w A' Ia fp wr n₀ Pf St₀) ∧
          St₀ 0 s₄.heap ∧ (∀ b ∈ fp, b < s₄.heap.objs.size) ∧ s₄.heap.NoLimit ∧ cStatics ∉ wr ∧
          (∀ hf : Heap, (∀ b o, s₄.heap.get? b = some o → hf.get? b = some o) →
            QuietGen X.prog X.w (genEnv sco (cloFrom X.env.cells sco.names []) s₄.heap.objs.size code bi X.env) x [] elt (List.range s₄.heap.objs.size) wr Pf pz F hf) ∧
          (∀ a h₅ tk gs, gs.bare = true → s₄.heap.objs.size < a → h₅.objs.size = a + 1 → (∀ b o, s₄.heap.get? b = some o → h₅.get? b = some o) →
            WalksS X.prog X.w X.A.in4 a (a :: s₄.heap.objs.size :: List.range s₄.heap.objs.size) (s₄.heap.objs.size :: wr) (GenOnlyQ s₄.gens.size)
              (passing pz n₀ 0).length (fun j y => ∃ i, (passing pz n₀ 0)[j]? = some i ∧ F i y)
              (GenAt X.prog X.w X.A.in4 a s₄.gens.size s₄.heap.objs.size (List.range s₄.heap.objs.size) wr pz n₀ F) →
            GenAt X.prog X.w X.A.in4 a s₄.gens.size s₄.heap.objs.size (List.range s₄.heap.objs.size) wr pz n₀ F 0 { s₄ with gens := s₄.gens.push gs, toks := tk, heap := h₅ } →
            Z (.ref a) { s₄ with gens := s₄.gens.push gs, toks := tk, heap := h₅ })) X.xe { z1 with heap := hh, toks := tk } := by
    intro code hh tk qs ex sz gq mr tq
    obtain ⟨bm, ob, b1, b2, b3, b4, b5, b6, b7, b8⟩ := TB.bm
    have neS : cStatics ≠ P := fun e => by
      obtain ⟨_, ns, _⟩ := J.nolimit
      obtain ⟨oo, es, ep, go1, gd, _⟩ := ns
      rw [e, gP] at go1
      cases go1
      cases gd
    have ltS : cStatics < z1.heap.objs.size := let ⟨_, ns, _⟩ := J.nolimit; ns.lt
    have szp : (z1.heap.push it).objs.size = z1.heap.objs.size + 1 := Heap.size_push ..
    have kp : ∀ b u, b ≠ P → z1.heap.get? b = some u → hh.get? b = some u := fun b u hb e => ex b u hb (Heap.get?_push_of_some _ e)
    have gl1 : z1.heap.Ns mainGlobals X.mg := J.mod.glob.keeps J.bk
    have glh : hh.Ns mainGlobals X.mg := (gl1.push it).extBut ex TB.gP
    refine wpAny_builtinsFor (m := X.mg) (by rw [J.ok.glob]; exact glh) b1 b2 (kp _ _ b4 (J.bk _ _ b5)) b6 b7 b8 ?_
    refine ⟨z1.heap.objs.size, [z1.heap.objs.size], [z1.heap.objs.size], a.cps.size, SignAt a, St, (fun _ => true), (fun i y => ∃ cc, a.cps[i]? = some cc ∧ y = .bool (pb cc)), rfl, W, ?_, ?_, nl2.extBut ex neS, ?_, ?_, ?_⟩
    · refine (W X.A hr.hd).frame _ _ _ w0 fun b hb u e => ex b u (fun eq => ?_) e
      rw [List.mem_singleton.mp hb] at eq
      exact Nat.ne_of_lt ltP eq.symm
    · intro b hb
      rw [List.mem_singleton.mp hb]
      show z1.heap.objs.size < hh.objs.size
      omega
    · exact fun m => Nat.ne_of_lt ltS (List.mem_singleton.mp m)
    · intro hf keep
      refine ⟨fun A' E' i v z2 m2 _ _ _ _ _ => ?_, fun A' E' i v z2 m2 _ hv _ hn hm hk => ?_⟩
      · simp only [List.forIn_nil]
        exact wpAny_pure ⟨rfl, keeps_refl _⟩
      · obtain ⟨cc, u, hcc, rfl⟩ := hv
        have ngl : z2.heap.Ns mainGlobals X.mg := by
          have lt1 : mainGlobals < z1.heap.objs.size := gl1.lt
          obtain ⟨og, es, ep, e1, er⟩ := glh
          exact ⟨og, es, ep, hk mainGlobals (List.mem_range.mpr (Heap.lt_size e1)) (fun m => Nat.ne_of_lt lt1 (List.mem_singleton.mp m)) og (keep _ _ e1), er⟩
        exact wpAny_mono (hel _ A' E' cc u z2 m2 rfl J.ok.glob ngl hn hm) (fun y z3 r => ⟨⟨cc, hcc, r.1⟩, r.2⟩) fun _ _ e => e
    · intro g h5 tk5 gs bare lt5 sz5 k5 W5 at5
      simp only [GxR.passing_true, List.length_range] at W5
      refine hZ a H1 g _ q ⟨_, _, _, _, _, W5.in4_1, at5, ?_, fun z' mv => ?_⟩
      · intro j y sj Qj Ej hy hQj
        obtain ⟨i, hij, cc, hcc, rfl⟩ := hy
        obtain ⟨lj, ej⟩ := List.getElem?_eq_some_iff.mp hij
        rw [List.getElem_range] at ej
        subst ej
        have e9 : a.cps.toList[j]? = some cc := by rw [Array.getElem?_toList]; exact hcc
        have hQ2 : Qj (trF pb a.cps.toList j) sj := hQj
        rw [trF_some e9] at hQ2
        exact wpAny_truthy_bool hQ2
      · obtain ⟨more, em⟩ := mr
        have out : ∀ b u, z1.heap.get? b = some u → b ∉ hh.objs.size :: [z1.heap.objs.size] := fun b u e hb => by
          have lt := Heap.lt_size e
          rcases List.mem_cons.mp hb with y | y
          · rw [y] at lt
            have lt' : (hh.objs.size : Nat) < z1.heap.objs.size := lt
            omega
          · rw [List.mem_singleton.mp y] at lt
            exact Nat.lt_irrefl _ lt
        have J2 := inv_tab (more := more) (h' := z'.heap) (g' := z'.gens) (d' := z'.drawn) (t' := z'.toks) J hP
          (fun b u hb e => mv.heap b u (out b u e) (k5 b u (kp b u hb e)))
          (by rw [← em]; exact mv.heap P _ (out P _ gP) (k5 P _ gq))
          (AllBare.movedS (J.bare.push bare) mv)
        rw [sh_eta z1 z' mv.os] at J2
        exact ⟨upd H1 P (.tbl (ps ++ more)), ⟨⟨ps ++ more, upd_same, by rw [← em]; exact tq⟩, fun b hb => upd_ne hb⟩, J2⟩
  refine ⟨nl2, ?_⟩
  cases hf : codeAmong gp ps.toList with
  | none =>
    refine wpAny_genexprCodeX hco (hd2.code gP2 ht) (hd2.tab gP2) hf fun c' h' tk ex ge lt hc' _ tab' _ => ?_
    obtain ⟨_, _, _, _, _, _, _, _, _, _, _, _, _, _, _, _, _, _, _, tr, _⟩ := hc'
    exact go _ h' tk _ ex (Nat.le_trans ge (Nat.le_of_lt lt)) tab'.2 ⟨_, rfl⟩ tr
  | some cv =>
    refine wpAny_genexprCode_hit hco (hd2.code gP2 ht) hf ?_
    exact go cv (z1.heap.push it) z1.toks ps (Heap.ExtBut.refl _ _) (Nat.le_refl _) gP2 ⟨#[], by simp⟩ ht
theorem pe_allG {c P : Addr} {elt src : Expr} {x : Str} {px p pos gp : Pos} {sco : Scope} {pb : Nat → Bool} {te : TE} {k : Nat}
    (hr : Room k X.A) (hg : Gl X "all") (hm : X.mg "all" = none) (hb : bootBuiltins "all" = some (.builtin "all")) (TB : TabB X.base X.mg c P) (hco : X.env.code = .ref c) (S : GenS X.env sco x) (hi : PE X src te) (hel : EltG X.prog X.w X.mg sco x elt pb)
    (hs : ∀ v, genFold src X.env v = pure v)
    (he : starEach [.GeneratorExp elt [⟨.Name x px, src, [], 0⟩] sco gp] X.env = (false, eval (.GeneratorExp elt [⟨.Name x px, src, [], 0⟩] sco gp) X.env) :: starEach [] X.env := by rfl) :
    PE X (.Call (.Name "all" p) [.GeneratorExp elt [⟨.Name x px, src, [], 0⟩] sco gp] [] pos) (tAllS P pb te) := by
  refine ⟨fun pins z σ H Q I h => ?_⟩
  refine wpAny_Call_Name_kw (ld_blt I hg hm hb (PyProof.Rows.callWith_builtin1 ?_ he (by rfl)))
  rw [he]
  show wpAny _ _ (spliced ((false, eval (.GeneratorExp elt [⟨.Name x px, src, [], 0⟩] sco gp) X.env) :: backTo pos (starEach [] X.env))) _ _ z
  refine Calls.spliced_cons (gen_signs (R := fun a H1 => ∀ H2, Tabbed P H1 H2 → Q (.bl (a.cps.toList.all pb)) H2) hr TB hco S hi hel hs I h fun a H1 g z5 hR hG => ?_)
  obtain ⟨fp, wr, G, F, St, W, st0, tru, fin⟩ := hG
  refine Calls.spliced_nil (call_all_walkS (W.self 0 _ _ _ st0 ⟨g, fp, wr, G, _, F, St, _, rfl, W, st0, tru, fun z' mv => ?_⟩))
  obtain ⟨H2, tb, J⟩ := fin z' mv
  refine ⟨.bl _, H2, J, rfl, ?_⟩
  rw [all_signs a pb]
  exact hR H2 tb
/-- a table may grow -/
theorem kp_tabbed {P : Addr} {H H' : Hp} (h : TabG H P) (t : Tabbed P H H') : Kp H H' := by
  obtain ⟨ps, hP, _⟩ := h
  obtain ⟨⟨qs, hQ, tq⟩, e⟩ := t
  refine ⟨fun b o n hb => ?_, fun b hb => ?_, fun b hb => ?_⟩
  · have ne : b ≠ P := fun z => by
      rw [z, hP] at hb
      cases hb
      cases n
    rw [e b ne]
    exact hb
  · by_cases z : b = P
    · rw [z]
      exact ⟨qs, hQ, tq⟩
    · obtain ⟨rs, h1, h2⟩ := hb
      exact ⟨rs, by rw [e b z]; exact h1, h2⟩
  · by_cases z : b = P
    · rw [z, hQ] at hb
      cases hb
    · rw [e b z] at hb
      exact hb
end

/-! ### all(test for x in a list of ints): the test may read the module's names -/
section
open GxR
variable {X : Cx} {pins : List (Addr × Obj)} {σ : L2.St} {H : Hp} {s : Shared}
/-- the test of one int, the module's names being mg -/
def EltI (prog : Program) (w : World) (mg : Str → Option Value) (sco : Scope) (x : Str) (elt : Expr) (pb : Int → Bool) : Prop :=
  ∀ (en : Env) (B : Around) (F : Value → Shared → Prop) (c : Int) (t : Tok) (z : Shared) (m : Str → Option Value),
    en.scope = sco → en.globals = mainGlobals → z.heap.Ns mainGlobals mg → z.heap.Ns en.locals m → m x = some (.int c t) →
    wpAny (model prog w) B (eval elt en) (fun y z' => y = .bool (pb c) ∧ Keeps z z') F z
theorem keeps_tok {z : Shared} (k : Nat) : Keeps z { z with toks := k } := ⟨z.heap, k, rfl, fun _ _ e => e⟩
/-- 1 <= x <= G, G a module's int -/
theorem elt_chain {prog : Program} {w : World} {mg : Str → Option Value} {sco : Scope} {x g : Str} {lo hi : Int} {tl : Tok} {p0 p1 p2 p3 : Pos} {kk : Nat} (kf : sco.kind = .function) (lx : sco.names.lookup x = some .local) (lg : sco.names.lookup g = some .globalImplicit)
    (hL : mg g = some (.int hi tl)) (dx : (x == ("__debug__" : Str)) = false := by decide) (dg : (g == ("__debug__" : Str)) = false := by decide) :
    EltI prog w mg sco x (.Compare (.Constant (.int lo) kk p0) [.LtE, .LtE] [.Name x p1, .Name g p2] p3) (fun c => decide (lo ≤ c) && decide (c ≤ hi)) := by
  intro en B F c t z m es eg ng nl hm
  have kf' : en.scope.kind = .function := by rw [es]; exact kf
  refine Compare_chain (wpAny_Constant_int (chain_link ?_)) (by with_unfolding_all rfl)
  refine wpAny_Name (wpAny_loadName_local kf' (show en.scope.names.lookup x = some .local by rw [es]; exact lx) nl hm ?_) dx
  refine le_int (wpAny_truthy_bool ?_)
  by_cases h1 : lo ≤ c
  · rw [decide_eq_true h1]
    refine ite_tt (chain_last ?_)
    refine Calls.Name_function_global kf' (show en.scope.names.lookup g = some .globalImplicit by rw [es]; exact lg) (Calls.loadGlobal_global (mg := mg) (by rw [eg]; exact ng) hL ?_) dg
    refine le_int ⟨?_, keeps_tok _⟩
    show Value.bool (decide (c ≤ hi)) = Value.bool (decide (lo ≤ c) && decide (c ≤ hi))
    rw [decide_eq_true h1, Bool.true_and]
  · rw [decide_eq_false h1]
    refine ite_ff ⟨?_, keeps_tok _⟩
    show Value.bool false = Value.bool (decide (lo ≤ c) && decide (c ≤ hi))
    rw [decide_eq_false h1, Bool.false_and]
def trI (pb : Int → Bool) (l : List Int) (j : Nat) : Bool := match l[j]? with
  | some b => pb b
  | none => false
theorem trI_some {pb : Int → Bool} {l : List Int} {j : Nat} {b : Int} (h : l[j]? = some b) : trI pb l j = pb b := by
  unfold trI
  rw [h]
theorem all_trI (l : List Int) (pb : Int → Bool) : (List.range l.length).all (trI pb l) = l.all pb := by
  rw [Bool.eq_iff_iff, List.all_eq_true, List.all_eq_true]
  constructor
  · intro h b hb
    obtain ⟨j, hj, e⟩ := List.mem_iff_getElem.mp hb
    have z := h j (List.mem_range.mpr hj)
    rw [trI_some (List.getElem?_eq_getElem hj), e] at z
    exact z
  · intro h j hj
    have hj' := List.mem_range.mp hj
    rw [trI_some (List.getElem?_eq_getElem hj')]
    exact h _ (List.getElem_mem hj')
def ReadyI (X : Cx) (pins : List (Addr × Obj)) (σ : L2.St) (H1 : Hp) (P : Addr) (a : List Int) (pb : Int → Bool) (g : Addr) (s5 : Shared) : Prop :=
  ∃ (fp wr : List Addr) (G : Array GenState → Array GenState → Prop) (F : Nat → Value → Prop) (St : Nat → Shared → Prop),
    WalksS X.prog X.w X.A.in1 g fp wr G a.length F St ∧ St 0 s5 ∧
    TruthOf X.prog X.w X.A.in1 F (trI pb a) ∧
    ∀ s', Moved wr G s5 s' → ∃ H2, Tabbed P H1 H2 ∧ Inv X pins σ H2 s'
theorem gen_ints {c P : Addr} {elt src : Expr} {x : Str} {px gp : Pos} {sco : Scope} {pb : Int → Bool} {te : TE} {k : Nat} {Z : Value → Shared → Prop} {R : List Int → Hp → Prop}
    (hr : Room k X.A) (TB : TabB X.base X.mg c P) (hco : X.env.code = .ref c) (S : GenS X.env sco x) (hi : PE X src te) (hel : EltI X.prog X.w X.mg sco x elt pb)
    (hs : ∀ v, genFold src X.env v = pure v) (I : Inv X pins σ H s) (h : te σ H fun v H1 => ∃ (yl : Addr) (a : List Int), v = .ref yl ∧ SqL X.K H1 yl (a.map V.int) ∧ TabG H1 P ∧ R a H1)
    (hZ : ∀ a H1 g z, R a H1 → ReadyI X pins σ H1 P a pb g z → Z (.ref g) z) :
    wpAny (model X.prog X.w) X.A (eval (.GeneratorExp elt [⟨.Name x px, src, [], 0⟩] sco gp) X.env) Z X.xe s := by
  refine wpAny_GeneratorExp_walksQ hr.hd S.co (closure_ok S.free) S.cell S.dot S.loc S.kind (by have d := hr.dp; omega) ?_ hs
  refine thn (hi.run pins s σ H _ I h) fun xv z1 ⟨v, H1, J, r1, q⟩ => ?_
  obtain ⟨yl, a, rfl, hyl, ⟨ps, hP, ht⟩, q⟩ := q
  obtain rfl : xv = Value.ref yl := r1
  obtain ⟨its, rv, hl, hz⟩ := J.list hyl
  have hIL := hl.isList
  have hlen : its.length = a.length := by rw [← rv.length, List.length_map]
  have hat : ∀ (i : Nat) (v : Value), its.toArray[i]? = some v → ∃ (n : Int) (u : Tok), a[i]? = some n ∧ v = .int n u := fun i v hv => by
    have hv2 : its[i]? = some v := by simpa using hv
    have hi2 : i < its.length := (List.getElem?_eq_some_iff.mp hv2).1
    obtain ⟨n, ha⟩ : ∃ n, a[i]? = some n := ⟨a[i]'(by omega), List.getElem?_eq_getElem _⟩
    have hb : (a.map V.int)[i]? = some (V.int n) := by rw [List.getElem?_map, ha] <;> rfl
    obtain ⟨u, hu, ru⟩ := rv.get hb
    rw [hv2] at hu
    cases hu
    obtain ⟨t, e⟩ := (show ∃ t, v = Value.int n t from ru)
    exact ⟨n, t, ha, e⟩
  refine wpAny_pyIter_list hIL ?_
  generalize ho : ({ cls := .type "list_iterator", data := .fields #[.ref yl, .int 0 0] } : Obj) = it
  have hitr : (z1.heap.push it).IsListIter z1.heap.objs.size yl 0 := by
    subst ho
    exact ⟨_, Heap.get?_push_size _ rfl, rfl, rfl⟩
  have hylt : yl < z1.heap.objs.size := by
    obtain ⟨_, e, _⟩ := _root_.id hIL
    exact Heap.lt_size e
  have gP : z1.heap.get? P = some { cls := .none, data := .fields ps } := J.hok P _ hP
  have gP2 : (z1.heap.push it).get? P = some { cls := .none, data := .fields ps } := Heap.get?_push_of_some _ gP
  have ltP : P < z1.heap.objs.size := Heap.lt_size gP
  have hd2 : PySem.W.CodeHd (z1.heap.push it) c P := TB.code.keeps fun b u e => Heap.get?_push_of_some _ (J.bk b u e)
  have nl2 : (z1.heap.push it).NoLimit := J.nolimit.push it
  have go : ∀ (code : Value) (hh : Heap) (tk : Nat) (qs : Array Value), Heap.ExtBut P (z1.heap.push it) hh → (z1.heap.push it).objs.size ≤ hh.objs.size →
      hh.get? P = some { cls := .none, data := .fields qs } → (∃ more, qs = ps ++ more) → TriplesOk qs.toList →
      wpAny (model X.prog X.w) X.A (builtinsFor X.env.globals X.env.builtins) (fun bi s₄ =>
        ∃ Ia fp wr n₀ Pf St₀ pz F, Value.ref z1.heap.objs.size = .ref Ia ∧ (∀ A' : Around, A'.handled = none → Walks X.prog X.w A' Ia fp wr n₀ Pf St₀) ∧
          St₀ 0 s₄.heap ∧ (∀ b ∈ fp, b < s₄.heap.objs.size) ∧ s₄.heap.NoLimit ∧ cStatics ∉ wr ∧
          (∀ hf : Heap, (∀ b o, s₄.heap.get? b = some o → hf.get? b = some o) →
            QuietGen X.prog X.w (genEnv sco (cloFrom X.env.cells sco.names []) s₄.heap.objs.size code bi X.env) x [] elt (List.range s₄.heap.objs.size) wr Pf pz F hf) ∧
          (∀ a h₅ tk gs, gs.bare = true → s₄.heap.objs.size < a → h₅.objs.size = a + 1 → (∀ b o, s₄.heap.get? b = some o → h₅.get? b = some o) →
            WalksS X.prog X.w X.A.in4 a (a :: s₄.heap.objs.size :: List.range s₄.heap.objs.size) (s₄.heap.objs.size :: wr) (GenOnlyQ s₄.gens.size)
              (passing pz n₀ 0).length (fun j y => ∃ i, (passing pz n₀ 0)[j]? = some i ∧ F i y)
              (GenAt X.prog X.w X.A.in4 a s₄.gens.size s₄.heap.objs.size (List.range s₄.heap.objs.size) wr pz n₀ F) →
            GenAt X.prog X.w X.A.in4 a s₄.gens.size s₄.heap.objs.size (List.range s₄.heap.objs.size) wr pz n₀ F 0 { s₄ with gens := s₄.gens.push gs, toks := tk, heap := h₅ } →
            Z (.ref a) { s₄ with gens := s₄.gens.push gs, toks := tk, heap := h₅ })) X.xe { z1 with heap := hh, toks := tk } := by
    intro code hh tk qs ex sz gq mr tq
    obtain ⟨bm, ob, b1, b2, b3, b4, b5, b6, b7, b8⟩ := TB.bm
    have neS : cStatics ≠ P := fun e => by
      obtain ⟨_, ns, _⟩ := J.nolimit
      obtain ⟨oo, es, ep, go1, gd, _⟩ := ns
      rw [e, gP] at go1
      cases go1
      cases gd
    have ltS : cStatics < z1.heap.objs.size := let ⟨_, ns, _⟩ := J.nolimit; ns.lt
    have szp : (z1.heap.push it).objs.size = z1.heap.objs.size + 1 := Heap.size_push ..
    have kp : ∀ b u, b ≠ P → z1.heap.get? b = some u → hh.get? b = some u := fun b u hb e => ex b u hb (Heap.get?_push_of_some _ e)
    have gl1 : z1.heap.Ns mainGlobals X.mg := J.mod.glob.keeps J.bk
    have glh : hh.Ns mainGlobals X.mg := (gl1.push it).extBut ex TB.gP
    refine wpAny_builtinsFor (m := X.mg) (by rw [J.ok.glob]; exact glh) b1 b2 (kp _ _ b4 (J.bk _ _ b5)) b6 b7 b8 ?_
    have hylP : yl ≠ P := fun z => by
      obtain ⟨_, e, hc1, _, hd1⟩ := _root_.id hIL
      rw [z, gP] at e
      cases e
      cases hd1
    have hIL3 : hh.IsList yl its.toArray := by
      obtain ⟨ob, e, r⟩ := _root_.id hIL
      exact ⟨ob, kp _ _ hylP e, r⟩
    have hItr3 : hh.IsListIter z1.heap.objs.size yl 0 := hitr.at fun u e => ex _ u (Nat.ne_of_gt ltP) e
    refine ⟨z1.heap.objs.size, [z1.heap.objs.size, yl], [z1.heap.objs.size], its.toArray.size, (fun i v => its.toArray[i]? = some v), (fun i h => h.IsListIter z1.heap.objs.size yl i ∧ h.IsList yl its.toArray), (fun _ => true),
      (fun i y => ∃ n : Int, a[i]? = some n ∧ y = .bool (pb n)), rfl, (fun A' hA => Walks.list hA _ _ (Nat.ne_of_lt hylt) _), ⟨hItr3, hIL3⟩, ?_, nl2.extBut ex neS, ?_, ?_, ?_⟩
    · intro b hb
      rcases List.mem_cons.mp hb with z | z
      · rw [z]
        show z1.heap.objs.size < hh.objs.size
        omega
      · rw [List.mem_singleton.mp z]
        have e9 : z1.heap.objs.size ≤ hh.objs.size := by omega
        exact Nat.lt_of_lt_of_le hylt e9
    · exact fun m => Nat.ne_of_lt ltS (List.mem_singleton.mp m)
    · intro hf keep
      refine ⟨fun A' E' i v z2 m2 _ _ _ _ _ => ?_, fun A' E' i v z2 m2 _ hv _ hn hm hk => ?_⟩
      · simp only [List.forIn_nil]
        exact wpAny_pure ⟨rfl, keeps_refl _⟩
      · obtain ⟨cc, u, hcc, rfl⟩ := hat i v hv
        have ngl : z2.heap.Ns mainGlobals X.mg := by
          have lt1 : mainGlobals < z1.heap.objs.size := gl1.lt
          obtain ⟨og, es, ep, e1, er⟩ := glh
          exact ⟨og, es, ep, hk mainGlobals (List.mem_range.mpr (Heap.lt_size e1)) (fun m => Nat.ne_of_lt lt1 (List.mem_singleton.mp m)) og (keep _ _ e1), er⟩
        exact wpAny_mono (hel _ A' E' cc u z2 m2 rfl J.ok.glob ngl hn hm) (fun y z3 r => ⟨⟨cc, hcc, r.1⟩, r.2⟩) fun _ _ e => e
    · intro g h5 tk5 gs bare lt5 sz5 k5 W5 at5
      simp only [GxR.passing_true, List.length_range] at W5
      have hn5 : its.toArray.size = a.length := by rw [List.size_toArray, hlen]
      rw [hn5] at W5 at5
      refine hZ a H1 g _ q ⟨_, _, _, _, _, W5.in4_1, at5, ?_, fun z' mv => ?_⟩
      · intro j y sj Qj Ej hy hQj
        obtain ⟨i, hij, cc, hcc, rfl⟩ := hy
        obtain ⟨lj, ej⟩ := List.getElem?_eq_some_iff.mp hij
        rw [List.getElem_range] at ej
        subst ej
        have hQ2 : Qj (trI pb a j) sj := hQj
        rw [trI_some hcc] at hQ2
        exact wpAny_truthy_bool hQ2
      · obtain ⟨more, em⟩ := mr
        have out : ∀ b u, z1.heap.get? b = some u → b ∉ hh.objs.size :: [z1.heap.objs.size] := fun b u e hb => by
          have lt := Heap.lt_size e
          rcases List.mem_cons.mp hb with y | y
          · rw [y] at lt
            have lt' : (hh.objs.size : Nat) < z1.heap.objs.size := lt
            omega
          · rw [List.mem_singleton.mp y] at lt
            exact Nat.lt_irrefl _ lt
        have J2 := inv_tab (more := more) (h' := z'.heap) (g' := z'.gens) (d' := z'.drawn) (t' := z'.toks) J hP
          (fun b u hb e => mv.heap b u (out b u e) (k5 b u (kp b u hb e)))
          (by rw [← em]; exact mv.heap P _ (out P _ gP) (k5 P _ gq))
          (AllBare.movedS (J.bare.push bare) mv)
        rw [sh_eta z1 z' mv.os] at J2
        exact ⟨upd H1 P (.tbl (ps ++ more)), ⟨⟨ps ++ more, upd_same, by rw [← em]; exact tq⟩, fun b hb => upd_ne hb⟩, J2⟩
  refine ⟨nl2, ?_⟩
  cases hf : codeAmong gp ps.toList with
  | none =>
    refine wpAny_genexprCodeX hco (hd2.code gP2 ht) (hd2.tab gP2) hf fun c' h' tk ex ge lt hc' _ tab' _ => ?_
    obtain ⟨_, _, _, _, _, _, _, _, _, _, _, _, _, _, _, _, _, _, _, tr, _⟩ := hc'
    exact go _ h' tk _ ex (Nat.le_trans ge (Nat.le_of_lt lt)) tab'.2 ⟨_, rfl⟩ tr
  | some cv =>
    refine wpAny_genexprCode_hit hco (hd2.code gP2 ht) hf ?_
    exact go cv (z1.heap.push it) z1.toks ps (Heap.ExtBut.refl _ _) (Nat.le_refl _) gP2 ⟨#[], by simp⟩ ht
def tAllI (K : PySem.W.Frag) (P : Addr) (pb : Int → Bool) (te : TE) : TE := fun σ H Q => te σ H fun v H1 => ∃ (yl : Addr) (a : List Int), v = .ref yl ∧ SqL K H1 yl (a.map V.int) ∧ TabG H1 P ∧ ∀ H2, Tabbed P H1 H2 → Q (.bl (a.all pb)) H2
theorem pe_allI {c P : Addr} {elt src : Expr} {x : Str} {px p pos gp : Pos} {sco : Scope} {pb : Int → Bool} {te : TE} {k : Nat}
    (hr : Room k X.A) (hg : Gl X "all") (hm : X.mg "all" = none) (hb : bootBuiltins "all" = some (.builtin "all")) (TB : TabB X.base X.mg c P) (hco : X.env.code = .ref c) (S : GenS X.env sco x) (hi : PE X src te) (hel : EltI X.prog X.w X.mg sco x elt pb)
    (hs : ∀ v, genFold src X.env v = pure v)
    (he : starEach [.GeneratorExp elt [⟨.Name x px, src, [], 0⟩] sco gp] X.env = (false, eval (.GeneratorExp elt [⟨.Name x px, src, [], 0⟩] sco gp) X.env) :: starEach [] X.env := by rfl) :
    PE X (.Call (.Name "all" p) [.GeneratorExp elt [⟨.Name x px, src, [], 0⟩] sco gp] [] pos) (tAllI X.K P pb te) := by
  refine ⟨fun pins z σ H Q I h => ?_⟩
  refine wpAny_Call_Name_kw (ld_blt I hg hm hb (PyProof.Rows.callWith_builtin1 ?_ he (by rfl)))
  rw [he]
  show wpAny _ _ (spliced ((false, eval (.GeneratorExp elt [⟨.Name x px, src, [], 0⟩] sco gp) X.env) :: backTo pos (starEach [] X.env))) _ _ z
  refine Calls.spliced_cons (gen_ints (R := fun a H1 => ∀ H2, Tabbed P H1 H2 → Q (.bl (a.all pb)) H2) hr TB hco S hi hel hs I h fun a H1 g z5 hR hG => ?_)
  obtain ⟨fp, wr, G, F, St, W, st0, tru, fin⟩ := hG
  refine Calls.spliced_nil (call_all_walkS (W.self 0 _ _ _ st0 ⟨g, fp, wr, G, _, F, St, _, rfl, W, st0, tru, fun z' mv => ?_⟩))
  obtain ⟨H2, tb, J⟩ := fin z' mv
  refine ⟨.bl _, H2, J, rfl, ?_⟩
  rw [all_trI a pb]
  exact hR H2 tb
end

/-! ### all(f(x) for x in a list of ints): f a def whose body is one return -/
section
open GxR
variable {X : Cx} {pins : List (Addr × Obj)} {σ : L2.St} {H : Hp} {s : Shared}
def EltD (prog : Program) (w : World) (K : PySem.W.Frag) (mg : Str → Option Value) (sco : Scope) (x : Str) (elt : Expr) (pb : Int → Bool) (D : Nat) : Prop :=
  ∀ (en : Env) (B : Around) (F : Value → Shared → Prop) (c : Int) (t : Tok) (z : Shared) (m : Str → Option Value),
    B.handled = none → B.depth ≤ D → en.scope = sco → en.globals = mainGlobals → z.heap.Ns mainGlobals mg → K.In z.heap → z.heap.NoLimit → z.heap.Ns en.locals m → m x = some (.int c t) →
    wpAny (model prog w) B (eval elt en) (fun y z' => y = .bool (pb c) ∧ Keeps z z') F z
theorem elt_call {prog : Program} {w : World} {K : PySem.W.Frag} {mg : Str → Option Value} {sco : Scope} {x fn y : Str} {f : Addr} {fd : FuncData} {st : Stmt} {e : Expr} {pb : Int → Bool} {N : List Str} {p p1 pos p4 : Pos} {D : Nat}
    (Fn : Fun K fn fn st f fd) (hg : mg fn = some (.ref f)) (hb : Binds K fd [y] []) (S : FnScope N [y] (defScope st)) (nc : ∀ q ∈ (defScope st).names, q.2 ≠ .cell) (hbd : defBody st = [.Return (some e) p4]) (hel : EltI prog w mg (defScope st) y e pb)
    (kf : sco.kind = .function) (lx : sco.names.lookup x = some .local) (lf : sco.names.lookup fn = some .globalImplicit) (ly : (defScope st).names.lookup y = some .local) (hD : D < recursionLimit)
    (dx : (x == ("__debug__" : Str)) = false := by decide) (df : (fn == ("__debug__" : Str)) = false := by decide) :
    EltD prog w K mg sco x (.Call (.Name fn p) [.Name x p1] [] pos) pb D := by
  intro en B F c t z m hh hd es eg ng kin nl nlc hm
  have kf' : en.scope.kind = .function := by rw [es]; exact kf
  refine wpAny_Call_Name_kw (Calls.Name_function_global kf' (show en.scope.names.lookup fn = some .globalImplicit by rw [es]; exact lf) (Calls.loadGlobal_global (mg := mg) (by rw [eg]; exact ng) hg ?_) df)
  refine PySem.W.callWith_K (K := K) (first := []) kin Fn.kp ?_ (by rfl) (by rfl)
  refine Calls.spliced_cons (wpAny_Name (wpAny_loadName_local kf' (show en.scope.names.lookup x = some .local by rw [es]; exact lx) nlc hm (Calls.spliced_nil ⟨kin, ?_⟩)) dx)
  refine wpAny_call ?_
  obtain ⟨oc, od, kV, doc, pm, an, cdv, ct, osl, rfl, lk, cd⟩ := Fn.ex
  refine codeAny_call_function (Nat.lt_of_le_of_lt hd hD) (kin _ _ lk) rfl S.co S.gen rfl (PySem.W.codeRec_of kin cd) (hb _ _ kin rfl _ _ _ _ ?_)
  refine wpAny_newFunctionEnv nc (fun q hq => ?_) (fun h0 hns hsb => ⟨nl.fresh _ hsb, codeAny_func ?_⟩) S.kind
  · rw [List.mem_singleton.mp hq]
    exact ly
  · have ext : ∀ b o, z.heap.get? b = some o → h0.get? b = some o := fun b o e => hsb.extBut b o (Nat.ne_of_lt (Heap.lt_size e)) (Heap.get?_push_of_some _ e)
    rw [hbd]
    refine wpAny_execs_cons (wpAny_Return_some ?_)
    refine wpAny_mono (hel _ _ _ c t _ _ rfl rfl (ng.keeps ext) hns (by simp [List.lookup])) (fun v z' r => ?_) fun _ _ q => q
    obtain ⟨rv, h1, k1, rfl, ex1⟩ := r
    exact ⟨rv, h1, k1, rfl, fun b o e => ex1 b o (ext b o e)⟩
theorem gen_intsD {c P : Addr} {elt src : Expr} {x : Str} {px gp : Pos} {sco : Scope} {pb : Int → Bool} {te : TE} {k : Nat} {Z : Value → Shared → Prop} {R : List Int → Hp → Prop}
    (hr : Room k X.A) (TB : TabB X.base X.mg c P) (hco : X.env.code = .ref c) (S : GenS X.env sco x) (hi : PE X src te) (hel : EltD X.prog X.w X.K X.mg sco x elt pb (X.A.depth + 1))
    (hs : ∀ v, genFold src X.env v = pure v) (I : Inv X pins σ H s) (h : te σ H fun v H1 => ∃ (yl : Addr) (a : List Int), v = .ref yl ∧ SqL X.K H1 yl (a.map V.int) ∧ TabG H1 P ∧ R a H1)
    (hZ : ∀ a H1 g z, R a H1 → ReadyI X pins σ H1 P a pb g z → Z (.ref g) z) :
    wpAny (model X.prog X.w) X.A (eval (.GeneratorExp elt [⟨.Name x px, src, [], 0⟩] sco gp) X.env) Z X.xe s := by
  refine wpAny_GeneratorExp_walksQD hr.hd S.co (closure_ok S.free) S.cell S.dot S.loc S.kind (by have d := hr.dp; omega) ?_ hs
  refine thn (hi.run pins s σ H _ I h) fun xv z1 ⟨v, H1, J, r1, q⟩ => ?_
  obtain ⟨yl, a, rfl, hyl, ⟨ps, hP, ht⟩, q⟩ := q
  obtain rfl : xv = Value.ref yl := r1
  obtain ⟨its, rv, hl, hz⟩ := J.list hyl
  have hIL := hl.isList
  have hlen : its.length = a.length := by rw [← rv.length, List.length_map]
  have hat : ∀ (i : Nat) (v : Value), its.toArray[i]? = some v → ∃ (n : Int) (u : Tok), a[i]? = some n ∧ v = .int n u := fun i v hv => by
    have hv2 : its[i]? = some v := by simpa using hv
    have hi2 : i < its.length := (List.getElem?_eq_some_iff.mp hv2).1
    obtain ⟨n, ha⟩ : ∃ n, a[i]? = some n := ⟨a[i]'(by omega), List.getElem?_eq_getElem _⟩
    have hb : (a.map V.int)[i]? = some (V.int n) := by rw [List.getElem?_map, ha] <;> rfl
    obtain ⟨u, hu, ru⟩ := rv.get hb
    rw [hv2] at hu
    cases hu
    obtain ⟨t, e⟩ := (show ∃ t, v = Value.int n t from ru)
    exact ⟨n, t, ha, e⟩
  refine wpAny_pyIter_list hIL ?_
  generalize ho : ({ cls := .type "list_iterator", data := .fields #[.ref yl, .int 0 0] } : Obj) = it
  have hitr : (z1.heap.push it).IsListIter z1.heap.objs.size yl 0 := by
    subst ho
    exact ⟨_, Heap.get?_push_size _ rfl, rfl, rfl⟩
  have hylt : yl < z1.heap.objs.size := by
    obtain ⟨_, e, _⟩ := _root_.id hIL
    exact Heap.lt_size e
  have gP : z1.heap.get? P = some { cls := .none, data := .fields ps } := J.hok P _ hP
  have gP2 : (z1.heap.push it).get? P = some { cls := .none, data := .fields ps } := Heap.get?_push_of_some _ gP
  have ltP : P < z1.heap.objs.size := Heap.lt_size gP
  have hd2 : PySem.W.CodeHd (z1.heap.push it) c P := TB.code.keeps fun b u e => Heap.get?_push_of_some _ (J.bk b u e)
  have nl2 : (z1.heap.push it).NoLimit := J.nolimit.push it
  have go : ∀ (code : Value) (hh : Heap) (tk : Nat) (qs : Array Value), Heap.ExtBut P (z1.heap.push it) hh → (z1.heap.push it).objs.size ≤ hh.objs.size →
      hh.get? P = some { cls := .none, data := .fields qs } → (∃ more, qs = ps ++ more) → TriplesOk qs.toList →
      wpAny (model X.prog X.w) X.A (builtinsFor X.env.globals X.env.builtins) (fun bi s₄ =>
        ∃ Ia fp wr n₀ Pf St₀ pz F, Value.ref z1.heap.objs.size = .ref Ia ∧ (∀ A' : Around, A'.handled = none → Walks X.prog X.w A' Ia fp wr n₀ Pf St₀) ∧
          St₀ 0 s₄.heap ∧ (∀ b ∈ fp, b < s₄.heap.objs.size) ∧ s₄.heap.NoLimit ∧ cStatics ∉ wr ∧
          (∀ hf : Heap, (∀ b o, s₄.heap.get? b = some o → hf.get? b = some o) →
            QuietGenD X.prog X.w (genEnv sco (cloFrom X.env.cells sco.names []) s₄.heap.objs.size code bi X.env) x [] elt (List.range s₄.heap.objs.size) wr Pf pz F hf (X.A.depth + 1) (X.A.units + 8)) ∧
          (∀ a h₅ tk gs, gs.bare = true → s₄.heap.objs.size < a → h₅.objs.size = a + 1 → (∀ b o, s₄.heap.get? b = some o → h₅.get? b = some o) →
            WalksS X.prog X.w X.A.in4 a (a :: s₄.heap.objs.size :: List.range s₄.heap.objs.size) (s₄.heap.objs.size :: wr) (GenOnlyQ s₄.gens.size)
              (passing pz n₀ 0).length (fun j y => ∃ i, (passing pz n₀ 0)[j]? = some i ∧ F i y)
              (GenAt X.prog X.w X.A.in4 a s₄.gens.size s₄.heap.objs.size (List.range s₄.heap.objs.size) wr pz n₀ F) →
            GenAt X.prog X.w X.A.in4 a s₄.gens.size s₄.heap.objs.size (List.range s₄.heap.objs.size) wr pz n₀ F 0 { s₄ with gens := s₄.gens.push gs, toks := tk, heap := h₅ } →
            Z (.ref a) { s₄ with gens := s₄.gens.push gs, toks := tk, heap := h₅ })) X.xe { z1 with heap := hh, toks := tk } := by
    intro code hh tk qs ex sz gq mr tq
    obtain ⟨bm, ob, b1, b2, b3, b4, b5, b6, b7, b8⟩ := TB.bm
    have neS : cStatics ≠ P := fun e => by
      obtain ⟨_, ns, _⟩ := J.nolimit
      obtain ⟨oo, es, ep, go1, gd, _⟩ := ns
      rw [e, gP] at go1
      cases go1
      cases gd
    have ltS : cStatics < z1.heap.objs.size := let ⟨_, ns, _⟩ := J.nolimit; ns.lt
    have szp : (z1.heap.push it).objs.size = z1.heap.objs.size + 1 := Heap.size_push ..
    have kp : ∀ b u, b ≠ P → z1.heap.get? b = some u → hh.get? b = some u := fun b u hb e => ex b u hb (Heap.get?_push_of_some _ e)
    have gl1 : z1.heap.Ns mainGlobals X.mg := J.mod.glob.keeps J.bk
    have glh : hh.Ns mainGlobals X.mg := (gl1.push it).extBut ex TB.gP
    refine wpAny_builtinsFor (m := X.mg) (by rw [J.ok.glob]; exact glh) b1 b2 (kp _ _ b4 (J.bk _ _ b5)) b6 b7 b8 ?_
    have hylP : yl ≠ P := fun z => by
      obtain ⟨_, e, hc1, _, hd1⟩ := _root_.id hIL
      rw [z, gP] at e
      cases e
      cases hd1
    have hIL3 : hh.IsList yl its.toArray := by
      obtain ⟨ob, e, r⟩ := _root_.id hIL
      exact ⟨ob, kp _ _ hylP e, r⟩
    have hItr3 : hh.IsListIter z1.heap.objs.size yl 0 := hitr.at fun u e => ex _ u (Nat.ne_of_gt ltP) e
    refine ⟨z1.heap.objs.size, [z1.heap.objs.size, yl], [z1.heap.objs.size], its.toArray.size, (fun i v => its.toArray[i]? = some v), (fun i h => h.IsListIter z1.heap.objs.size yl i ∧ h.IsList yl its.toArray), (fun _ => true),
      (fun i y => ∃ n : Int, a[i]? = some n ∧ y = .bool (pb n)), rfl, (fun A' hA => Walks.list hA _ _ (Nat.ne_of_lt hylt) _), ⟨hItr3, hIL3⟩, ?_, nl2.extBut ex neS, ?_, ?_, ?_⟩
    · intro b hb
      rcases List.mem_cons.mp hb with z | z
      · rw [z]
        show z1.heap.objs.size < hh.objs.size
        omega
      · rw [List.mem_singleton.mp z]
        have e9 : z1.heap.objs.size ≤ hh.objs.size := by omega
        exact Nat.lt_of_lt_of_le hylt e9
    · exact fun m => Nat.ne_of_lt ltS (List.mem_singleton.mp m)
    · intro hf keep
      refine ⟨fun A' E' i v z2 m2 _ _ _ _ _ _ _ => ?_, fun A' E' i v z2 m2 hhd hdp _ hv _ hn hm hk => ?_⟩
      · simp only [List.forIn_nil]
        exact wpAny_pure ⟨rfl, keeps_refl _⟩
      · obtain ⟨cc, u, hcc, rfl⟩ := hat i v hv
        have ngl : z2.heap.Ns mainGlobals X.mg := by
          have lt1 : mainGlobals < z1.heap.objs.size := gl1.lt
          obtain ⟨og, es, ep, e1, er⟩ := glh
          exact ⟨og, es, ep, hk mainGlobals (List.mem_range.mpr (Heap.lt_size e1)) (fun m => Nat.ne_of_lt lt1 (List.mem_singleton.mp m)) og (keep _ _ e1), er⟩
        have up2 : ∀ b o, b ≠ P → b < z1.heap.objs.size → z1.heap.get? b = some o → z2.heap.get? b = some o := fun b o hb hlt e =>
          hk b (List.mem_range.mpr (Heap.lt_size (kp b o hb e))) (fun m => Nat.ne_of_lt hlt (List.mem_singleton.mp m)) o (keep _ _ (kp b o hb e))
        have kin2 : X.K.In z2.heap := fun b o e => by
          have e1 := J.kIn b o e
          refine up2 b o (fun q => ?_) (Heap.lt_size e1) e1
          have bs1 := (J.bs b o (J.ok.mod.kin b o e)).2
          rw [q, hP] at bs1
          cases bs1
        have nl3 : z2.heap.NoLimit := by
          obtain ⟨mc, hns, hnn⟩ := J.nolimit
          exact ⟨mc, hns.at' fun o e => up2 cStatics o neS ltS e, hnn⟩
        exact wpAny_mono (hel _ A' E' cc u z2 m2 hhd hdp rfl J.ok.glob ngl kin2 nl3 hn hm) (fun y z3 r => ⟨⟨cc, hcc, r.1⟩, r.2⟩) fun _ _ e => e
    · intro g h5 tk5 gs bare lt5 sz5 k5 W5 at5
      simp only [GxR.passing_true, List.length_range] at W5
      have hn5 : its.toArray.size = a.length := by rw [List.size_toArray, hlen]
      rw [hn5] at W5 at5
      refine hZ a H1 g _ q ⟨_, _, _, _, _, W5.in4_1, at5, ?_, fun z' mv => ?_⟩
      · intro j y sj Qj Ej hy hQj
        obtain ⟨i, hij, cc, hcc, rfl⟩ := hy
        obtain ⟨lj, ej⟩ := List.getElem?_eq_some_iff.mp hij
        rw [List.getElem_range] at ej
        subst ej
        have hQ2 : Qj (trI pb a j) sj := hQj
        rw [trI_some hcc] at hQ2
        exact wpAny_truthy_bool hQ2
      · obtain ⟨more, em⟩ := mr
        have out : ∀ b u, z1.heap.get? b = some u → b ∉ hh.objs.size :: [z1.heap.objs.size] := fun b u e hb => by
          have lt := Heap.lt_size e
          rcases List.mem_cons.mp hb with y | y
          · rw [y] at lt
            have lt' : (hh.objs.size : Nat) < z1.heap.objs.size := lt
            omega
          · rw [List.mem_singleton.mp y] at lt
            exact Nat.lt_irrefl _ lt
        have J2 := inv_tab (more := more) (h' := z'.heap) (g' := z'.gens) (d' := z'.drawn) (t' := z'.toks) J hP
          (fun b u hb e => mv.heap b u (out b u e) (k5 b u (kp b u hb e)))
          (by rw [← em]; exact mv.heap P _ (out P _ gP) (k5 P _ gq))
          (AllBare.movedS (J.bare.push bare) mv)
        rw [sh_eta z1 z' mv.os] at J2
        exact ⟨upd H1 P (.tbl (ps ++ more)), ⟨⟨ps ++ more, upd_same, by rw [← em]; exact tq⟩, fun b hb => upd_ne hb⟩, J2⟩
  refine ⟨nl2, ?_⟩
  cases hf : codeAmong gp ps.toList with
  | none =>
    refine wpAny_genexprCodeX hco (hd2.code gP2 ht) (hd2.tab gP2) hf fun c' h' tk ex ge lt hc' _ tab' _ => ?_
    obtain ⟨_, _, _, _, _, _, _, _, _, _, _, _, _, _, _, _, _, _, _, tr, _⟩ := hc'
    exact go _ h' tk _ ex (Nat.le_trans ge (Nat.le_of_lt lt)) tab'.2 ⟨_, rfl⟩ tr
  | some cv =>
    refine wpAny_genexprCode_hit hco (hd2.code gP2 ht) hf ?_
    exact go cv (z1.heap.push it) z1.toks ps (Heap.ExtBut.refl _ _) (Nat.le_refl _) gP2 ⟨#[], by simp⟩ ht
theorem pe_allD {c P : Addr} {elt src : Expr} {x : Str} {px p pos gp : Pos} {sco : Scope} {pb : Int → Bool} {te : TE} {k : Nat}
    (hr : Room k X.A) (hg : Gl X "all") (hm : X.mg "all" = none) (hb : bootBuiltins "all" = some (.builtin "all")) (TB : TabB X.base X.mg c P) (hco : X.env.code = .ref c) (S : GenS X.env sco x) (hi : PE X src te) (hel : EltD X.prog X.w X.K X.mg sco x elt pb (X.A.depth + 1))
    (hs : ∀ v, genFold src X.env v = pure v)
    (he : starEach [.GeneratorExp elt [⟨.Name x px, src, [], 0⟩] sco gp] X.env = (false, eval (.GeneratorExp elt [⟨.Name x px, src, [], 0⟩] sco gp) X.env) :: starEach [] X.env := by rfl) :
    PE X (.Call (.Name "all" p) [.GeneratorExp elt [⟨.Name x px, src, [], 0⟩] sco gp] [] pos) (tAllI X.K P pb te) := by
  refine ⟨fun pins z σ H Q I h => ?_⟩
  refine wpAny_Call_Name_kw (ld_blt I hg hm hb (PyProof.Rows.callWith_builtin1 ?_ he (by rfl)))
  rw [he]
  show wpAny _ _ (spliced ((false, eval (.GeneratorExp elt [⟨.Name x px, src, [], 0⟩] sco gp) X.env) :: backTo pos (starEach [] X.env))) _ _ z
  refine Calls.spliced_cons (gen_intsD (R := fun a H1 => ∀ H2, Tabbed P H1 H2 → Q (.bl (a.all pb)) H2) hr TB hco S hi hel hs I h fun a H1 g z5 hR hG => ?_)
  obtain ⟨fp, wr, G, F, St, W, st0, tru, fin⟩ := hG
  refine Calls.spliced_nil (call_all_walkS (W.self 0 _ _ _ st0 ⟨g, fp, wr, G, _, F, St, _, rfl, W, st0, tru, fun z' mv => ?_⟩))
  obtain ⟨H2, tb, J⟩ := fin z' mv
  refine ⟨.bl _, H2, J, rfl, ?_⟩
  rw [all_trI a pb]
  exact hR H2 tb
end

/-! ### a def whose code object is known, a method that may raise in a try, the end with a table -/
structure FunC (K : PySem.W.Frag) (x qual : Str) (st : Stmt) (f : Addr) (fd : FuncData) (c : Addr) : Prop where
  ex : ∃ (oc : Value) (od : Option Addr) (kV doc pm : Value) (an : Option Addr) (ct : Value) (osl : Array (Option Value)),
    fd = PySem.W.fnOf x qual (defArgs st) (defBody st) (defScope st) .none kV doc pm an (.ref c) ct ∧ K.lookup f = some ⟨oc, od, .func fd, osl⟩ ∧ PySem.W.codeIn K (.ref c) qual = true
theorem FunC.ok {P : Program} {w : World} {K : PySem.W.Frag} {mg : Str → Option Value} {base : Heap} {x qual : Str} {st : Stmt} {f c : Addr} {fd : FuncData} {N ps : List Str} {k : Nat} {sp : Sp} (F : FunC K x qual st f fd c) (S : FnScope N ps (defScope st)) (len : ∀ vs H Q E, sp vs H Q E → vs.length = ps.length)
    (body : ∀ (A : Around) (outer : List Env) (s : Shared) (H : Hp) (vs : List V) (Q : VK) (E : XK), Room k (A.deeper (envOfC qual (defScope st) s.heap.objs.size f (.ref c))) → sp vs H Q E →
      ∃ t, PSs (cxOf CX0 P w K mg base N qual (defScope st) f (.ref c) A outer s H E).nox (defBody st) t ∧ t { nx := fun _ H' => Q .non H', rt := Q } (start N vs) H) : FnOk P w K mg base CX0 (k + 1) f fd ps sp := by
  obtain ⟨oc, od, kV, doc, pm, an, ct, osl, rfl, lk, cd⟩ := F.ex
  refine fn_of lk cd S len fun A outer s H vs Q E hr hs => ?_
  obtain ⟨t, h, q⟩ := body A outer s H vs Q E hr hs
  exact ⟨t, h.nox, q⟩
theorem noFree {names : List (Str × NameKind)} {cells : List (Str × Addr)} (h : names.all (fun y => decide (y.2 ≠ .free)) = true) : ∀ y ∈ names, y.2 = .free → ∃ c, cells.lookup y.1 = some c := fun y hy e =>
  absurd e (of_decide_eq_true (List.all_eq_true.mp h y hy))
theorem noCell {names : List (Str × NameKind)} (h : names.all (fun y => decide (y.2 ≠ .cell)) = true) : ∀ y ∈ names, y.2 ≠ .cell := fun y hy => of_decide_eq_true (List.all_eq_true.mp h y hy)
section
variable {X : Cx} {CX : CXT} {k : Nat} {C f : Addr} {fd : FuncData} {ps : List Str} {sp : Sp} {m : Str} {o e : Expr} {es : List Expr} {ta : TE} {t : TA} {E : L2.St → XK} {apos pos : Pos}
def tMethE (C : Addr) (m : Str) (sp : Sp) (E : L2.St → XK) (ta : TE) (t : TA) : TE := fun σ H Q => ta σ H fun x H1 => ∃ a dx fs, x = .ref a ∧ H1 a = some (.ins C dx fs) ∧ fs.lookup m = none ∧ t σ H1 fun vs H2 => sp (.ref a :: vs) H2 Q (E σ)
theorem pe_methE {pl : Sem Bool} (he : PE X o ta) (c : Cls X.K C) (hm : Meth X.K C m f) (F : FnOk X.prog X.w X.K X.mg X.base CX k f fd ps sp) (hr : Room k X.A) (hb : Binds X.K fd ps []) (hx : ∀ σ, PassesAt CX X σ (E σ)) (ha : PA X (e :: es) t)
    (s1 : starEach (e :: es) X.env = (false, eval e X.env) :: starEach es X.env := by rfl) (s2 : (backTo pos (starEach es X.env)).any (·.1) = false := by rfl)
    (ht : eval (.Call (.Attribute o m apos) (e :: es) [] pos) X.env = (do
      let v ← eval o X.env
      standAt apos.atName
      let (g, fst) ← holding [v] (getMethod v m pl)
      callWith pos g fst (backTo pos (starEach (e :: es) X.env)) (backToKw pos (keywordEach [] X.env))) := by rfl) :
    PE X (.Call (.Attribute o m apos) (e :: es) [] pos) (tMethE C m sp E ta t) := by
  refine ⟨fun pins z σ H Q I h => ?_⟩
  refine PySem.W.methodCall_KW (pl := pl) (thn (he.run pins z σ H _ I h) fun u z1 ⟨x, H1, J, rx, a, dx, fs, ex, ea, l, q⟩ => ?_) ht
  subst ex
  obtain rfl : u = Value.ref a := rx
  refine getmeth_ok J ea c hm l ?_
  refine PySem.W.callWith_K (first := [.ref a]) (h₀ := X.base) I.ok.mod.kin hm.kp (thn (ha.run pos pins z1 σ H1 _ J q) fun us z2 ⟨vs, H2, J2, r, q2⟩ => ⟨J2.kIn, ?_⟩) s1 s2
  exact run_fnS (us := .ref a :: us) (vs := .ref a :: vs) F hr hb (hx σ) J2 (.cons rfl r) q2
end
theorem walk_tab {l : PySem.W.OpenLaw} {n k : Nat} {q : Program} {loose : List Str} {XP : (Str → Option Value) → Heap → Prop} {YP : World → Heap → Prop} {d : DefRec} {K : Params → PySem.W.Frag} {CX : World → CXT} {x : Str} (nms : List Str)
    (hn : l.most = some n) (hz : n ≤ sizeLine) (hdf : d.params.defaults = []) (hr : Room k callerA) (hrec : nms.all (fun y => (recsOf q).any fun e => e.name == y) = true) (hY : ∀ (w : World) (h : Heap), YP w h → (K w.params).In h)
    (F : ∀ (w : World) (mg : Str → Option Value) (fa : Addr) (h : Heap), (K w.params).In h → h.Ns mainGlobals mg → mg d.name = some (.ref fa) → (∀ y ∈ nms, ∀ f, mg y = some (.ref f) → LamX.OwnTab (K w.params) f h) → LamX.LawAtS l w (K w.params) (CX w) k n x mg fa h)
    (hCX : ∀ (w : World) (H : Hp) (s : Shared) (e : Value) (s' : Shared), CX w [] H s (fun _ _ _ => False) e s' → False) :
    PySem.W.WalkO q loose XP YP l.row.toRowW d [] (fun f vs => PySem.call f vs) := by
  refine Att.attach_callB hn hdf fun w s0 s1 mg mb fa o pm cd doc a vs ns G Y ho hd hcd hmg hob hin hlen hbits hg => ?_
  have KX := hY w _ Y
  have own : ∀ y ∈ nms, ∀ f, mg y = some (.ref f) → LamX.OwnTab (K w.params) f s1.heap := fun y hy f hf c P o1 fd1 e dd us sl k1 k2 k3 k4 k5 => by
    obtain ⟨dl, hm, he⟩ := List.any_eq_true.mp (List.all_eq_true.mp hrec y hy)
    have en : dl.name = y := beq_iff_eq.mp he
    obtain ⟨a', o', fd', c', P', t1, t2, t3, t4, t5, t6⟩ := G.T.tab dl hm
    rw [en, hf] at t1
    cases t1
    rw [KX _ _ k1] at t2
    cases t2
    rw [k2] at t3
    cases t3
    rw [k3] at t4
    cases t4
    obtain ⟨⟨oc, vc, u1, _, u3, u4⟩, hP⟩ := t6
    rw [KX _ _ k4] at u1
    cases u1
    cases u3
    rw [k5] at u4
    cases u4
    exact hP
  obtain ⟨fd, cs, sp, hT, nT, C, hb, hsp, hF⟩ := F w mg fa _ KX G.T.g hmg own
  exact LamX.law_callTs KX G.T.g G.T.b G.T.builtins G.T.nolimit hg hT nT C G.T.bmain hob hin (Nat.le_trans hlen hz) hr hF hb (fun H hH hS => hsp H a ns hlen hbits hH hS) fun H e s' => hCX w H s1 e s'
theorem codeHd_mk {K : PySem.W.Frag} {h : Heap} {c P : Addr} {dd : Option Addr} {vs : Array Value} {sl : Array (Option Value)} {fl : Str} {tf tg tt : Tok} {fg tx : Int} {b : Bool} (X : K.In h) (l : K.lookup c = some ⟨.type "code", dd, .fields vs, sl⟩) (h11 : vs[11]? = some (.ref P)) (h18 : vs.getD 18 .none = .str fl tf)
    (h7 : vs.getD 7 .none = .int fg tg) (h9 : vs.getD 9 .none = .bool b) (h10 : vs.getD 10 .none = .int tx tt) (ne : c ≠ P) : PySem.W.CodeHd h c P :=
  ⟨_, vs, fl, tf, fg, tg, b, tx, tt, X _ _ l, rfl, rfl, h11, by rw [Array.getD_eq_getD_getElem?, h11]; rfl, h18, h7, h9, h10, ne⟩

theorem FunC.okX {P : Program} {w : World} {K : PySem.W.Frag} {mg : Str → Option Value} {base : Heap} {x qual : Str} {st : Stmt} {f c : Addr} {fd : FuncData} {N ps : List Str} {k : Nat} {sp : Sp} (F : FunC K x qual st f fd c) (S : FnScope N ps (defScope st)) (len : ∀ vs H Q E, sp vs H Q E → vs.length = ps.length)
    (body : ∀ (A : Around) (outer : List Env) (s : Shared) (H : Hp) (vs : List V) (Q : VK) (E : XK), Room k (A.deeper (envOfC qual (defScope st) s.heap.objs.size f (.ref c))) → sp vs H Q E →
      ∃ t, PSs (cxOf (L2.CX P w) P w K mg base N qual (defScope st) f (.ref c) A outer s H E) (defBody st) t ∧ t { nx := fun _ H' => Q .non H', rt := Q } (start N vs) H) : FnOk P w K mg base (L2.CX P w) (k + 1) f fd ps sp := by
  obtain ⟨oc, od, kV, doc, pm, an, ct, osl, rfl, lk, cd⟩ := F.ex
  exact fn_of lk cd S len fun A outer s H vs Q E hr hs => body A outer s H vs Q E hr hs

/-! ### sorted of data: a list of tuples of one shape -/
def sortD (ds : List PyData) : List PyData := ds.mergeSort (PySem.W.dataLe false id)
theorem each_of {K : PySem.W.Frag} {H : Hp} : ∀ {xs : List V} {us : List Value} {ds : List PyData}, Vals xs us → DpAll K H xs ds → PySem.W.EachIs (fun v d => ∃ x, RelV x v ∧ Dp K H x d) us ds
  | [], _, _, r, h => by
    cases r
    cases h
    exact .nil
  | x :: xs, _, _, r, h => by
    cases r with
    | cons r1 r2 =>
      cases h with
      | cons h1 h2 => exact .cons ⟨x, r1, h1⟩ (each_of r2 h2)
theorem each_back {K : PySem.W.Frag} {H : Hp} : ∀ {us : List Value} {ds : List PyData}, PySem.W.EachIs (fun v d => ∃ x, RelV x v ∧ Dp K H x d) us ds → ∃ ys, Vals ys us ∧ DpAll K H ys ds
  | _, _, .nil => ⟨[], .nil, .nil⟩
  | _, _, .cons ⟨x, r, h⟩ t => by
    obtain ⟨ys, a, b⟩ := each_back t
    exact ⟨x :: ys, .cons r a, .cons h b⟩
def rSortedD (K : PySem.W.Frag) : List V → Hp → VK → Prop := fun vs H Q => ∃ (a : Addr) (xs : List V) (ds : List PyData), vs = [V.ref a] ∧ SqL K H a xs ∧ DpAll K H xs ds ∧ PySem.W.AllAlike ds ∧ PySem.W.Sortable ds ∧ (∀ d ∈ ds, d.depth ≤ 60) ∧
  ∀ ys p, DpAll K H ys (sortD ds) → H p = none → Q (.ref p) (upd H p (.lst ys))
section
variable {X : Cx}
theorem cr_sortedD (hu : X.A.units + 65 < cLine) : CallR X (.builtin "sorted") (rSortedD X.K) := by
  intro pins s σ H vs us Q I r h
  obtain ⟨a, xs, ds, rfl, hs, hd, hal, hsb, hdp, q⟩ := h
  obtain ⟨its, rv, hl, hz⟩ := I.list hs
  obtain ⟨u, rfl, ru⟩ := vals1 r
  obtain rfl : u = Value.ref a := ru
  have e := each_of rv hd
  have er : PySem.W.EachIs (fun v d => ∃ as, Reads s.heap v (id d) as) its ds := e.mono fun v d ⟨x, r, h⟩ => Dp.reads I d x v h r
  have hlen : ds.length ≤ sizeLine := by rw [← DpAll.len hd]; exact hz
  refine PySem.W.sorted_data (enc := id) (bs := ds) hl.isList e er (by rw [List.map_id]; exact hal) (by rw [List.map_id]; exact hsb) hlen (fun d m => ?_) fun out ho eo => ?_
  · have z := hdp d m
    show X.A.units + 2 + d.depth < cLine
    omega
  · obtain ⟨ys, v1, v2⟩ := each_back eo
    obtain ⟨n, hn⟩ := sortedAll_at s.heap its out.toArray
    refine ⟨.ref (s.heap.objs.size + 1), upd H (s.heap.objs.size + 1) (.lst ys), I.laid (t' := s.toks) (fun b o e => sortedAll_old e) (Nat.le_succ _) ⟨?_, out, n, v1, hn⟩, rfl, q ys _ v2 (I.hok.fresh (Nat.le_succ _))⟩
    rw [v1.length, ho]
    exact hlen
end
theorem hu65 {A : Around} {k : Nat} (hr : Room k A) : A.units + 65 < cLine := by
  have z := hr.un
  omega
theorem op_notInDK {X : Cx} (K : PySem.W.Frag) (h : X.K = K) (hu : X.A.units + 65 < cLine) : OpR X (compareOp .NotIn) (rNotInD K) := h ▸ op_notInD hu

/-! ### d.items() of a locked dict whose keys are tuples -/
theorem raw_pairs {X : Cx} {pins : List (Addr × Obj)} {σ : L2.St} {H : Hp} {s : Shared} {d : Addr} {o : Obj} {kvs : List (List Key × V)} (I : Inv X pins σ H s) (h : H d = some (.frz o (.dT kvs))) :
    (d == sysModules) = false ∧ ∃ (es : Array DictEntry) (ep : Nat), o.data = .dict es ep ∧ s.heap.DictRaw d es ep ∧ es.size = kvs.length ∧
      ∀ (i : Nat) (hi : i < es.size) (k : List Key) (v : V), kvs[i]? = some (k, v) → ∃ q : Addr, es[i].key = .ref q ∧ H q = some (.tup (k.map kV)) ∧ RelV v es[i].val := by
  obtain ⟨g0, _, g1, xs, pr, o1, es, ep, g2, g3, g4, g5, _⟩ := I.hok d _ h
  have eo : o = o1 := Option.some.inj (g0.symm.trans g2)
  subst eo
  have hn : es.size = xs.length := by
    have z := congrArg List.length g5
    rw [List.length_map, Array.length_toList] at z
    exact z
  refine ⟨g1, es, ep, g4, ⟨o, g2, g3, g4⟩, by rw [hn]; exact (Paired.length pr).symm, fun i hi k v hk => ?_⟩
  obtain ⟨b, hb, b1, b2, b3⟩ := L2.paired_get pr hk
  have hl : es.toList[i]? = some (entryOfKey (tupleKind (mixKind X.prog X.w)) b) := by
    rw [g5, List.getElem?_map, hb]
    rfl
  have hv : es[i] = entryOfKey (tupleKind (mixKind X.prog X.w)) b := by
    rw [Array.getElem?_toList, Array.getElem?_eq_getElem hi] at hl
    exact Option.some.inj hl
  rw [hv]
  exact ⟨b.2.1, rfl, b2, b3⟩
def Itit (d : Addr) (o : Obj) (kvs : List (List Key × V)) : It where
  go := fun i H => H d = some (.frz o (.dT kvs)) ∧ i < kvs.length
  yld := fun i H x H' => ∃ (T q : Addr) (k : List Key) (v : V), kvs[i]? = some (k, v) ∧ x = .ref T ∧ H T = none ∧ H q = some (.tup (k.map kV)) ∧ H' = upd H T (.tup [.ref q, v])
  stop := fun i H => H d = some (.frz o (.dT kvs)) ∧ kvs.length ≤ i
/-- where the iterator stands: behind i of n entries -/
def ItAt (d it : Addr) (n ep i : Nat) (h : Heap) : Prop := ∃ ok ov, IsItemIter h it d i n ep ok ov
theorem turn_pairs {P : Program} {w : World} {K : PySem.W.Frag} {d : Addr} {o : Obj} {es : Array DictEntry} {ep : Nat} {kvs : List (List Key × V)} {elts : List Expr} {c : Nat} {pos : Pos} (it : Addr) (hod : o.data = .dict es ep) :
    Turn P w K (.Tuple elts c pos) (Itit d o kvs) [it] it (ItAt d it kvs.length ep) := by
  have one : ∀ b : Addr, b ∈ [it] → b = it := fun b hb => List.mem_singleton.mp hb
  refine ⟨List.mem_singleton.mpr rfl, fun i h st b hb => ?_, fun i h h' st k => ?_, ?_, ?_, fun A i s Q E st h => ?_⟩
  · obtain ⟨ok, ov, e⟩ := st
    rw [one b hb]
    exact ⟨_, e, fun v z => by cases z⟩
  · obtain ⟨ok, ov, e⟩ := st
    exact ⟨ok, ov, k it (List.mem_singleton.mpr rfl) _ e⟩
  · intro X hP hw hK hc i pins s σ H E I hf st hg
    subst hP hw hK
    obtain ⟨hd, hi⟩ := hg
    obtain ⟨hs, es2, ep2, hd2, hraw, hsz, hat⟩ := raw_pairs I hd
    rw [hod] at hd2
    cases hd2
    obtain ⟨k, v, hkv⟩ : ∃ k v, kvs[i]? = some (k, v) := ⟨_, _, List.getElem?_eq_getElem hi⟩
    have hie : i < es.size := by rw [hsz]; exact hi
    obtain ⟨q, key, hq, hv⟩ := hat i hie k v hkv
    obtain ⟨ok, ov, he⟩ := st
    rw [← hsz] at he
    have hlt := Heap.lt_size he
    refine wpAny_pyNext_items_item_raw he hraw hie fun h1 out tup sz kept => ⟨_, rfl, ?_⟩
    refine wpAny_letOwnedTupleGo_items (s := { s with heap := h1 }) out fun h2 at2 sb => ?_
    have tup2 := (sb.2 _ (Nat.ne_of_gt hlt)).trans tup
    have okn : ObjOk X.prog X.w (upd H s.heap.objs.size (.tup [.ref q, v])) h2 s.heap.objs.size (.tup [.ref q, v]) :=
      ⟨szl (by show 2 ≤ 100000; decide), [es[i].key, es[i].val], .cons (by rw [key]; rfl) (.cons hv .nil), ⟨_, tup2, rfl, _, rfl⟩⟩
    have I2 := I.turnedNew (t' := s.toks) (ch := [it]) (fun b ob hb e => (sb.2 b fun z => hb (by rw [z]; exact List.mem_singleton.mpr rfl)).trans (kept b ob (fun z => hb (by rw [z]; exact List.mem_singleton.mpr rfl)) e)) hf (Nat.le_refl _) okn
    refine ⟨.ref s.heap.objs.size, _, I2, rfl, ⟨_, q, k, v, hkv, rfl, I.hok.fresh (Nat.le_refl _), hq, rfl⟩, ⟨_, _, by rw [← hsz]; exact at2⟩, fun b hb => ?_⟩
    rw [one b hb, upd_ne (Nat.ne_of_lt hlt)]
    exact (hf it (List.mem_singleton.mpr rfl)).1
  · intro X hP hw hK hc i pins s σ H E I hf st hg
    subst hP hw hK
    obtain ⟨hd, hi⟩ := hg
    obtain ⟨hs, es2, ep2, hd2, hraw, hsz, hat⟩ := raw_pairs I hd
    rw [hod] at hd2
    cases hd2
    obtain ⟨f0, f1, f2, f3, f4, f5⟩ := hf it (List.mem_singleton.mpr rfl)
    obtain ⟨ok, ov, he⟩ := st
    rw [← hsz] at he
    exact wpAny_pyNext_items_end_raw (I.ok.hd hc) he hraw (by rw [hsz]; exact hi) fun h1 eb => ⟨rfl, I.turned (t' := s.toks) (fun b ob hb e => eb b ob hb e) f0 f1 f3 f4 f5⟩
  · obtain ⟨_, _, e⟩ := st
    exact wpAny_pyIter_itemiter e h
def iPairs (td : TE) : TI := fun σ H R => td σ H fun x H1 => ∃ (d : Addr) (o : Obj) (kvs : List (List Key × V)), x = .ref d ∧ H1 d = some (.frz o (.dT kvs)) ∧ R (Itit d o kvs) H1
theorem pi_pairs {X : Cx} {e : Expr} {td : TE} {apos cpos : Pos} {elts : List Expr} {c : Nat} {pos : Pos} (he : PE X e td) (hbase : attributeBase e "items" X.env (eval e X.env) = eval e X.env := by rfl) (hl : (apos.endLine == cpos.line) = true := by rfl) :
    PI X (.Tuple elts c pos) (.Call (.Attribute e "items" apos) [] [] cpos) (iPairs td) := by
  refine ⟨fun pins s σ H R I h => wpAny_Call_method (T := "dict") (id := "dict.items") hbase rfl hl F.plainAttrs_dict F.slot_dict_items F.type_dict_items (thn (he.run pins s σ H _ I h) fun u s1 z => ?_)⟩
  obtain ⟨x, H1, I1, rx, d, o, kvs, rfl, hd, q⟩ := z
  obtain rfl : u = Value.ref d := rx
  obtain ⟨hs, es, ep, hod, hraw, hsz, _⟩ := raw_pairs I1 hd
  have hraw0 := hraw
  obtain ⟨ob, b1, b2, b3⟩ := hraw0
  have I2 : Inv X pins σ H1 { s1 with heap := s1.heap.push { cls := .type "dict_items", data := .fields #[.ref d] } } := I1.kept (t' := s1.toks) fun _ _ g => Heap.get?_push_of_some _ g
  have fin : wpAny (model X.prog X.w) X.A (pyIter (.ref s1.heap.objs.size)) (PIE X pins σ (.Tuple elts c pos) R) X.xe { s1 with heap := s1.heap.push { cls := .type "dict_items", data := .fields #[.ref d] } } := by
    refine wpAny_pyIter_items_raw (d := d) (es := es) (ep := ep) ⟨_, Heap.get?_push_size _ rfl, rfl, rfl⟩ (hraw.at fun _ g => Heap.get?_push_of_some _ g) (pi_one (tk := s1.toks) I2 _ (turn_pairs _ hod) ⟨.none, .none, ?_⟩ q)
    rw [← hsz]
    exact Heap.get?_push_size _ rfl
  refine ⟨hraw.typeIs, ?_, ?_⟩
  · intro a2 e2
    cases e2
    exact ⟨ob, b1, b2.2.1⟩
  · show wpAny _ _ (callWith cpos (.builtin "dict.items") [.ref d] [] []) _ X.xe s1
    exact method_meetsIn F.slot_dict_items F.entry_dict_items rfl (PySem.evalArgs_none ⟨rfl, hraw.typeIs, F.args_dict_items_1 _, _, meets_dict_items_raw d hs, ⟨es, ep, hraw⟩, fin⟩)
theorem walk_pairs {d : Addr} {o : Obj} {kvs : List (List Key × V)} : Walk (Itit d o kvs) kvs.length (fun H => H d = some (.frz o (.dT kvs))) (fun i H x H' => ∃ (T q : Addr) (k : List Key) (v : V), kvs[i]? = some (k, v) ∧ x = .ref T ∧ H T = none ∧ H q = some (.tup (k.map kV)) ∧ H' = upd H T (.tup [.ref q, v])) := by
  constructor
  · exact fun i H hi g => And.intro g hi
  · exact fun H g => And.intro g (Nat.le_refl _)
  · exact fun i H x H' hi g y => y

def top (i : Nat) : Stmt := PySem.Challenge.pw_mastword_k07_signs_read.main.body.getD i (.Pass ⟨0, 0, 0, 0⟩)
abbrev s_p_BadSigns_init : Stmt := inClass (top 9) 0
theorem sc_p_BadSigns_init : FnScope ["self", "at"] ["self", "at"] (defScope s_p_BadSigns_init) := ⟨rfl, rfl, rfl, by decide +kernel, rfl, by decide +kernel, by decide +kernel⟩
abbrev s_p_is_sign : Stmt := top 18
theorem sc_p_is_sign : FnScope ["number"] ["number"] (defScope s_p_is_sign) := ⟨rfl, rfl, rfl, by decide +kernel, rfl, by decide +kernel, by decide +kernel⟩
abbrev s_p_check_signs : Stmt := top 19
theorem sc_p_check_signs : FnScope ["numbers", "number"] ["numbers"] (defScope s_p_check_signs) := ⟨rfl, rfl, rfl, by decide +kernel, rfl, by decide +kernel, by decide +kernel⟩
abbrev s_p_kind_of : Stmt := top 20
theorem sc_p_kind_of : FnScope ["sign"] ["sign"] (defScope s_p_kind_of) := ⟨rfl, rfl, rfl, by decide +kernel, rfl, by decide +kernel, by decide +kernel⟩
abbrev s_p_letter_of : Stmt := top 21
theorem sc_p_letter_of : FnScope ["sign"] ["sign"] (defScope s_p_letter_of) := ⟨rfl, rfl, rfl, by decide +kernel, rfl, by decide +kernel, by decide +kernel⟩
abbrev s_p_standing : Stmt := top 22
theorem sc_p_standing : FnScope ["signs", "left", "place", "sign"] ["signs"] (defScope s_p_standing) := ⟨rfl, rfl, rfl, by decide +kernel, rfl, by decide +kernel, by decide +kernel⟩
abbrev s_p_is_word : Stmt := top 26
theorem sc_p_is_word : FnScope ["text", "letter"] ["text"] (defScope s_p_is_word) := ⟨rfl, rfl, rfl, by decide +kernel, rfl, by decide +kernel, by decide +kernel⟩
abbrev s_p_check_word : Stmt := top 27
theorem sc_p_check_word : FnScope ["text"] ["text"] (defScope s_p_check_word) := ⟨rfl, rfl, rfl, by decide +kernel, rfl, by decide +kernel, by decide +kernel⟩
abbrev s_p_check_place : Stmt := top 28
theorem sc_p_check_place : FnScope ["page", "line"] ["page", "line"] (defScope s_p_check_place) := ⟨rfl, rfl, rfl, by decide +kernel, rfl, by decide +kernel, by decide +kernel⟩
abbrev s_p_Phrasebook_init : Stmt := inClass (top 29) 0
theorem sc_p_Phrasebook_init : FnScope ["self"] ["self"] (defScope s_p_Phrasebook_init) := ⟨rfl, rfl, rfl, by decide +kernel, rfl, by decide +kernel, by decide +kernel⟩
abbrev s_p_Phrasebook_enter : Stmt := inClass (top 29) 1
theorem sc_p_Phrasebook_enter : FnScope ["self", "page", "line", "word"] ["self", "page", "line", "word"] (defScope s_p_Phrasebook_enter) := ⟨rfl, rfl, rfl, by decide +kernel, rfl, by decide +kernel, by decide +kernel⟩
abbrev s_p_Phrasebook_word_at : Stmt := inClass (top 29) 4
theorem sc_p_Phrasebook_word_at : FnScope ["self", "page", "line"] ["self", "page", "line"] (defScope s_p_Phrasebook_word_at) := ⟨rfl, rfl, rfl, by decide +kernel, rfl, by decide +kernel, by decide +kernel⟩
abbrev s_p_Phrasebook_words : Stmt := inClass (top 29) 5
theorem sc_p_Phrasebook_words : FnScope ["self", "word", "page", "line"] ["self"] (defScope s_p_Phrasebook_words) := ⟨rfl, rfl, rfl, by decide +kernel, rfl, by decide +kernel, by decide +kernel⟩
abbrev s_p_words_of : Stmt := top 30
theorem sc_p_words_of : FnScope ["book", "signs", "rows", "words", "at", "kind", "sign", "place", "word"] ["book", "signs"] (defScope s_p_words_of) := ⟨rfl, rfl, rfl, by decide +kernel, rfl, by decide +kernel, by decide +kernel⟩
abbrev s_p_rows_of : Stmt := top 31
theorem sc_p_rows_of : FnScope ["signs", "rows", "sign", "place"] ["signs"] (defScope s_p_rows_of) := ⟨rfl, rfl, rfl, by decide +kernel, rfl, by decide +kernel, by decide +kernel⟩
abbrev s_p_placed_word : Stmt := top 32
theorem sc_p_placed_word : FnScope ["book", "page", "row", "kind", "line", "place", "word"] ["book", "page", "row"] (defScope s_p_placed_word) := ⟨rfl, rfl, rfl, by decide +kernel, rfl, by decide +kernel, by decide +kernel⟩
abbrev s_p_spelled_word : Stmt := top 33
theorem sc_p_spelled_word : FnScope ["rows", "at", "word", "kind", "sign", "place"] ["rows", "at"] (defScope s_p_spelled_word) := ⟨rfl, rfl, rfl, by decide +kernel, rfl, by decide +kernel, by decide +kernel⟩
abbrev s_l_cell : Stmt := top 35
theorem sc_l_cell : FnScope ["_law_script", "_law_at"] ["_law_script", "_law_at"] (defScope s_l_cell) := ⟨rfl, rfl, rfl, by decide +kernel, rfl, by decide +kernel, by decide +kernel⟩
abbrev s_l_row : Stmt := top 36
theorem sc_l_row : FnScope ["_law_cell_here", "_law_many", "_law_size", "_law_row_here", "_law_rest", "_law_k", "_law_seed", "_law_mixed"] ["_law_cell_here", "_law_many", "_law_size"] (defScope s_l_row) := ⟨rfl, rfl, rfl, by decide +kernel, rfl, by decide +kernel, by decide +kernel⟩
abbrev s_l_like : Stmt := top 37
theorem sc_l_like : FnScope ["_law_found", "_law_due", "_law_k"] ["_law_found", "_law_due"] (defScope s_l_like) := ⟨rfl, rfl, rfl, by decide +kernel, rfl, by decide +kernel, by decide +kernel⟩
abbrev s_l_word : Stmt := top 38
theorem sc_l_word : FnScope ["_law_cell_here", "_law_nums", "_law_some", "_law_num", "_law_size"] ["_law_cell_here"] (defScope s_l_word) := ⟨rfl, rfl, rfl, by decide +kernel, rfl, by decide +kernel, by decide +kernel⟩
abbrev s_l_signs_of : Stmt := top 39
theorem sc_l_signs_of : FnScope ["_law_words", "_law_some", "_law_signs_here", "_law_word_here", "_law_letter"] ["_law_words", "_law_some"] (defScope s_l_signs_of) := ⟨rfl, rfl, rfl, by decide +kernel, rfl, by decide +kernel, by decide +kernel⟩
abbrev s_l_signs : Stmt := top 40
theorem sc_l_signs : FnScope ["_law_cell_here", "_law_most", "_law_nums", "_law_many", "_law_kind", "_law_signs_here", "_law_num", "_law_sign"] ["_law_cell_here", "_law_most"] (defScope s_l_signs) := ⟨rfl, rfl, rfl, by decide +kernel, rfl, by decide +kernel, by decide +kernel⟩
abbrev s_l_book : Stmt := top 41
theorem sc_l_book : FnScope ["_law_script", "_law_at", "_law_book_here", "_law_words", "_law_k", "_law_nums", "_law_word_here", "_law_spot", "_law_one"] ["_law_script", "_law_at"] (defScope s_l_book) := ⟨rfl, rfl, rfl, by decide +kernel, rfl, by decide +kernel, by decide +kernel⟩
abbrev s_l_some_words : Stmt := top 42
theorem sc_l_some_words : FnScope ["_law_words", "_law_cell_here", "_law_most", "_law_nums", "_law_known", "_law_found", "_law_num", "_law_word_here"] ["_law_words", "_law_cell_here", "_law_most"] (defScope s_l_some_words) := ⟨rfl, rfl, rfl, by decide +kernel, rfl, by decide +kernel, by decide +kernel⟩
abbrev s_l_read_word : Stmt := top 43
theorem sc_l_read_word : FnScope ["_law_kept", "_law_at", "_law_words", "_law_many", "_law_ends", "_law_pair", "_law_signs_here", "_law_there", "_law_word_here"] ["_law_kept", "_law_at", "_law_words", "_law_many"] (defScope s_l_read_word) := ⟨rfl, rfl, rfl, by decide +kernel, rfl, by decide +kernel, by decide +kernel⟩
abbrev s_l_read : Stmt := top 44
theorem sc_l_read : FnScope ["_law_words", "_law_signs_here", "_law_kept", "_law_place", "_law_sign", "_law_found", "_law_at", "_law_one"] ["_law_words", "_law_signs_here"] (defScope s_l_read) := ⟨rfl, rfl, rfl, by decide +kernel, rfl, by decide +kernel, by decide +kernel⟩
abbrev s_l_bent : Stmt := top 45
theorem sc_l_bent : FnScope ["_law_signs_here", "_law_cell_here", "_law_nums", "_law_k", "_law_at", "_law_way", "_law_sign"] ["_law_signs_here", "_law_cell_here"] (defScope s_l_bent) := ⟨rfl, rfl, rfl, by decide +kernel, rfl, by decide +kernel, by decide +kernel⟩
abbrev s_l_told : Stmt := top 46
theorem sc_l_told : FnScope ["_law_book_here", "_law_signs_here", "_law_told_here", "e"] ["_law_book_here", "_law_signs_here"] (defScope s_l_told) := ⟨rfl, rfl, rfl, by decide +kernel, rfl, by decide +kernel, by decide +kernel⟩
abbrev s_law : Stmt := top 47
theorem sc_law : FnScope ["_law_script", "_law_book_here", "_law_words", "_law_signs_here", "_law_turn", "_law_handed", "_law_found", "_law_word_here"] ["_law_script"] (defScope s_law) := ⟨rfl, rfl, rfl, by decide +kernel, rfl, by decide +kernel, by decide +kernel⟩
structure Txt (K : PySem.W.Frag) (mg : Str → Option Value) where
  a_MastError : Addr
  a_BadSign : Addr
  a_BadPlace : Addr
  a_BadWord : Addr
  a_Taken : Addr
  a_Known : Addr
  a_NoWord : Addr
  a_BadSigns : Addr
  f_p_BadSigns_init : Addr
  g_MastError : mg "MastError" = some (.ref a_MastError)
  x_MastError : PySem.W.excIn K a_MastError [.type "ValueError", .type "Exception", .type "BaseException", .type "object"] "ValueError.__new__" = true
  k_MastError : PySem.W.keepIn K (.ref a_MastError) = true
  b_MastError : PySem.W.subIn K (.ref a_MastError) (.type "BaseException") = some true
  t_MastError : PySem.W.typeIn K (.ref a_MastError) = some (.type "type")
  i_MastError : PySem.W.isClsIn K a_MastError = true
  h_MastError : PySem.W.hasDictIn K a_MastError = true
  ga_MastError : PySem.W.findIn K (.ref a_MastError) "__getattribute__" = some (some (.builtin "BaseException.__getattribute__"))
  gg_MastError : PySem.W.findIn K (.ref a_MastError) "__getattr__" = some none
  cl_MastError : PySem.W.findIn K (.ref a_MastError) "__class__" = some (some (.builtin "object.__class__"))
  mo_MastError : PySem.W.mroIn K a_MastError (.type "object") = some true
  v_MastError : PySem.W.subIn K (.ref a_MastError) (.type "ValueError") = some true
  s_MastError_MastError : PySem.W.subIn K (.ref a_MastError) (.ref a_MastError) = some true
  g_BadSign : mg "BadSign" = some (.ref a_BadSign)
  x_BadSign : PySem.W.excIn K a_BadSign [.type "ValueError", .type "Exception", .type "BaseException", .type "object"] "ValueError.__new__" = true
  k_BadSign : PySem.W.keepIn K (.ref a_BadSign) = true
  b_BadSign : PySem.W.subIn K (.ref a_BadSign) (.type "BaseException") = some true
  t_BadSign : PySem.W.typeIn K (.ref a_BadSign) = some (.type "type")
  i_BadSign : PySem.W.isClsIn K a_BadSign = true
  h_BadSign : PySem.W.hasDictIn K a_BadSign = true
  ga_BadSign : PySem.W.findIn K (.ref a_BadSign) "__getattribute__" = some (some (.builtin "BaseException.__getattribute__"))
  gg_BadSign : PySem.W.findIn K (.ref a_BadSign) "__getattr__" = some none
  cl_BadSign : PySem.W.findIn K (.ref a_BadSign) "__class__" = some (some (.builtin "object.__class__"))
  mo_BadSign : PySem.W.mroIn K a_BadSign (.type "object") = some true
  v_BadSign : PySem.W.subIn K (.ref a_BadSign) (.type "ValueError") = some true
  s_BadSign_MastError : PySem.W.subIn K (.ref a_BadSign) (.ref a_MastError) = some true
  g_BadPlace : mg "BadPlace" = some (.ref a_BadPlace)
  x_BadPlace : PySem.W.excIn K a_BadPlace [.type "ValueError", .type "Exception", .type "BaseException", .type "object"] "ValueError.__new__" = true
  k_BadPlace : PySem.W.keepIn K (.ref a_BadPlace) = true
  b_BadPlace : PySem.W.subIn K (.ref a_BadPlace) (.type "BaseException") = some true
  t_BadPlace : PySem.W.typeIn K (.ref a_BadPlace) = some (.type "type")
  i_BadPlace : PySem.W.isClsIn K a_BadPlace = true
  h_BadPlace : PySem.W.hasDictIn K a_BadPlace = true
  ga_BadPlace : PySem.W.findIn K (.ref a_BadPlace) "__getattribute__" = some (some (.builtin "BaseException.__getattribute__"))
  gg_BadPlace : PySem.W.findIn K (.ref a_BadPlace) "__getattr__" = some none
  cl_BadPlace : PySem.W.findIn K (.ref a_BadPlace) "__class__" = some (some (.builtin "object.__class__"))
  mo_BadPlace : PySem.W.mroIn K a_BadPlace (.type "object") = some true
  v_BadPlace : PySem.W.subIn K (.ref a_BadPlace) (.type "ValueError") = some true
  s_BadPlace_MastError : PySem.W.subIn K (.ref a_BadPlace) (.ref a_MastError) = some true
  g_BadWord : mg "BadWord" = some (.ref a_BadWord)
  x_BadWord : PySem.W.excIn K a_BadWord [.type "ValueError", .type "Exception", .type "BaseException", .type "object"] "ValueError.__new__" = true
  k_BadWord : PySem.W.keepIn K (.ref a_BadWord) = true
  b_BadWord : PySem.W.subIn K (.ref a_BadWord) (.type "BaseException") = some true
  t_BadWord : PySem.W.typeIn K (.ref a_BadWord) = some (.type "type")
  i_BadWord : PySem.W.isClsIn K a_BadWord = true
  h_BadWord : PySem.W.hasDictIn K a_BadWord = true
  ga_BadWord : PySem.W.findIn K (.ref a_BadWord) "__getattribute__" = some (some (.builtin "BaseException.__getattribute__"))
  gg_BadWord : PySem.W.findIn K (.ref a_BadWord) "__getattr__" = some none
  cl_BadWord : PySem.W.findIn K (.ref a_BadWord) "__class__" = some (some (.builtin "object.__class__"))
  mo_BadWord : PySem.W.mroIn K a_BadWord (.type "object") = some true
  v_BadWord : PySem.W.subIn K (.ref a_BadWord) (.type "ValueError") = some true
  s_BadWord_MastError : PySem.W.subIn K (.ref a_BadWord) (.ref a_MastError) = some true
  g_Taken : mg "Taken" = some (.ref a_Taken)
  x_Taken : PySem.W.excIn K a_Taken [.type "ValueError", .type "Exception", .type "BaseException", .type "object"] "ValueError.__new__" = true
  k_Taken : PySem.W.keepIn K (.ref a_Taken) = true
  b_Taken : PySem.W.subIn K (.ref a_Taken) (.type "BaseException") = some true
  t_Taken : PySem.W.typeIn K (.ref a_Taken) = some (.type "type")
  i_Taken : PySem.W.isClsIn K a_Taken = true
  h_Taken : PySem.W.hasDictIn K a_Taken = true
  ga_Taken : PySem.W.findIn K (.ref a_Taken) "__getattribute__" = some (some (.builtin "BaseException.__getattribute__"))
  gg_Taken : PySem.W.findIn K (.ref a_Taken) "__getattr__" = some none
  cl_Taken : PySem.W.findIn K (.ref a_Taken) "__class__" = some (some (.builtin "object.__class__"))
  mo_Taken : PySem.W.mroIn K a_Taken (.type "object") = some true
  v_Taken : PySem.W.subIn K (.ref a_Taken) (.type "ValueError") = some true
  s_Taken_MastError : PySem.W.subIn K (.ref a_Taken) (.ref a_MastError) = some true
  g_Known : mg "Known" = some (.ref a_Known)
  x_Known : PySem.W.excIn K a_Known [.type "ValueError", .type "Exception", .type "BaseException", .type "object"] "ValueError.__new__" = true
  k_Known : PySem.W.keepIn K (.ref a_Known) = true
  b_Known : PySem.W.subIn K (.ref a_Known) (.type "BaseException") = some true
  t_Known : PySem.W.typeIn K (.ref a_Known) = some (.type "type")
  i_Known : PySem.W.isClsIn K a_Known = true
  h_Known : PySem.W.hasDictIn K a_Known = true
  ga_Known : PySem.W.findIn K (.ref a_Known) "__getattribute__" = some (some (.builtin "BaseException.__getattribute__"))
  gg_Known : PySem.W.findIn K (.ref a_Known) "__getattr__" = some none
  cl_Known : PySem.W.findIn K (.ref a_Known) "__class__" = some (some (.builtin "object.__class__"))
  mo_Known : PySem.W.mroIn K a_Known (.type "object") = some true
  v_Known : PySem.W.subIn K (.ref a_Known) (.type "ValueError") = some true
  s_Known_MastError : PySem.W.subIn K (.ref a_Known) (.ref a_MastError) = some true
  g_NoWord : mg "NoWord" = some (.ref a_NoWord)
  x_NoWord : PySem.W.excIn K a_NoWord [.type "ValueError", .type "Exception", .type "BaseException", .type "object"] "ValueError.__new__" = true
  k_NoWord : PySem.W.keepIn K (.ref a_NoWord) = true
  b_NoWord : PySem.W.subIn K (.ref a_NoWord) (.type "BaseException") = some true
  t_NoWord : PySem.W.typeIn K (.ref a_NoWord) = some (.type "type")
  i_NoWord : PySem.W.isClsIn K a_NoWord = true
  h_NoWord : PySem.W.hasDictIn K a_NoWord = true
  ga_NoWord : PySem.W.findIn K (.ref a_NoWord) "__getattribute__" = some (some (.builtin "BaseException.__getattribute__"))
  gg_NoWord : PySem.W.findIn K (.ref a_NoWord) "__getattr__" = some none
  cl_NoWord : PySem.W.findIn K (.ref a_NoWord) "__class__" = some (some (.builtin "object.__class__"))
  mo_NoWord : PySem.W.mroIn K a_NoWord (.type "object") = some true
  v_NoWord : PySem.W.subIn K (.ref a_NoWord) (.type "ValueError") = some true
  s_NoWord_MastError : PySem.W.subIn K (.ref a_NoWord) (.ref a_MastError) = some true
  g_BadSigns : mg "BadSigns" = some (.ref a_BadSigns)
  k_BadSigns : PySem.W.keepIn K (.ref a_BadSigns) = true
  b_BadSigns : PySem.W.subIn K (.ref a_BadSigns) (.type "BaseException") = some true
  t_BadSigns : PySem.W.typeIn K (.ref a_BadSigns) = some (.type "type")
  i_BadSigns : PySem.W.isClsIn K a_BadSigns = true
  h_BadSigns : PySem.W.hasDictIn K a_BadSigns = true
  ga_BadSigns : PySem.W.findIn K (.ref a_BadSigns) "__getattribute__" = some (some (.builtin "BaseException.__getattribute__"))
  gg_BadSigns : PySem.W.findIn K (.ref a_BadSigns) "__getattr__" = some none
  cl_BadSigns : PySem.W.findIn K (.ref a_BadSigns) "__class__" = some (some (.builtin "object.__class__"))
  mo_BadSigns : PySem.W.mroIn K a_BadSigns (.type "object") = some true
  v_BadSigns : PySem.W.subIn K (.ref a_BadSigns) (.type "ValueError") = some true
  ox_BadSigns : OexC K a_BadSigns
  d_p_BadSigns_init : FuncData
  F_p_BadSigns_init : Fun K "__init__" "BadSigns.__init__" s_p_BadSigns_init f_p_BadSigns_init d_p_BadSigns_init
  b_p_BadSigns_init : Binds K d_p_BadSigns_init ["self", "at"] []
  ic_BadSigns : PySem.W.findIn K (.ref a_BadSigns) "__init__" = some (some (.ref f_p_BadSigns_init))
  ti_BadSigns : PySem.W.typeIn K (.ref f_p_BadSigns_init) = some (.type "function")
  nf_BadSigns_at : PySem.W.findIn K (.ref a_BadSigns) "at" = some none
  s_BadSigns_MastError : PySem.W.subIn K (.ref a_BadSigns) (.ref a_MastError) = some true
  s_BadSigns_BadSigns : PySem.W.subIn K (.ref a_BadSigns) (.ref a_BadSigns) = some true
  a_Phrasebook : Addr
  g_Phrasebook : mg "Phrasebook" = some (.ref a_Phrasebook)
  cl_Phrasebook : Cls K a_Phrasebook
  n_Phrasebook_word_by_place : NoAttr K a_Phrasebook "word_by_place"
  n_Phrasebook_place_by_word : NoAttr K a_Phrasebook "place_by_word"
  f_p_is_sign : Addr
  d_p_is_sign : FuncData
  F_p_is_sign : Fun K "is_sign" "is_sign" s_p_is_sign f_p_is_sign d_p_is_sign
  b_p_is_sign : Binds K d_p_is_sign ["number"] []
  g_p_is_sign : mg "is_sign" = some (.ref f_p_is_sign)
  f_p_check_signs : Addr
  d_p_check_signs : FuncData
  c_tabS : Addr
  P_tabS : Addr
  W_p_check_signs : FunC K "check_signs" "check_signs" s_p_check_signs f_p_check_signs d_p_check_signs c_tabS
  F_p_check_signs : Fun K "check_signs" "check_signs" s_p_check_signs f_p_check_signs d_p_check_signs
  b_p_check_signs : Binds K d_p_check_signs ["numbers"] []
  g_p_check_signs : mg "check_signs" = some (.ref f_p_check_signs)
  f_p_kind_of : Addr
  d_p_kind_of : FuncData
  F_p_kind_of : Fun K "kind_of" "kind_of" s_p_kind_of f_p_kind_of d_p_kind_of
  b_p_kind_of : Binds K d_p_kind_of ["sign"] []
  g_p_kind_of : mg "kind_of" = some (.ref f_p_kind_of)
  f_p_letter_of : Addr
  d_p_letter_of : FuncData
  F_p_letter_of : Fun K "letter_of" "letter_of" s_p_letter_of f_p_letter_of d_p_letter_of
  b_p_letter_of : Binds K d_p_letter_of ["sign"] []
  g_p_letter_of : mg "letter_of" = some (.ref f_p_letter_of)
  f_p_standing : Addr
  d_p_standing : FuncData
  F_p_standing : Fun K "standing" "standing" s_p_standing f_p_standing d_p_standing
  b_p_standing : Binds K d_p_standing ["signs"] []
  g_p_standing : mg "standing" = some (.ref f_p_standing)
  f_p_is_word : Addr
  d_p_is_word : FuncData
  c_tab : Addr
  P_tab : Addr
  W_p_is_word : FunC K "is_word" "is_word" s_p_is_word f_p_is_word d_p_is_word c_tab
  F_p_is_word : Fun K "is_word" "is_word" s_p_is_word f_p_is_word d_p_is_word
  b_p_is_word : Binds K d_p_is_word ["text"] []
  g_p_is_word : mg "is_word" = some (.ref f_p_is_word)
  f_p_check_word : Addr
  d_p_check_word : FuncData
  F_p_check_word : Fun K "check_word" "check_word" s_p_check_word f_p_check_word d_p_check_word
  b_p_check_word : Binds K d_p_check_word ["text"] []
  g_p_check_word : mg "check_word" = some (.ref f_p_check_word)
  f_p_check_place : Addr
  d_p_check_place : FuncData
  F_p_check_place : Fun K "check_place" "check_place" s_p_check_place f_p_check_place d_p_check_place
  b_p_check_place : Binds K d_p_check_place ["page", "line"] []
  g_p_check_place : mg "check_place" = some (.ref f_p_check_place)
  f_p_Phrasebook_init : Addr
  d_p_Phrasebook_init : FuncData
  F_p_Phrasebook_init : Fun K "__init__" "Phrasebook.__init__" s_p_Phrasebook_init f_p_Phrasebook_init d_p_Phrasebook_init
  b_p_Phrasebook_init : Binds K d_p_Phrasebook_init ["self"] []
  M_p_Phrasebook_init : Meth K a_Phrasebook "__init__" f_p_Phrasebook_init
  K_Phrasebook : Mk K a_Phrasebook f_p_Phrasebook_init
  f_p_Phrasebook_enter : Addr
  d_p_Phrasebook_enter : FuncData
  F_p_Phrasebook_enter : Fun K "enter" "Phrasebook.enter" s_p_Phrasebook_enter f_p_Phrasebook_enter d_p_Phrasebook_enter
  b_p_Phrasebook_enter : Binds K d_p_Phrasebook_enter ["self", "page", "line", "word"] []
  M_p_Phrasebook_enter : Meth K a_Phrasebook "enter" f_p_Phrasebook_enter
  f_p_Phrasebook_word_at : Addr
  d_p_Phrasebook_word_at : FuncData
  F_p_Phrasebook_word_at : Fun K "word_at" "Phrasebook.word_at" s_p_Phrasebook_word_at f_p_Phrasebook_word_at d_p_Phrasebook_word_at
  b_p_Phrasebook_word_at : Binds K d_p_Phrasebook_word_at ["self", "page", "line"] []
  M_p_Phrasebook_word_at : Meth K a_Phrasebook "word_at" f_p_Phrasebook_word_at
  f_p_Phrasebook_words : Addr
  d_p_Phrasebook_words : FuncData
  F_p_Phrasebook_words : Fun K "words" "Phrasebook.words" s_p_Phrasebook_words f_p_Phrasebook_words d_p_Phrasebook_words
  b_p_Phrasebook_words : Binds K d_p_Phrasebook_words ["self"] []
  M_p_Phrasebook_words : Meth K a_Phrasebook "words" f_p_Phrasebook_words
  f_p_words_of : Addr
  d_p_words_of : FuncData
  F_p_words_of : Fun K "words_of" "words_of" s_p_words_of f_p_words_of d_p_words_of
  b_p_words_of : Binds K d_p_words_of ["book", "signs"] []
  g_p_words_of : mg "words_of" = some (.ref f_p_words_of)
  f_p_rows_of : Addr
  d_p_rows_of : FuncData
  F_p_rows_of : Fun K "rows_of" "rows_of" s_p_rows_of f_p_rows_of d_p_rows_of
  b_p_rows_of : Binds K d_p_rows_of ["signs"] []
  g_p_rows_of : mg "rows_of" = some (.ref f_p_rows_of)
  f_p_placed_word : Addr
  d_p_placed_word : FuncData
  F_p_placed_word : Fun K "placed_word" "placed_word" s_p_placed_word f_p_placed_word d_p_placed_word
  b_p_placed_word : Binds K d_p_placed_word ["book", "page", "row"] []
  g_p_placed_word : mg "placed_word" = some (.ref f_p_placed_word)
  f_p_spelled_word : Addr
  d_p_spelled_word : FuncData
  F_p_spelled_word : Fun K "spelled_word" "spelled_word" s_p_spelled_word f_p_spelled_word d_p_spelled_word
  b_p_spelled_word : Binds K d_p_spelled_word ["rows", "at"] []
  g_p_spelled_word : mg "spelled_word" = some (.ref f_p_spelled_word)
  f_l_cell : Addr
  d_l_cell : FuncData
  F_l_cell : Fun K "_law_cell" "_law_cell" s_l_cell f_l_cell d_l_cell
  b_l_cell : Binds K d_l_cell ["_law_script", "_law_at"] []
  g_l_cell : mg "_law_cell" = some (.ref f_l_cell)
  f_l_row : Addr
  d_l_row : FuncData
  F_l_row : Fun K "_law_row" "_law_row" s_l_row f_l_row d_l_row
  b_l_row : Binds K d_l_row ["_law_cell_here", "_law_many", "_law_size"] []
  g_l_row : mg "_law_row" = some (.ref f_l_row)
  f_l_like : Addr
  d_l_like : FuncData
  F_l_like : Fun K "_law_like" "_law_like" s_l_like f_l_like d_l_like
  b_l_like : Binds K d_l_like ["_law_found", "_law_due"] []
  g_l_like : mg "_law_like" = some (.ref f_l_like)
  f_l_word : Addr
  d_l_word : FuncData
  F_l_word : Fun K "_law_word" "_law_word" s_l_word f_l_word d_l_word
  b_l_word : Binds K d_l_word ["_law_cell_here"] []
  g_l_word : mg "_law_word" = some (.ref f_l_word)
  f_l_signs_of : Addr
  d_l_signs_of : FuncData
  F_l_signs_of : Fun K "_law_signs_of" "_law_signs_of" s_l_signs_of f_l_signs_of d_l_signs_of
  b_l_signs_of : Binds K d_l_signs_of ["_law_words", "_law_some"] []
  g_l_signs_of : mg "_law_signs_of" = some (.ref f_l_signs_of)
  f_l_signs : Addr
  d_l_signs : FuncData
  F_l_signs : Fun K "_law_signs" "_law_signs" s_l_signs f_l_signs d_l_signs
  b_l_signs : Binds K d_l_signs ["_law_cell_here", "_law_most"] []
  g_l_signs : mg "_law_signs" = some (.ref f_l_signs)
  f_l_book : Addr
  d_l_book : FuncData
  F_l_book : Fun K "_law_book" "_law_book" s_l_book f_l_book d_l_book
  b_l_book : Binds K d_l_book ["_law_script", "_law_at"] []
  g_l_book : mg "_law_book" = some (.ref f_l_book)
  f_l_some_words : Addr
  d_l_some_words : FuncData
  F_l_some_words : Fun K "_law_some_words" "_law_some_words" s_l_some_words f_l_some_words d_l_some_words
  b_l_some_words : Binds K d_l_some_words ["_law_words", "_law_cell_here", "_law_most"] []
  g_l_some_words : mg "_law_some_words" = some (.ref f_l_some_words)
  f_l_read_word : Addr
  d_l_read_word : FuncData
  F_l_read_word : Fun K "_law_read_word" "_law_read_word" s_l_read_word f_l_read_word d_l_read_word
  b_l_read_word : Binds K d_l_read_word ["_law_kept", "_law_at", "_law_words", "_law_many"] []
  g_l_read_word : mg "_law_read_word" = some (.ref f_l_read_word)
  f_l_read : Addr
  d_l_read : FuncData
  F_l_read : Fun K "_law_read" "_law_read" s_l_read f_l_read d_l_read
  b_l_read : Binds K d_l_read ["_law_words", "_law_signs_here"] []
  g_l_read : mg "_law_read" = some (.ref f_l_read)
  f_l_bent : Addr
  d_l_bent : FuncData
  F_l_bent : Fun K "_law_bent" "_law_bent" s_l_bent f_l_bent d_l_bent
  b_l_bent : Binds K d_l_bent ["_law_signs_here", "_law_cell_here"] []
  g_l_bent : mg "_law_bent" = some (.ref f_l_bent)
  f_l_told : Addr
  d_l_told : FuncData
  F_l_told : Fun K "_law_told" "_law_told" s_l_told f_l_told d_l_told
  b_l_told : Binds K d_l_told ["_law_book_here", "_law_signs_here"] []
  g_l_told : mg "_law_told" = some (.ref f_l_told)
  u_LETTERS : Value
  c_LETTERS : mg "LETTERS" = some u_LETTERS
  r_LETTERS : RelV (.str "abcdefghijklmnopqrstuvwxyz") u_LETTERS
  u_LAST_PAGE : Value
  c_LAST_PAGE : mg "LAST_PAGE" = some u_LAST_PAGE
  r_LAST_PAGE : RelV (.int 40) u_LAST_PAGE
  u_FIRST_LETTER : Value
  c_FIRST_LETTER : mg "FIRST_LETTER" = some u_FIRST_LETTER
  r_FIRST_LETTER : RelV (.int 41) u_FIRST_LETTER
  u_LAST_LETTER : Value
  c_LAST_LETTER : mg "LAST_LETTER" = some u_LAST_LETTER
  r_LAST_LETTER : RelV (.int 66) u_LAST_LETTER
  u_END : Value
  c_END : mg "END" = some u_END
  r_END : RelV (.int 67) u_END
  u_STRIKE : Value
  c_STRIKE : mg "STRIKE" = some u_STRIKE
  r_STRIKE : RelV (.int 68) u_STRIKE
  u_LAST_SIGN : Value
  c_LAST_SIGN : mg "LAST_SIGN" = some u_LAST_SIGN
  r_LAST_SIGN : RelV (.int 94) u_LAST_SIGN
  u_LONGEST_WORD : Value
  c_LONGEST_WORD : mg "LONGEST_WORD" = some u_LONGEST_WORD
  r_LONGEST_WORD : RelV (.int 12) u_LONGEST_WORD
  u_PAST_THE_END : Value
  c_PAST_THE_END : mg "PAST_THE_END" = some u_PAST_THE_END
  r_PAST_THE_END : RelV (.str "past the end") u_PAST_THE_END
  m_all : mg "all" = none
  m_enumerate : mg "enumerate" = none
  m_len : mg "len" = none
  m_sorted : mg "sorted" = none
  m_range : mg "range" = none
  m_isinstance : mg "isinstance" = none
  m_bool : mg "bool" = none
  m_int : mg "int" = none
  m_str : mg "str" = none
  m_list : mg "list" = none
  m_tuple : mg "tuple" = none
  m_ValueError : mg "ValueError" = none
  oc_get : PySem.W.specialIn K (.builtin "object.__class__") "__get__" = some (some (.builtin "getset_descriptor.__get__"))
  oc_tak : PySem.W.takesIn K (.builtin "object.__class__") = some true
section
variable {P : Program} {w : World} {K : PySem.W.Frag} {mg : Str → Option Value} {base : Heap}
/-! ### _law_cell: an int of the script -/
def cellV (ns : List Int) (j : Nat) : Int :=
  if j < ns.length then ns.getD j 0 else if ns.length = 0 then 29 * (j : Int) + 5 else ns.getD (j % ns.length) 0 % 1000003 + 103 * (j : Int)
def sp_l_cell (K : PySem.W.Frag) : Sp := fun vs H Q _ => ∃ (l : Addr) (ns : List Int) (j : Nat), vs = [.ref l, .int j] ∧ SqL K H l (ns.map V.int) ∧ j ≤ 100000 ∧ Q (.int (cellV ns j)) H
theorem getD_at {ns : List Int} {j : Nat} (h : j < ns.length) : atI (ns.map V.int) (j : Int) = some (.int (ns.getD j 0)) := by
  rw [at_int h, List.getD_eq_getElem?_getD, List.getElem?_eq_getElem h]
  rfl
theorem ok_l_cell (T : Txt K mg) : FnOk P w K mg base CX0 1 T.f_l_cell T.d_l_cell ["_law_script", "_law_at"] (sp_l_cell K) := by
  refine T.F_l_cell.ok sc_l_cell (fun vs H Q E h => ?_) (fun cdv A outer s H vs Q E hr h => ?_)
  · obtain ⟨l, ns, j, rfl, _⟩ := h
    rfl
  · obtain ⟨l, ns, j, rfl, hS, hj, k⟩ := h
    have hlen : ((ns.map V.int).length : Int) = (ns.length : Int) := by rw [List.length_map]
    refine ⟨_, (pss_cons (ps_if (pt_cmpR op_lt (pv 1) (pe_callB call_len_seq (by rfl) T.m_len PySem.boot_len (pa_cons (pv 0) pa_nil)) (nomark _))
      (pss_one (ps_ret (pe_ix ix_list (pv 0) (pv 1) (fun _ _ => rfl))))
      pss_nil)
      (pss_cons (ps_if (pt_cmpR op_eq (pe_callB call_len_seq (by rfl) T.m_len PySem.boot_len (pa_cons (pv 0) pa_nil)) pe_int (nomark _))
      (pss_one (ps_ret (pe_op op_add (pe_op op_mul pe_int (pv 1)) pe_int)))
      pss_nil)
      (pss_one (ps_ret (pe_op op_add (pe_op op_mod (pe_ix ix_list (pv 0) (pe_op op_mod (pv 1) (pe_callB call_len_seq (by rfl) T.m_len PySem.boot_len (pa_cons (pv 0) pa_nil))) (fun _ _ => rfl)) pe_int) (pe_op op_mul pe_int (pv 1))))))), ?_⟩
    refine ⟨_, rfl, _, rfl, l, _, rfl, .inl hS, _, _, rfl, rfl, _, rfl, iteD (fun c => ?_) (fun c => ?_)⟩
    · rw [hlen] at c
      refine ⟨_, rfl, _, rfl, l, _, _, _, rfl, rfl, hS, getD_at (show j < ns.length by omega), ?_⟩
      have e : cellV ns j = ns.getD j 0 := if_pos (by omega)
      rw [e] at k
      exact k
    · rw [hlen] at c
      refine ⟨_, rfl, l, _, rfl, .inl hS, rfl, _, rfl, iteD (fun c2 => ?_) (fun c2 => ?_)⟩
      · have c3 : (ns.length : Int) = 0 := by
          have z := V.int.inj c2
          rw [hlen] at z
          exact z
        have e : cellV ns j = 29 * (j : Int) + 5 := by
          unfold cellV
          rw [if_neg (by omega), if_pos (by omega)]
        rw [e] at k
        exact ⟨_, rfl, _, _, rfl, rfl, .inl ⟨by decide, by decide⟩, _, _, rfl, rfl, k⟩
      · have c3 : ns.length ≠ 0 := fun z => c2 (by rw [hlen, z]; rfl)
        have hm : j % ns.length < ns.length := Nat.mod_lt _ (by omega)
        have e : cellV ns j = ns.getD (j % ns.length) 0 % 1000003 + 103 * (j : Int) := by
          unfold cellV
          rw [if_neg (by omega), if_neg c3]
        rw [e] at k
        have ea : atI (ns.map V.int) ((j : Int) % ((ns.map V.int).length : Int)) = some (.int (ns.getD (j % ns.length) 0)) := by
          rw [hlen, ← Int.natCast_emod]
          exact getD_at hm
        exact ⟨_, rfl, _, rfl, _, rfl, l, _, rfl, .inl hS, _, _, rfl, rfl, (by show (0 : Int) < ((ns.map V.int).length : Int); rw [hlen]; omega), l, _, _, _, rfl, rfl, hS, ea, _, _, rfl, rfl, (by show (0 : Int) < 1000003; decide), _, rfl, _, _, rfl, rfl, .inl ⟨by decide, by decide⟩, _, _, rfl, rfl, k⟩
/-! ### _law_like of one datum with itself -/
inductive Dn : Nat → PyData → Prop
  | non (n : Nat) : Dn (n + 1) .none
  | bl (n : Nat) (b : Bool) : Dn (n + 1) (.bool b)
  | int (n : Nat) (i : Int) : Dn (n + 1) (.int i)
  | str (n : Nat) (x : Str) : Dn (n + 1) (.str x)
  | lst {n : Nat} {ds : List PyData} : (∀ d ∈ ds, Dn n d) → ds.length ≤ 10000 → Dn (n + 1) (.list ds)
  | tup {n : Nat} {ds : List PyData} : (∀ d ∈ ds, Dn n d) → ds.length ≤ 10000 → Dn (n + 1) (.tuple ds)
def tyN : PyData → String
  | .none => "NoneType" | .bool _ => "bool" | .int _ => "int" | .str _ => "str" | .list _ => "list" | .tuple _ => "tuple" | .dict _ => "dict"
theorem ty_of {K : PySem.W.Frag} {H : Hp} {v : V} {d : PyData} (h : Dp K H v d) : TyX K H v (.type (tyN d)) := by
  cases h with
  | non => exact .base .non
  | bl b => exact .base (.bl b)
  | int i => exact .base (.int i)
  | str x => exact .base (.str x)
  | lst h _ =>
    rcases h with (h | ⟨o, h⟩) | ⟨o, its, n, e, c, _⟩
    · exact .base (.lst h)
    · exact .base (.frz h)
    · exact .kList e c
  | tup h _ =>
    rcases h with (h | ⟨o, h⟩) | ⟨o, its, n, e, c, _⟩
    · exact .base (.tup h)
    · exact .fTuple h
    · exact .kTuple e c
def sp_l_like (K : PySem.W.Frag) (n : Nat) : Sp := fun vs H Q _ => ∃ (u v : V) (d : PyData), vs = [u, v] ∧ Dp K H u d ∧ Dp K H v d ∧ Dn n d ∧ ∀ H', Kp H H' → Q (.bl true) H'
theorem fn_none {P : Program} {w : World} {K : PySem.W.Frag} {mg : Str → Option Value} {base : Heap} {f : Addr} {fd : FuncData} {ps : List Str} {sp : Sp} {k : Nat} (h : ∀ vs H Q E, ¬ sp vs H Q E) : FnOk P w K mg base CX0 k f fd ps sp :=
  ⟨fun vs H Q E q => (h vs H Q E q).elim, fun _ _ _ H _ _ vs Q E _ _ _ _ q => (h vs H Q E q).elim⟩
theorem bl_all {n : Nat} : ((List.replicate n true).map V.bl) = List.replicate n (V.bl true) := List.map_replicate
theorem all_rep (n : Nat) : (List.replicate n true).all id = true := by
  rw [List.all_eq_true]
  intro x hx
  rw [List.eq_of_mem_replicate hx]
  rfl
theorem k_bb : kitB "bool" "bool" = some true := by decide +kernel
theorem k_bi : kitB "bool" "int" = some true := by decide +kernel
theorem k_bs : kitB "bool" "str" = some false := by decide +kernel
theorem k_bl : kitB "bool" "list" = some false := by decide +kernel
theorem k_bt : kitB "bool" "tuple" = some false := by decide +kernel
theorem k_ib : kitB "int" "bool" = some false := by decide +kernel
theorem k_ii : kitB "int" "int" = some true := by decide +kernel
theorem k_is : kitB "int" "str" = some false := by decide +kernel
theorem k_il : kitB "int" "list" = some false := by decide +kernel
theorem k_it : kitB "int" "tuple" = some false := by decide +kernel
theorem k_sb : kitB "str" "bool" = some false := by decide +kernel
theorem k_si : kitB "str" "int" = some false := by decide +kernel
theorem k_ss : kitB "str" "str" = some true := by decide +kernel
theorem k_sl : kitB "str" "list" = some false := by decide +kernel
theorem k_st : kitB "str" "tuple" = some false := by decide +kernel
theorem k_lb : kitB "list" "bool" = some false := by decide +kernel
theorem k_li : kitB "list" "int" = some false := by decide +kernel
theorem k_ls : kitB "list" "str" = some false := by decide +kernel
theorem k_ll : kitB "list" "list" = some true := by decide +kernel
theorem k_lt : kitB "list" "tuple" = some false := by decide +kernel
theorem k_tb : kitB "tuple" "bool" = some false := by decide +kernel
theorem k_ti : kitB "tuple" "int" = some false := by decide +kernel
theorem k_ts : kitB "tuple" "str" = some false := by decide +kernel
theorem k_tl : kitB "tuple" "list" = some false := by decide +kernel
theorem k_tt : kitB "tuple" "tuple" = some true := by decide +kernel
theorem dec_self {x : V} : decide (x = x) = true := decide_eq_true rfl
theorem ok_l_like (T : Txt K mg) : ∀ n : Nat, FnOk P w K mg base CX0 n T.f_l_like T.d_l_like ["_law_found", "_law_due"] (sp_l_like K n)
  | 0 => fn_none fun vs H Q E ⟨u, v, d, _, _, _, h, _⟩ => nomatch h
  | n + 1 => by
    have IH := ok_l_like T n
    refine T.F_l_like.ok sc_l_like (fun vs H Q E h => ?_) (fun cdv A outer s H vs Q E hr h => ?_)
    · obtain ⟨u, v, d, rfl, _⟩ := h
      rfl
    · obtain ⟨u, v, d, rfl, hu, hv, hn, k⟩ := h
      have tu := ty_of hu
      have tv := ty_of hv
      refine ⟨_, (pss_cons (ps_if (pt_cmpR op_isN (pv 1) pe_non (nomark _))
      (pss_one (ps_ret (pe_cmpR op_isN (pv 0) pe_non (nomark _))))
      pss_nil)
      (pss_cons (ps_if (pt_val (pe_callB call_isi (by rfl) T.m_isinstance (by decide +kernel) (pa_cons (pv 1) (pa_cons (pe_bltn (v := .ty "bool") (by rfl) T.m_bool (by decide +kernel) rfl) pa_nil))))
      (pss_one (ps_ret (pe_and (pe_callB call_isi (by rfl) T.m_isinstance (by decide +kernel) (pa_cons (pv 0) (pa_cons (pe_bltn (v := .ty "bool") (by rfl) T.m_bool (by decide +kernel) rfl) pa_nil))) (pe_one (pe_cmpR op_eq (pv 0) (pv 1) (nomark _))))))
      pss_nil)
      (pss_cons (ps_if (pt_val (pe_callB call_isi (by rfl) T.m_isinstance (by decide +kernel) (pa_cons (pv 1) (pa_cons (pe_bltn (v := .ty "int") (by rfl) T.m_int (by decide +kernel) rfl) pa_nil))))
      (pss_one (ps_ret (pe_and (pe_callB call_isi (by rfl) T.m_isinstance (by decide +kernel) (pa_cons (pv 0) (pa_cons (pe_bltn (v := .ty "int") (by rfl) T.m_int (by decide +kernel) rfl) pa_nil))) (pe_and (pe_not (pe_callB call_isi (by rfl) T.m_isinstance (by decide +kernel) (pa_cons (pv 0) (pa_cons (pe_bltn (v := .ty "bool") (by rfl) T.m_bool (by decide +kernel) rfl) pa_nil)))) (pe_one (pe_cmpR op_eq (pv 0) (pv 1) (nomark _)))))))
      pss_nil)
      (pss_cons (ps_if (pt_val (pe_callB call_isi (by rfl) T.m_isinstance (by decide +kernel) (pa_cons (pv 1) (pa_cons (pe_bltn (v := .ty "str") (by rfl) T.m_str (by decide +kernel) rfl) pa_nil))))
      (pss_one (ps_ret (pe_and (pe_callB call_isi (by rfl) T.m_isinstance (by decide +kernel) (pa_cons (pv 0) (pa_cons (pe_bltn (v := .ty "str") (by rfl) T.m_str (by decide +kernel) rfl) pa_nil))) (pe_one (pe_cmpR op_eq (pv 0) (pv 1) (nomark _))))))
      pss_nil)
      (pss_cons (ps_if (PW.pt (pw_or (pt_cmpR op_ne (pe_callB call_isi (by rfl) T.m_isinstance (by decide +kernel) (pa_cons (pv 1) (pa_cons (pe_bltn (v := .ty "list") (by rfl) T.m_list (by decide +kernel) rfl) pa_nil))) (pe_callB call_isi (by rfl) T.m_isinstance (by decide +kernel) (pa_cons (pv 0) (pa_cons (pe_bltn (v := .ty "list") (by rfl) T.m_list (by decide +kernel) rfl) pa_nil))) (nomark _)) (pw_or1 (pt_cmpR op_ne (pe_callB call_isi (by rfl) T.m_isinstance (by decide +kernel) (pa_cons (pv 1) (pa_cons (pe_bltn (v := .ty "tuple") (by rfl) T.m_tuple (by decide +kernel) rfl) pa_nil))) (pe_callB call_isi (by rfl) T.m_isinstance (by decide +kernel) (pa_cons (pv 0) (pa_cons (pe_bltn (v := .ty "tuple") (by rfl) T.m_tuple (by decide +kernel) rfl) pa_nil))) (nomark _)))))
      (pss_one (ps_ret pe_bl))
      pss_nil)
      (pss_one (ps_ret (pe_and (pe_cmpR op_eq (pe_callB call_len (by rfl) T.m_len PySem.boot_len (pa_cons (pv 0) pa_nil)) (pe_callB call_len (by rfl) T.m_len PySem.boot_len (pa_cons (pv 1) pa_nil)) (nomark _)) (pe_one (pe_callB (cr_all rfl) (by rfl) T.m_all (by decide +kernel) (pa_cons (pe_lc (own := [("_law_k", 2)]) (g := gName 2) (tt := tYes) (by rfl) sc_l_like.nd (pi_range1 (by rfl) T.m_range (pa_cons (pe_callB call_len (by rfl) T.m_len PySem.boot_len (pa_cons (pv 1) pa_nil)) pa_nil)) (blkOk_by (own := [("_law_k", 2)]) (N := ["_law_found", "_law_due", "_law_k"]) (sc := defScope s_l_like) (by decide +kernel)) (fun _ _ _ _ _ => (pg_name (i := 2) sc_l_like.nd rfl (by first | exact Or.inl rfl | exact Or.inr rfl))) (fun _ _ _ _ _ => pts_nil) (fun _ _ _ _ _ => (pe_call IH hr rfl T.g_l_like T.F_l_like.kp T.b_l_like .nil pass0 (pa_cons (pe_ix (ix_seqK K rfl) (pv 0) (pv 2) (fun _ _ => rfl)) (pa_cons (pe_ix (ix_seqK K rfl) (pv 1) (pv 2) (fun _ _ => rfl)) pa_nil))))) pa_nil))))))))))), ?_⟩
      cases hn with
      | non n =>
        cases hu
        cases hv
        refine ⟨_, rfl, rfl, _, rfl, iteTo dec_self ?_⟩
        exact ⟨_, rfl, rfl, k _ (.refl _)⟩
      | bl n b =>
        cases hu
        cases hv
        refine ⟨_, rfl, rfl, _, rfl, iteFo rfl ?_⟩
        refine ⟨_, rfl, _, _, _, _, true, rfl, .ty _, tv, kit_ty k_bb, _, rfl, iteTo rfl ?_⟩
        refine ⟨_, rfl, _, _, _, _, true, rfl, .ty _, tu, kit_ty k_bb, _, rfl, iteTo rfl ?_⟩
        refine ⟨_, rfl, _, rfl, rfl, ?_⟩
        rw [dec_self]
        exact k _ (.refl _)
      | int n i =>
        cases hu
        cases hv
        refine ⟨_, rfl, rfl, _, rfl, iteFo rfl ?_⟩
        refine ⟨_, rfl, _, _, _, _, false, rfl, .ty _, tv, kit_ty k_ib, _, rfl, iteFo rfl ?_⟩
        refine ⟨_, rfl, _, _, _, _, true, rfl, .ty _, tv, kit_ty k_ii, _, rfl, iteTo rfl ?_⟩
        refine ⟨_, rfl, _, _, _, _, true, rfl, .ty _, tu, kit_ty k_ii, _, rfl, iteTo rfl ?_⟩
        refine ⟨_, rfl, _, _, _, _, false, rfl, .ty _, tu, kit_ty k_ib, _, rfl, _, rfl, iteTo rfl ?_⟩
        refine ⟨_, rfl, _, rfl, rfl, ?_⟩
        rw [dec_self]
        exact k _ (.refl _)
      | str n x =>
        cases hu
        cases hv
        refine ⟨_, rfl, rfl, _, rfl, iteFo rfl ?_⟩
        refine ⟨_, rfl, _, _, _, _, false, rfl, .ty _, tv, kit_ty k_sb, _, rfl, iteFo rfl ?_⟩
        refine ⟨_, rfl, _, _, _, _, false, rfl, .ty _, tv, kit_ty k_si, _, rfl, iteFo rfl ?_⟩
        refine ⟨_, rfl, _, _, _, _, true, rfl, .ty _, tv, kit_ty k_ss, _, rfl, iteTo rfl ?_⟩
        refine ⟨_, rfl, _, _, _, _, true, rfl, .ty _, tu, kit_ty k_ss, _, rfl, iteTo rfl ?_⟩
        refine ⟨_, rfl, _, rfl, rfl, ?_⟩
        rw [dec_self]
        exact k _ (.refl _)
      | lst hd hl =>
        rename_i ds
        cases hu with | lst hsu hau =>
        cases hv with | lst hsv hav =>
        rename_i a xs b ys
        have lx := DpAll.len hau
        have ly := DpAll.len hav
        refine ⟨_, rfl, rfl, _, rfl, iteFo rfl ?_⟩
        refine ⟨_, rfl, _, _, _, _, false, rfl, .ty _, tv, kit_ty k_lb, _, rfl, iteFo rfl ?_⟩
        refine ⟨_, rfl, _, _, _, _, false, rfl, .ty _, tv, kit_ty k_li, _, rfl, iteFo rfl ?_⟩
        refine ⟨_, rfl, _, _, _, _, false, rfl, .ty _, tv, kit_ty k_ls, _, rfl, iteFo rfl ?_⟩
        refine ⟨_, rfl, _, _, _, _, true, rfl, .ty _, tv, kit_ty k_ll, _, rfl, _, _, _, _, true, rfl, .ty _, tu, kit_ty k_ll, rfl, _, rfl, iteFo rfl ?_⟩
        refine ⟨_, rfl, _, _, _, _, false, rfl, .ty _, tv, kit_ty k_lt, _, rfl, _, _, _, _, false, rfl, .ty _, tu, kit_ty k_lt, rfl, _, rfl, iteFo rfl ?_⟩
        refine ⟨_, rfl, _, _, rfl, .inl ⟨_, hsu, rfl⟩, _, rfl, _, _, rfl, .inl ⟨_, hsv, rfl⟩, rfl, _, rfl, iteTo (decide_eq_true (congrArg (fun z : Nat => V.int (z : Int)) (lx.trans ly.symm))) ?_⟩
        refine ⟨_, rfl, _, _, rfl, .inl ⟨_, hsv, rfl⟩, _, rfl, by omega, by omega, fun D hD => ?_⟩
        rw [Int.toNat_natCast]
        refine lc_range (lo := 0) (n := ys.length) (fun i H' => Kp H H' ∧ H' D = some (.lst (List.replicate i (V.bl true)))) ⟨Kp.new hD, upd_same⟩ (fun i H' hi ⟨kp, hDl⟩ => ?_) (fun H' ⟨kp, hDl⟩ => ?_)
        · have e0 : (0 : Int) + (i : Int) = (i : Int) := Int.zero_add _
          obtain ⟨d, hdi⟩ : ∃ d, ds[i]? = some d := ⟨_, List.getElem?_eq_getElem (by omega)⟩
          obtain ⟨x, hx, dx⟩ := DpAll.get hau hdi
          obtain ⟨y, hy, dy⟩ := DpAll.get hav hdi
          refine ⟨rfl, ?_⟩
          refine ⟨_, rfl, _, rfl, .inl ⟨_, _, _, x, rfl, rfl, kp.sqL hsu, by rw [e0]; exact atI_nat hx, _, rfl, _, rfl, .inl ⟨_, _, _, y, rfl, rfl, kp.sqL hsv, by rw [e0]; exact atI_nat hy, ?_⟩⟩⟩
          refine ⟨x, y, d, rfl, kp.dp dx, kp.dp dy, hd d (List.mem_of_getElem? hdi), fun H2 k2 => ⟨_, k2.same _ _ rfl hDl, szt (by rw [List.length_replicate]; omega), ?_⟩⟩
          exact ⟨(kp.trans k2).mut hD, by rw [upd_same, List.replicate_succ']⟩
        · refine ⟨D, List.replicate ys.length true, rfl, .inl (.inl (by rw [bl_all]; exact hDl)), ?_⟩
          rw [all_rep]
          exact k _ kp
      | tup hd hl =>
        rename_i ds
        cases hu with | tup hsu hau =>
        cases hv with | tup hsv hav =>
        rename_i a xs b ys
        have lx := DpAll.len hau
        have ly := DpAll.len hav
        refine ⟨_, rfl, rfl, _, rfl, iteFo rfl ?_⟩
        refine ⟨_, rfl, _, _, _, _, false, rfl, .ty _, tv, kit_ty k_tb, _, rfl, iteFo rfl ?_⟩
        refine ⟨_, rfl, _, _, _, _, false, rfl, .ty _, tv, kit_ty k_ti, _, rfl, iteFo rfl ?_⟩
        refine ⟨_, rfl, _, _, _, _, false, rfl, .ty _, tv, kit_ty k_ts, _, rfl, iteFo rfl ?_⟩
        refine ⟨_, rfl, _, _, _, _, false, rfl, .ty _, tv, kit_ty k_tl, _, rfl, _, _, _, _, false, rfl, .ty _, tu, kit_ty k_tl, rfl, _, rfl, iteFo rfl ?_⟩
        refine ⟨_, rfl, _, _, _, _, true, rfl, .ty _, tv, kit_ty k_tt, _, rfl, _, _, _, _, true, rfl, .ty _, tu, kit_ty k_tt, rfl, _, rfl, iteFo rfl ?_⟩
        refine ⟨_, rfl, _, _, rfl, .inr ⟨_, hsu, rfl⟩, _, rfl, _, _, rfl, .inr ⟨_, hsv, rfl⟩, rfl, _, rfl, iteTo (decide_eq_true (congrArg (fun z : Nat => V.int (z : Int)) (lx.trans ly.symm))) ?_⟩
        refine ⟨_, rfl, _, _, rfl, .inr ⟨_, hsv, rfl⟩, _, rfl, by omega, by omega, fun D hD => ?_⟩
        rw [Int.toNat_natCast]
        refine lc_range (lo := 0) (n := ys.length) (fun i H' => Kp H H' ∧ H' D = some (.lst (List.replicate i (V.bl true)))) ⟨Kp.new hD, upd_same⟩ (fun i H' hi ⟨kp, hDl⟩ => ?_) (fun H' ⟨kp, hDl⟩ => ?_)
        · have e0 : (0 : Int) + (i : Int) = (i : Int) := Int.zero_add _
          obtain ⟨d, hdi⟩ : ∃ d, ds[i]? = some d := ⟨_, List.getElem?_eq_getElem (by omega)⟩
          obtain ⟨x, hx, dx⟩ := DpAll.get hau hdi
          obtain ⟨y, hy, dy⟩ := DpAll.get hav hdi
          refine ⟨rfl, ?_⟩
          refine ⟨_, rfl, _, rfl, .inr (.inl ⟨_, _, _, x, rfl, rfl, kp.sqT hsu, by rw [e0]; exact atI_nat hx, _, rfl, _, rfl, .inr (.inl ⟨_, _, _, y, rfl, rfl, kp.sqT hsv, by rw [e0]; exact atI_nat hy, ?_⟩)⟩)⟩
          refine ⟨x, y, d, rfl, kp.dp dx, kp.dp dy, hd d (List.mem_of_getElem? hdi), fun H2 k2 => ⟨_, k2.same _ _ rfl hDl, szt (by rw [List.length_replicate]; omega), ?_⟩⟩
          exact ⟨(kp.trans k2).mut hD, by rw [upd_same, List.replicate_succ']⟩
        · refine ⟨D, List.replicate ys.length true, rfl, .inl (.inl (by rw [bl_all]; exact hDl)), ?_⟩
          rw [all_rep]
          exact k _ kp
/-! ### _law_row: so many ints from nought to below a size -/
def Drawn0 (many size : Int) (xs : List Int) : Prop := (xs.length : Int) = many ∧ ∀ x ∈ xs, 0 ≤ x ∧ x < size
def sp_l_row : Sp := fun vs H Q _ => ∃ (c many size : Int), vs = [.int c, .int many, .int size] ∧ 0 ≤ many ∧ many ≤ 1000 ∧ 0 < size ∧ size < 1073741824 ∧
  ∀ (xs : List Int) (p : Addr) (H' : Hp), H p = none → Kp H H' → H' p = some (.lst (xs.map V.int)) → Drawn0 many size xs → Q (.ref p) H'
theorem snoc_in {size z : Int} {xs : List Int} (hs : 0 < size) (h : ∀ x ∈ xs, 0 ≤ x ∧ x < size) : ∀ x ∈ xs ++ [z % size], 0 ≤ x ∧ x < size := by
  intro x hx
  rcases List.mem_append.mp hx with hx | hx
  · exact h x hx
  · rw [List.mem_singleton.mp hx]
    exact ⟨Int.emod_nonneg _ (by omega), Int.emod_lt_of_pos _ hs⟩
theorem ok_l_row (T : Txt K mg) : FnOk P w K mg base CX0 1 T.f_l_row T.d_l_row ["_law_cell_here", "_law_many", "_law_size"] sp_l_row := by
  refine T.F_l_row.ok sc_l_row (fun vs H Q E h => ?_) (fun cdv A outer s H vs Q E hr h => ?_)
  · obtain ⟨c, many, size, rfl, _⟩ := h
    rfl
  · obtain ⟨c, many, size, rfl, hm0, hm1, hs0, hs1, k⟩ := h
    refine ⟨_, (pss_cons (ps_set (i := 3) sc_l_row.nd rfl (by first | exact Or.inl rfl | exact Or.inr rfl) (pe_lst pa_nil))
      (pss_cons (ps_if (pt_cmpR op_ge (pv 0) (pe_op op_pow pe_int pe_int) (nomark _))
      (pss_cons (ps_set (i := 4) sc_l_row.nd rfl (by first | exact Or.inl rfl | exact Or.inr rfl) (pe_op op_sub (pv 0) (pe_op op_pow pe_int pe_int)))
      (pss_cons (ps_for PassesOwn.never rfl (pi_range1 (by rfl) T.m_range (pa_cons (pv 1) pa_nil)) (pg_name (i := 5) sc_l_row.nd rfl (by first | exact Or.inl rfl | exact Or.inr rfl))
      (pss_cons (ps_expr (pe_bm PySem.F.plainAttrs_list PySem.F.slot_list_append PySem.F.type_list_append mt_append (pv 3) (pa_cons (pe_op op_mod (pv 4) (pv 2)) pa_nil)))
      (pss_one (ps_set (i := 4) sc_l_row.nd rfl (by first | exact Or.inl rfl | exact Or.inr rfl) (pe_op op_fdiv (pv 4) (pv 2))))))
      (pss_one (ps_ret (pv 3)))))
      pss_nil)
      (pss_cons (ps_set (i := 6) sc_l_row.nd rfl (by first | exact Or.inl rfl | exact Or.inr rfl) (pe_op op_mod (pv 0) pe_int))
      (pss_cons (ps_for PassesOwn.never rfl (pi_range1 (by rfl) T.m_range (pa_cons (pv 1) pa_nil)) (pg_name (i := 5) sc_l_row.nd rfl (by first | exact Or.inl rfl | exact Or.inr rfl))
      (pss_cons (ps_set (i := 6) sc_l_row.nd rfl (by first | exact Or.inl rfl | exact Or.inr rfl) (pe_op op_mod (pe_op op_add (pe_op op_add (pe_op op_mul (pv 6) pe_int) pe_int) (pv 5)) pe_int))
      (pss_cons (ps_set (i := 7) sc_l_row.nd rfl (by first | exact Or.inl rfl | exact Or.inr rfl) (pe_op op_mod (pe_op op_fdiv (pe_op op_mul (pv 6) (pe_op op_add (pe_op op_mod (pv 6) pe_int) pe_int)) pe_int) pe_int))
      (pss_one (ps_expr (pe_bm PySem.F.plainAttrs_list PySem.F.slot_list_append PySem.F.type_list_append mt_append (pv 3) (pa_cons (pe_op op_mod (pv 7) (pv 2)) pa_nil)))))))
      (pss_one (ps_ret (pv 3))))))), ?_⟩
    refine ⟨Nat.zero_le _, fun p np => ?_⟩
    generalize h_H1 : upd H p _ = H1
    have k_H1 : Kp H H1 := by rw [← h_H1]; exact .new np
    have q_H1 := (congrFun h_H1 p).symm.trans upd_same
    clear h_H1
    refine ⟨_, rfl, _, _, rfl, rfl, ⟨by decide, by decide, by decide⟩, _, _, rfl, rfl, _, rfl, iteD (fun c1 => ?_) (fun c1 => ?_)⟩
    · refine ⟨_, rfl, _, _, rfl, rfl, ⟨by decide, by decide, by decide⟩, _, _, rfl, rfl, ?_⟩
      refine ⟨_, rfl, many, rfl, by omega, by omega, ?_⟩
      refine for_range (lo := 0) (n := many.toNat) (fun i σ H' => ∃ (xs : List Int) (r : Int) (y : Option V), σ = [some (.int c), some (.int many), some (.int size), some (.ref p), some (.int r), y, none, none] ∧ Kp H H' ∧ H' p = some (.lst (xs.map V.int)) ∧ xs.length = i ∧ ∀ x ∈ xs, 0 ≤ x ∧ x < size)
        ⟨[], _, none, rfl, k_H1, q_H1, rfl, by simp⟩ ?_ ?_
      · rintro i σ H' hi ⟨xs, r, y, rfl, kp, hp, hl, hb⟩
        refine ⟨_, rfl, .inl ⟨rfl, _, SqL.of hp⟩, _, rfl, _, rfl, _, _, rfl, rfl, hs0, p, _, _, rfl, rfl, hp, szt (by rw [List.length_map]; omega), ?_⟩
        refine ⟨_, rfl, _, rfl, _, _, rfl, rfl, ⟨hs0, hs1⟩, ?_⟩
        refine ⟨xs ++ [r % size], _, _, rfl, kp.mut np, ?_, by rw [List.length_append, hl]; rfl, snoc_in hs0 hb⟩
        rw [upd_same, List.map_append]
        rfl
      · rintro σ H' ⟨xs, r, y, rfl, kp, hp, hl, hb⟩
        exact ⟨_, rfl, k xs p H' np kp hp ⟨by omega, hb⟩⟩
    · refine ⟨_, rfl, _, _, rfl, rfl, (by show (0 : Int) < 2147483647; decide), ?_⟩
      refine ⟨_, rfl, many, rfl, by omega, by omega, ?_⟩
      refine for_range (lo := 0) (n := many.toNat) (fun i σ H' => ∃ (xs : List Int) (r : Int) (y y2 : Option V), σ = [some (.int c), some (.int many), some (.int size), some (.ref p), none, y, some (.int r), y2] ∧ Kp H H' ∧ H' p = some (.lst (xs.map V.int)) ∧ xs.length = i ∧ ∀ x ∈ xs, 0 ≤ x ∧ x < size)
        ⟨[], _, none, none, rfl, k_H1, q_H1, rfl, by simp⟩ ?_ ?_
      · rintro i σ H' hi ⟨xs, r, y, y2, rfl, kp, hp, hl, hb⟩
        refine ⟨_, rfl, _, _, rfl, rfl, .inr ⟨by decide, by decide⟩, _, _, rfl, rfl, _, rfl, _, _, rfl, rfl, _, _, rfl, rfl, (by show (0 : Int) < 2147483647; decide), ?_⟩
        generalize hr2 : (fun (i j : Int) => V.int (i % j)) _ _ = sv
        obtain ⟨r2, rfl⟩ : ∃ r2 : Int, sv = .int r2 := ⟨_, hr2.symm⟩
        clear hr2
        have b0 : 0 ≤ r2 % 65521 := Int.emod_nonneg _ (by decide)
        have b1 : r2 % 65521 < 65521 := Int.emod_lt_of_pos _ (by decide)
        refine ⟨_, rfl, _, rfl, _, _, rfl, rfl, (by show (0 : Int) < 65521; decide), _, _, rfl, rfl, _, _, rfl, rfl, .inr ⟨by omega, by omega⟩, _, _, rfl, rfl, ⟨by decide, by decide⟩, _, _, rfl, rfl, (by show (0 : Int) < 1000003; decide), ?_⟩
        refine ⟨_, rfl, .inl ⟨rfl, _, SqL.of hp⟩, _, rfl, _, rfl, _, _, rfl, rfl, hs0, p, _, _, rfl, rfl, hp, szt (by rw [List.length_map]; omega), ?_⟩
        refine ⟨xs ++ [r2 * (r2 % 65521 + 3) / 1009 % 1000003 % size], r2, _, _, rfl, kp.mut np, ?_, by rw [List.length_append, hl]; rfl, snoc_in hs0 hb⟩
        rw [upd_same, List.map_append]
        rfl
      · rintro σ H' ⟨xs, r, y, y2, rfl, kp, hp, hl, hb⟩
        exact ⟨_, rfl, k xs p H' np kp hp ⟨by omega, hb⟩⟩
/-! ### words -/
def abcW : Str := "abcdefghijklmnopqrstuvwxyz"
def isW (t : Str) : Bool := decide (1 ≤ (t.length : Int)) && (decide ((t.length : Int) ≤ 12) && t.cps.toList.all fun c => decide (c ∈ abcW.cps.toList))
def sp_p_is_word (P : Addr) : Sp := fun vs H Q _ => ∃ t : Str, vs = [.str t] ∧ t.length ≤ 1000 ∧ GxR.TabG H P ∧ ∀ H', Kp H H' → Q (.bl (isW t)) H'
theorem ok_p_is_word (T : Txt K mg) (TB : GxR.TabB base mg T.c_tab T.P_tab) : FnOk P w K mg base CX0 2 T.f_p_is_word T.d_p_is_word ["text"] (sp_p_is_word T.P_tab) := by
  obtain ⟨tl, hu⟩ := T.r_LETTERS
  have hL : mg "LETTERS" = some (.str abcW tl) := by rw [T.c_LETTERS, hu]; rfl
  refine T.W_p_is_word.ok sc_p_is_word (fun vs H Q E h => ?_) (fun A outer s H vs Q E hr h => ?_)
  · obtain ⟨t, rfl, _⟩ := h
    rfl
  · obtain ⟨t, rfl, hl, hT, k⟩ := h
    refine ⟨_, (pss_one (ps_ret (pe_and (pe_chain op_le op_le pe_int (pe_callB call_len_str (by rfl) T.m_len PySem.boot_len (pa_cons (pv 0) pa_nil)) (pe_glob rfl T.c_LONGEST_WORD T.r_LONGEST_WORD)) (pe_one (pe_allG hr (by rfl) T.m_all (by decide +kernel) TB rfl ⟨rfl, rfl, noCell (by decide +kernel), rfl, rfl, noFree (by decide +kernel)⟩ (pv 0) (elt_inG rfl rfl rfl hL) (fun _ => rfl)))))), ?_⟩
    refine ⟨_, rfl, t, rfl, szl (by omega), _, _, rfl, rfl, _, rfl, ?_⟩
    unfold isW at k
    by_cases c1 : 1 ≤ (t.length : Int)
    · rw [decide_eq_true c1] at k
      refine iteTo (decide_eq_true c1) ⟨_, _, rfl, rfl, _, rfl, ?_⟩
      by_cases c2 : (t.length : Int) ≤ 12
      · rw [decide_eq_true c2] at k
        exact iteTo (decide_eq_true c2) ⟨_, rfl, t, rfl, hT, fun H2 t2 => k _ (kp_tabbed hT t2)⟩
      · rw [decide_eq_false c2] at k
        exact iteFo (decide_eq_false c2) (k _ (.refl _))
    · rw [decide_eq_false c1] at k
      exact iteFo (decide_eq_false c1) ⟨_, rfl, iteF (k _ (.refl _))⟩
def sp_p_check_word (P C : Addr) : Sp := fun vs H Q E => ∃ t : Str, vs = [.str t] ∧ t.length ≤ 1000 ∧ GxR.TabG H P ∧ (isW t = true → ∀ H', Kp H H' → Q .non H') ∧ (isW t = false → ∀ H', Kp H H' → E (.ref C) none H')
theorem ok_p_check_word (T : Txt K mg) (TB : GxR.TabB base mg T.c_tab T.P_tab) : FnOk P w K mg base (L2.CX P w) 4 T.f_p_check_word T.d_p_check_word ["text"] (sp_p_check_word T.P_tab T.a_BadWord) := by
  refine T.F_p_check_word.okX sc_p_check_word (fun vs H Q E h => ?_) (fun cdv A outer s H vs Q E hr h => ?_)
  · obtain ⟨t, rfl, _⟩ := h
    rfl
  · obtain ⟨t, rfl, hl, hT, k, kE⟩ := h
    refine ⟨_, (pss_one (ps_if (pt_not (pt_val (pe_call (ok_p_is_word T TB) (hr.mono (by decide)) rfl T.g_p_is_word T.F_p_is_word.kp T.b_p_is_word .nil pass0 (pa_cons (pv 0) pa_nil))))
      (pss_one (ps_raise rfl (takes_of rfl rfl rfl rfl) (pmk_own PySem.F.excBase_ValueError T.x_BadWord T.g_BadWord T.k_BadWord (raises_own T.b_BadWord T.t_BadWord) rfl)))
      pss_nil)), ?_⟩
    refine ⟨_, rfl, t, rfl, hl, hT, fun H' kp => ⟨_, rfl, iteB (fun c => ?_) (fun c => ?_)⟩⟩
    · exact kE (by simpa using c) H' kp
    · exact k (by simpa using c) H' kp
def let1 (c : Nat) : Int := 41 + ((c - 97 : Nat) : Int)
def letS (w : Str) : List Int := w.cps.toList.map let1
theorem isW_len {t : Str} (h : isW t = true) : 1 ≤ t.length ∧ t.length ≤ 12 := by
  unfold isW at h
  simp only [Bool.and_eq_true, decide_eq_true_eq] at h
  omega
theorem abcW_mem {c : Nat} : c ∈ abcW.cps.toList ↔ 97 ≤ c ∧ c < 123 := by
  have e : abcW.cps.toList = (List.range 26).map (97 + ·) := by decide +kernel
  rw [e]
  constructor
  · intro h
    obtain ⟨j, hj, rfl⟩ := List.mem_map.mp h
    have := List.mem_range.mp hj
    omega
  · intro h
    exact List.mem_map.mpr ⟨c - 97, List.mem_range.mpr (by omega), by omega⟩
theorem isW_signs {t : Str} (h : isW t = true) : ∀ c ∈ t.cps.toList, 97 ≤ c ∧ c < 123 := by
  unfold isW at h
  simp only [Bool.and_eq_true] at h
  intro c hc
  exact abcW_mem.mp (of_decide_eq_true (List.all_eq_true.mp h.2.2 c hc))
/-! ### a phrasebook -/
/-- what is kept but at the places of S -/
structure KpE (S : List Addr) (H H' : Hp) : Prop where
  same : ∀ a o, isT o = false → a ∉ S → H a = some o → H' a = some o
  tab : ∀ a, GxR.TabG H a → GxR.TabG H' a
  free : ∀ a, H' a = none → H a = none
theorem KpE.kp {S : List Addr} {H0 H H' : Hp} (k : Kp H0 H) (e : KpE S H H') (h : ∀ b ∈ S, H0 b = none) : Kp H0 H' :=
  ⟨fun a o t q => e.same a o t (fun m => by rw [h a m] at q; cases q) (k.same a o t q), fun a q => e.tab a (k.tab a q), fun a q => k.free a (e.free a q)⟩
theorem KpE.of {S : List Addr} {H H' : Hp} (k : Kp H H') : KpE S H H' := ⟨fun a o t _ q => k.same a o t q, k.tab, k.free⟩
theorem KpE.trans {S : List Addr} {H H1 H2 : Hp} (a : KpE S H H1) (b : KpE S H1 H2) : KpE S H H2 :=
  ⟨fun x o t m q => b.same x o t m (a.same x o t m q), fun x q => b.tab x (a.tab x q), fun x q => a.free x (b.free x q)⟩
theorem KpE.put {S : List Addr} {H : Hp} {d : Addr} {o u : HO} (hd : H d = some u) (nt : isT u = false) (m : d ∈ S) : KpE S H (upd H d o) := by
  refine ⟨fun a v t n q => ?_, fun a ⟨ps, q, tr⟩ => ⟨ps, ?_, tr⟩, fun a q => ?_⟩
  · rw [upd_ne (fun z => n (by rw [z]; exact m))]
    exact q
  · have ne : a ≠ d := fun z => by
      rw [z, hd] at q
      cases q
      cases nt
    rw [upd_ne ne]
    exact q
  · by_cases z : a = d
    · rw [z, upd_same] at q
      cases q
    · rw [upd_ne z] at q
      exact q
abbrev Ent := (Str × Int × Int) × Addr
def flds (d1 d2 : Addr) : List (Str × V) := putF "place_by_word" (.ref d2) (putF "word_by_place" (.ref d1) [])
theorem flds_place (d1 d2 : Addr) : (flds d1 d2).lookup ("place_by_word" : Str) = some (.ref d2) := by
  unfold flds
  rw [lookup_putF, if_pos rfl]
theorem flds_word (d1 d2 : Addr) : (flds d1 d2).lookup ("word_by_place" : Str) = some (.ref d1) := by
  unfold flds
  rw [lookup_putF, if_neg (by decide +kernel), lookup_putF, if_pos rfl]
theorem flds_no (d1 d2 : Addr) {m : Str} (h1 : ¬ m = "place_by_word") (h2 : ¬ m = "word_by_place") : (flds d1 d2).lookup m = none := by
  unfold flds
  rw [lookup_putF, if_neg h1, lookup_putF, if_neg h2]
  rfl
def kvP (bs : List Ent) : List (List Key × V) := bs.map fun b => ([Sum.inl b.1.2.1, Sum.inl b.1.2.2], V.str b.1.1)
def kvW (bs : List Ent) : List (Key × V) := bs.map fun b => (Sum.inr b.1.1, V.ref b.2)
def atP (bs : List Ent) (p l : Int) : Option Ent := bs.find? fun b => decide (b.1.2.1 = p ∧ b.1.2.2 = l)
def atW (bs : List Ent) (t : Str) : Option Ent := bs.find? fun b => decide (b.1.1 = t)
theorem valP (bs : List Ent) (p l : Int) : valV (kvP bs) [Sum.inl p, Sum.inl l] = (atP bs p l).map fun b => V.str b.1.1 := by
  unfold valV kvP atP
  rw [List.find?_map, Option.map_map]
  have e : ((fun kv : List Key × V => decide (kv.1 = ([Sum.inl p, Sum.inl l] : List Key))) ∘ fun b : Ent => (([Sum.inl b.1.2.1, Sum.inl b.1.2.2] : List Key), V.str b.1.1)) = fun b => decide (b.1.2.1 = p ∧ b.1.2.2 = l) := by
    funext b
    simp
  rw [e]
  rfl
theorem valW (bs : List Ent) (t : Str) : valV (kvW bs) (Sum.inr t) = (atW bs t).map fun b => V.ref b.2 := by
  unfold valV kvW atW
  rw [List.find?_map, Option.map_map]
  have e : ((fun kv : Key × V => decide (kv.1 = (Sum.inr t : Key))) ∘ fun b : Ent => ((Sum.inr b.1.1 : Key), V.ref b.2)) = fun b => decide (b.1.1 = t) := by
    funext b
    simp
  rw [e]
  rfl
structure BookAt (C : Addr) (H : Hp) (p d1 d2 : Addr) (bs : List Ent) : Prop where
  ob : ∃ dx, H p = some (.ins C dx (flds d1 d2))
  pl : H d1 = some (.dT (kvP bs))
  wd : H d2 = some (.dK (kvW bs))
  tu : ∀ b ∈ bs, H b.2 = some (.tup [.int b.1.2.1, .int b.1.2.2])
theorem BookAt.kp {C : Addr} {H H' : Hp} {p d1 d2 : Addr} {bs : List Ent} (b : BookAt C H p d1 d2 bs) (k : Kp H H') : BookAt C H' p d1 d2 bs :=
  ⟨let ⟨dx, h⟩ := b.ob; ⟨dx, k.same _ _ rfl h⟩, k.same _ _ rfl b.pl, k.same _ _ rfl b.wd, fun e he => k.same _ _ rfl (b.tu e he)⟩
theorem BookAt.ne {C : Addr} {H : Hp} {p d1 d2 : Addr} {bs : List Ent} (b : BookAt C H p d1 d2 bs) : p ≠ d1 ∧ p ≠ d2 ∧ d1 ≠ d2 := by
  obtain ⟨dx, h⟩ := b.ob
  exact ⟨ne_of h b.pl (by intro z; cases z), ne_of h b.wd (by intro z; cases z), ne_of b.pl b.wd (by intro z; cases z)⟩
def okP (p l : Int) : Bool := (decide (1 ≤ p) && decide (p ≤ 40)) && (decide (1 ≤ l) && decide (l ≤ 40))
def sp_p_check_place (C : Addr) : Sp := fun vs H Q E => ∃ p l : Int, vs = [.int p, .int l] ∧ (okP p l = true → Q .non H) ∧ (okP p l = false → E (.ref C) none H)
theorem ok_p_check_place (T : Txt K mg) : FnOk P w K mg base (L2.CX P w) 2 T.f_p_check_place T.d_p_check_place ["page", "line"] (sp_p_check_place T.a_BadPlace) := by
  refine T.F_p_check_place.okX sc_p_check_place (fun vs H Q E h => ?_) (fun cdv A outer s H vs Q E hr h => ?_)
  · obtain ⟨p, l, rfl, _⟩ := h
    rfl
  · obtain ⟨p, l, rfl, k, kE⟩ := h
    refine ⟨_, (pss_one (ps_if (pt_not (PW.pt (pw_and (pt_chain op_le op_le pe_int (pv 0) (pe_glob rfl T.c_LAST_PAGE T.r_LAST_PAGE)) (pw_and1 (pt_chain op_le op_le pe_int (pv 1) (pe_glob rfl T.c_LAST_PAGE T.r_LAST_PAGE))))))
      (pss_one (ps_raise rfl (takes_of rfl rfl rfl rfl) (pmk_own PySem.F.excBase_ValueError T.x_BadPlace T.g_BadPlace T.k_BadPlace (raises_own T.b_BadPlace T.t_BadPlace) rfl)))
      pss_nil)), ?_⟩
    unfold okP at k kE
    refine ⟨_, rfl, _, _, rfl, rfl, _, rfl, ?_⟩
    by_cases c1 : 1 ≤ p
    · rw [decide_eq_true c1] at k kE
      refine iteTo (decide_eq_true c1) ⟨_, _, rfl, rfl, _, rfl, ?_⟩
      by_cases c2 : p ≤ 40
      · rw [decide_eq_true c2] at k kE
        refine iteTo (decide_eq_true c2) ⟨_, rfl, _, _, rfl, rfl, _, rfl, ?_⟩
        by_cases c3 : 1 ≤ l
        · rw [decide_eq_true c3] at k kE
          refine iteTo (decide_eq_true c3) ⟨_, _, rfl, rfl, _, rfl, ?_⟩
          by_cases c4 : l ≤ 40
          · rw [decide_eq_true c4] at k
            exact iteFo (by rw [decide_eq_true c4]; rfl) (k rfl)
          · rw [decide_eq_false c4] at kE
            exact iteTo (by rw [decide_eq_false c4]; rfl) (kE rfl)
        · rw [decide_eq_false c3] at kE
          exact iteFo (decide_eq_false c3) ⟨_, rfl, iteT (kE rfl)⟩
      · rw [decide_eq_false c2] at kE
        exact iteFo (decide_eq_false c2) (iteT (kE rfl))
    · rw [decide_eq_false c1] at kE
      exact iteFo (decide_eq_false c1) ⟨_, rfl, iteF (iteT (kE rfl))⟩
/-! ### Phrasebook's methods -/
def sp_p_Phrasebook_init (C : Addr) : Sp := fun vs H Q _ => ∃ (p dx : Addr), vs = [.ref p] ∧ H p = some (.ins C dx []) ∧ ∀ (d1 d2 : Addr) (H' : Hp), H d1 = none → H d2 = none → BookAt C H' p d1 d2 [] → KpE [p] H H' → Q .non H'
theorem ok_p_Phrasebook_init (T : Txt K mg) : FnOk P w K mg base CX0 1 T.f_p_Phrasebook_init T.d_p_Phrasebook_init ["self"] (sp_p_Phrasebook_init T.a_Phrasebook) := by
  refine T.F_p_Phrasebook_init.ok sc_p_Phrasebook_init (fun vs H Q E h => ?_) (fun cdv A outer s H vs Q E hr h => ?_)
  · obtain ⟨p, dx, rfl, _⟩ := h
    rfl
  · obtain ⟨p, dx, rfl, hp, k⟩ := h
    refine ⟨_, (pss_cons (ps_fld (pv 0) pe_dnewT rfl)
      (pss_one (ps_fld (pv 0) pe_dnewK rfl))), ?_⟩
    intro d1 h1
    have n1 : p ≠ d1 := ne_of_none hp h1
    refine ⟨_, rfl, p, _, dx, [], rfl, (by rw [upd_ne n1]; exact hp), T.cl_Phrasebook, T.n_Phrasebook_word_by_place, (by show 0 < 1000; decide), ?_⟩
    intro d2 h2
    have n2 : p ≠ d2 := ne_of_none upd_same h2
    have n12 : d1 ≠ d2 := fun e => by
      rw [← e, upd_ne n1.symm, upd_same] at h2
      cases h2
    refine ⟨_, rfl, p, _, dx, _, rfl, (by rw [upd_ne n2]; exact upd_same), T.cl_Phrasebook, T.n_Phrasebook_place_by_word, (by show 1 < 1000; decide), ?_⟩
    have f2 : H d2 = none := by
      rw [upd_ne n2.symm, upd_ne n12.symm] at h2
      exact h2
    have hp1 : (upd H d1 (.dT [])) p = some (.ins T.a_Phrasebook dx []) := by rw [upd_ne n1]; exact hp
    have e1 : KpE [p] H (upd (upd H d1 (.dT [])) p (.ins T.a_Phrasebook dx (putF "word_by_place" (.ref d1) []))) := (KpE.of (Kp.new h1)).trans (KpE.put hp1 rfl List.mem_cons_self)
    refine k d1 d2 _ h1 f2 ⟨⟨dx, upd_same⟩, ?_, ?_, by simp⟩ (e1.trans ((KpE.of (Kp.new h2)).trans (KpE.put (by rw [upd_ne n2]; exact upd_same) rfl List.mem_cons_self)))
    · rw [upd_ne n1.symm, upd_ne n12, upd_ne n1.symm, upd_same]
      rfl
    · rw [upd_ne n2.symm, upd_same]
      rfl
theorem kp_made {C H H1 x dx} (nx : H x = none) (ndx : H dx = none) (ne : dx ≠ x) (k : KpE [x] (upd (upd H dx (.own x)) x (.ins C dx [])) H1) : Kp H H1 :=
  KpE.kp ((Kp.new ndx).trans (.new (by rw [upd_ne ne.symm]; exact nx))) ⟨k.same, k.tab, k.free⟩ (fun b hb => by rw [List.mem_singleton.mp hb]; exact nx)
def sp_p_Phrasebook_word_at (C B : Addr) : Sp := fun vs H Q E => ∃ (p d1 d2 : Addr) (bs : List Ent) (a l : Int), vs = [.ref p, .int a, .int l] ∧ BookAt C H p d1 d2 bs ∧
  (okP a l = true → ∀ H', Kp H H' → Q (((atP bs a l).map fun b => V.str b.1.1).getD .non) H') ∧ (okP a l = false → E (.ref B) none H)
theorem ok_p_Phrasebook_word_at (T : Txt K mg) : FnOk P w K mg base (L2.CX P w) 3 T.f_p_Phrasebook_word_at T.d_p_Phrasebook_word_at ["self", "page", "line"] (sp_p_Phrasebook_word_at T.a_Phrasebook T.a_BadPlace) := by
  refine T.F_p_Phrasebook_word_at.okX sc_p_Phrasebook_word_at (fun vs H Q E h => ?_) (fun cdv A outer s H vs Q E hr h => ?_)
  · obtain ⟨p, d1, d2, bs, a, l, rfl, _⟩ := h
    rfl
  · obtain ⟨p, d1, d2, bs, a, l, rfl, hB, k, kE⟩ := h
    have hu := hu_of hr
    refine ⟨_, (pss_cons (ps_expr (pe_call (ok_p_check_place T) (hr.mono (by decide)) rfl T.g_p_check_place T.F_p_check_place.kp T.b_p_check_place .nil (passes_call (takes_of rfl rfl rfl rfl) (fun _ _ _ _ z => z)) (pa_cons (pv 1) (pa_cons (pv 2) pa_nil))))
      (pss_one (ps_ret (pe_dget1 hu (pe_fld (pv 0) rfl) (pe_tup (pa_cons (pv 1) (pa_cons (pv 2) pa_nil))) ⟨rfl, rfl, rfl, rfl⟩)))), ?_⟩
    refine ⟨_, rfl, _, rfl, a, l, rfl, fun c => ?_, fun c => kE c⟩
    obtain ⟨dx, hp⟩ := hB.ob
    refine ⟨_, rfl, p, _, dx, _, _, rfl, hp, T.cl_Phrasebook, T.n_Phrasebook_word_by_place, flds_word _ _, d1, rfl, .inr ⟨_, .inl hB.pl⟩, _, rfl, _, rfl, szl (by show 2 ≤ 100000; decide), fun t nt => ?_⟩
    generalize h_H1 : upd H t _ = H1
    have k_H1 : Kp H H1 := by rw [← h_H1]; exact .new nt
    have q_H1 := (congrFun h_H1 t).symm.trans upd_same
    clear h_H1
    have B1 := hB.kp k_H1
    have z := k c _ k_H1
    rw [← valP] at z
    exact ⟨_, DGet.t (k := [Sum.inl a, Sum.inl l]) B1.pl q_H1, z⟩
/-- why a word is not entered: the place, the word, the place has one, the word has one -/
inductive Why where
  | place | word | taken | known
def enterV (bs : List Ent) (a l : Int) (t : Str) : Option Why :=
  if okP a l = false then some .place else if isW t = false then some .word else if (atP bs a l).isSome then some .taken else if (atW bs t).isSome then some .known else none
def sp_p_Phrasebook_enter (T : Txt K mg) : Sp := fun vs H Q E => ∃ (p d1 d2 : Addr) (bs : List Ent) (a l : Int) (t : Str), vs = [.ref p, .int a, .int l, .str t] ∧ BookAt T.a_Phrasebook H p d1 d2 bs ∧ bs.length ≤ 1000 ∧ t.length ≤ 1000 ∧ GxR.TabG H T.P_tab ∧
  (enterV bs a l t = none → ∀ (u : Addr) (H' : Hp), KpE [d1, d2] H H' → BookAt T.a_Phrasebook H' p d1 d2 (bs ++ [((t, a, l), u)]) → Q .non H') ∧
  (∀ y, enterV bs a l t = some y → ∀ H', Kp H H' → E (.ref (match y with | .place => T.a_BadPlace | .word => T.a_BadWord | .taken => T.a_Taken | .known => T.a_Known)) none H')
theorem ok_p_Phrasebook_enter (T : Txt K mg) (TB : GxR.TabB base mg T.c_tab T.P_tab) : FnOk P w K mg base (L2.CX P w) 5 T.f_p_Phrasebook_enter T.d_p_Phrasebook_enter ["self", "page", "line", "word"] (sp_p_Phrasebook_enter T) := by
  refine T.F_p_Phrasebook_enter.okX sc_p_Phrasebook_enter (fun vs H Q E h => ?_) (fun cdv A outer s H vs Q E hr h => ?_)
  · obtain ⟨p, d1, d2, bs, a, l, t, rfl, _⟩ := h
    rfl
  · obtain ⟨p, d1, d2, bs, a, l, t, rfl, hB, hbl, hl, hT, k, kE⟩ := h
    have hu := hu_of hr
    refine ⟨_, (pss_cons (ps_expr (pe_call (ok_p_check_place T) (hr.mono (by decide)) rfl T.g_p_check_place T.F_p_check_place.kp T.b_p_check_place .nil (passes_call (takes_of rfl rfl rfl rfl) (fun _ _ _ _ z => z)) (pa_cons (pv 1) (pa_cons (pv 2) pa_nil))))
      (pss_cons (ps_expr (pe_call (ok_p_check_word T TB) (hr.mono (by decide)) rfl T.g_p_check_word T.F_p_check_word.kp T.b_p_check_word .nil (passes_call (takes_of rfl rfl rfl rfl) (fun _ _ _ _ z => z)) (pa_cons (pv 3) pa_nil)))
      (pss_cons (ps_if (pt_cmp (pc_din hu (pe_tup (pa_cons (pv 1) (pa_cons (pv 2) pa_nil))) (pe_fld (pv 0) rfl)))
      (pss_one (ps_raise rfl (takes_of rfl rfl rfl rfl) (pmk_own PySem.F.excBase_ValueError T.x_Taken T.g_Taken T.k_Taken (raises_own T.b_Taken T.t_Taken) rfl)))
      pss_nil)
      (pss_cons (ps_if (pt_cmp (pc_din hu (pv 3) (pe_fld (pv 0) rfl)))
      (pss_one (ps_raise rfl (takes_of rfl rfl rfl rfl) (pmk_own PySem.F.excBase_ValueError T.x_Known T.g_Known T.k_Known (raises_own T.b_Known T.t_Known) rfl)))
      pss_nil)
      (pss_cons (ps_dput hu (pe_fld (pv 0) rfl) (pe_tup (pa_cons (pv 1) (pa_cons (pv 2) pa_nil))) (pv 3) rfl)
      (pss_one (ps_dput hu (pe_fld (pv 0) rfl) (pv 3) (pe_tup (pa_cons (pv 1) (pa_cons (pv 2) pa_nil))) rfl))))))), ?_⟩
    refine ⟨_, rfl, _, rfl, a, l, rfl, fun c1 => ?_, fun c1 => kE .place (by unfold enterV; rw [if_pos c1]) H (.refl _)⟩
    have v1 : enterV bs a l t = if isW t = false then some .word else if (atP bs a l).isSome then some .taken else if (atW bs t).isSome then some .known else none := by
      unfold enterV
      rw [if_neg (by rw [c1]; decide)]
    refine ⟨_, rfl, t, rfl, hl, hT, fun c2 H1 k1 => ?_, fun c2 H1 k1 => kE .word (by rw [v1, if_pos c2]) H1 k1⟩
    rw [if_neg (by rw [c2]; decide)] at v1
    have B1 := hB.kp k1
    obtain ⟨dx, hp⟩ := B1.ob
    refine ⟨_, rfl, _, rfl, szl (by show 2 ≤ 100000; decide), fun u nu => ?_⟩
    generalize h_H2 : upd H1 u _ = H2
    have k_H2 : Kp H1 H2 := by rw [← h_H2]; exact .new nu
    have q_H2 := (congrFun h_H2 u).symm.trans upd_same
    clear h_H2
    have B2 := B1.kp k_H2
    have hp2 := k_H2.same _ _ rfl hp
    refine ⟨_, rfl, p, _, dx, _, _, rfl, hp2, T.cl_Phrasebook, T.n_Phrasebook_word_by_place, flds_word _ _, d1, _, rfl, DGet.t (k := [Sum.inl a, Sum.inl l]) B2.pl q_H2, _, rfl, ?_⟩
    cases e1 : atP bs a l with
    | some b =>
      refine iteTo (by rw [valP, e1]; rfl) ?_
      exact kE .taken (by rw [v1, e1]; rfl) H2 (k1.trans k_H2)
    | none =>
      refine iteFo (by rw [valP, e1]; rfl) ?_
      rw [e1] at v1
      refine ⟨_, rfl, _, rfl, p, _, dx, _, _, rfl, hp2, T.cl_Phrasebook, T.n_Phrasebook_place_by_word, flds_place _ _, d2, _, rfl, DGet.k (k := Sum.inr t) B2.wd, _, rfl, ?_⟩
      cases e2 : atW bs t with
      | some b =>
        refine iteTo (by rw [valW, e2]; rfl) ?_
        exact kE .known (by rw [v1, e2]; rfl) H2 (k1.trans k_H2)
      | none =>
        refine iteFo (by rw [valW, e2]; rfl) ?_
        rw [e2] at v1
        obtain ⟨np1, np2, n12⟩ := B2.ne
        have hbl1 : (kvP bs).length < sizeLine := szt (by unfold kvP; rw [List.length_map]; omega)
        have hbl2 : (kvW bs).length < sizeLine := szt (by unfold kvW; rw [List.length_map]; omega)
        refine ⟨_, rfl, _, rfl, p, _, dx, _, _, rfl, hp2, T.cl_Phrasebook, T.n_Phrasebook_word_by_place, flds_word _ _, _, rfl, _, rfl, szl (by show 2 ≤ 100000; decide), fun u3 nu3 => ?_⟩
        generalize h_H3 : upd H2 u3 _ = H3
        have k_H3 : Kp H2 H3 := by rw [← h_H3]; exact .new nu3
        have q_H3 := (congrFun h_H3 u3).symm.trans upd_same
        clear h_H3
        have B3 := B2.kp k_H3
        have hp3 := k_H3.same _ _ rfl hp2
        refine ⟨d1, _, rfl, DPut.t (k := [Sum.inl a, Sum.inl l]) B3.pl q_H3 hbl1, ?_⟩
        have eP : putK (kvP bs) [Sum.inl a, Sum.inl l] (V.str t) = kvP (bs ++ [((t, a, l), 0)]) := by
          rw [putK_new _ (by rw [valP, e1]; rfl)]
          unfold kvP
          rw [List.map_append]
          rfl
        rw [eP]
        have m1 : KpE [d1, d2] H3 (upd H3 d1 (.dT (kvP (bs ++ [((t, a, l), 0)])))) := KpE.put B3.pl rfl List.mem_cons_self
        refine ⟨_, rfl, _, rfl, szl (by show 2 ≤ 100000; decide), fun u4 nu4 => ?_⟩
        have n41 : d1 ≠ u4 := ne_of_none upd_same nu4
        have n42 : d2 ≠ u4 := ne_of_none (by rw [upd_ne n12.symm]; exact B3.wd) nu4
        have n4p : p ≠ u4 := ne_of_none (by rw [upd_ne np1]; exact hp3) nu4
        have w4 : (upd (upd H3 d1 (.dT (kvP (bs ++ [((t, a, l), 0)])))) u4 (.tup [V.int a, V.int l])) d2 = some (.dK (kvW bs)) := by
          rw [upd_ne n42, upd_ne n12.symm]
          exact B3.wd
        refine ⟨_, rfl, p, _, dx, _, _, rfl, (by rw [upd_ne n4p, upd_ne np1]; exact hp3), T.cl_Phrasebook, T.n_Phrasebook_place_by_word, flds_place _ _, _, rfl, d2, _, rfl, DPut.k (k := Sum.inr t) w4 hbl2, ?_⟩
        have eW : putK (kvW bs) (Sum.inr t) (V.ref u4) = kvW (bs ++ [((t, a, l), u4)]) := by
          rw [putK_new _ (by rw [valW, e2]; rfl)]
          unfold kvW
          rw [List.map_append]
          rfl
        rw [eW]
        have eP2 : kvP (bs ++ [((t, a, l), 0)]) = kvP (bs ++ [((t, a, l), u4)]) := by
          unfold kvP
          rw [List.map_append, List.map_append]
          rfl
        refine k (by rw [v1]; rfl) u4 _ (((KpE.of ((k1.trans k_H2).trans k_H3)).trans m1).trans ((KpE.of (Kp.new nu4)).trans (KpE.put w4 rfl (List.mem_cons_of_mem _ List.mem_cons_self)))) ⟨⟨dx, ?_⟩, ?_, upd_same, fun e he => ?_⟩
        · rw [upd_ne np2, upd_ne n4p, upd_ne np1]
          exact hp3
        · rw [upd_ne n12, upd_ne n41, upd_same, eP2]
        · rcases List.mem_append.mp he with he | he
          · have q := B3.tu e he
            have x1 : e.2 ≠ d1 := ne_of q B3.pl (by intro z; cases z)
            have x2 : e.2 ≠ d2 := ne_of q B3.wd (by intro z; cases z)
            have x4 : e.2 ≠ u4 := ne_of_none (by rw [upd_ne x1]; exact q) nu4
            rw [upd_ne x2, upd_ne x4, upd_ne x1]
            exact q
          · rw [List.mem_singleton.mp he]
            rw [upd_ne n42.symm, upd_same]
theorem Kp.unlock {H H' : Hp} {d : Addr} {u : HO} {od : Obj} (hd : H d = some u) (nt : isT u = false) (k : Kp (upd H d (.frz od u)) H') : Kp H (upd H' d u) := by
  refine ⟨fun a o t q => ?_, fun a ⟨ps, q, tr⟩ => ?_, fun a q => ?_⟩
  · by_cases e : a = d
    · rw [e] at q ⊢
      rw [hd] at q
      rw [upd_same, Option.some.inj q]
    · rw [upd_ne e]
      exact k.same a o t (by rw [upd_ne e]; exact q)
  · have e : a ≠ d := fun z => by
      rw [z, hd] at q
      rw [Option.some.inj q] at nt
      cases nt
    obtain ⟨ps', h1, h2⟩ := k.tab a ⟨ps, by rw [upd_ne e]; exact q, tr⟩
    exact ⟨ps', by rw [upd_ne e]; exact h1, h2⟩
  · by_cases e : a = d
    · rw [e, upd_same] at q
      cases q
    · rw [upd_ne e] at q
      have z := k.free a q
      rw [upd_ne e] at z
      exact z
/-! ### Phrasebook.words: a sorted list of rows -/
def dTrip (b : Ent) : PyData := .tuple [.int b.1.2.1, .int b.1.2.2, .str b.1.1]
def wordsD (bs : List Ent) : List PyData := sortD (bs.map dTrip)
theorem kvP_at {bs : List Ent} {i : Nat} {k : List Key} {v : V} (h : (kvP bs)[i]? = some (k, v)) : ∃ e, bs[i]? = some e ∧ k = [Sum.inl e.1.2.1, Sum.inl e.1.2.2] ∧ v = V.str e.1.1 := by
  unfold kvP at h
  rw [List.getElem?_map] at h
  cases e : bs[i]? with
  | none =>
    rw [e] at h
    cases h
  | some b =>
    rw [e] at h
    have z := Option.some.inj h
    rw [Prod.mk.injEq] at z
    exact ⟨b, rfl, z.1.symm, z.2.symm⟩
theorem nl_trips {bs : List Ent} {b : Ent} : ∀ d ∈ bs.map dTrip ++ [b].map dTrip, Nl d := by
  intro d hd
  rw [← List.map_append] at hd
  obtain ⟨e, _, rfl⟩ := List.mem_map.mp hd
  exact .tup (by intro d hd; simp only [List.mem_cons, List.not_mem_nil, or_false] at hd; rcases hd with rfl | rfl | rfl <;> first | exact .str _ | exact .int _)
mutual
theorem Dp.putD {K : PySem.W.Frag} {H : Hp} {p : Addr} {o : HO} {od : Obj} {kvs : List (List Key × V)} (hp : H p = some (.frz od (.dT kvs))) : ∀ {d : PyData} {v : V}, Dp K H v d → Dp K (upd H p o) v d
  | _, _, .non => .non
  | _, _, .bl b => .bl b
  | _, _, .int i => .int i
  | _, _, .str x => .str x
  | _, _, .lst h a => by
    refine .lst ?_ (DpAll.putD hp a)
    rcases h with (h | ⟨ob, h⟩) | h
    · exact .inl (.inl (by rw [upd_ne (ne_of h hp (by intro z; cases z))]; exact h))
    · exact .inl (.inr ⟨ob, by rw [upd_ne (ne_of h hp (by intro z; cases z))]; exact h⟩)
    · exact .inr h
  | _, _, .tup h a => by
    refine .tup ?_ (DpAll.putD hp a)
    rcases h with (h | ⟨ob, h⟩) | h
    · exact .inl (.inl (by rw [upd_ne (ne_of h hp (by intro z; cases z))]; exact h))
    · exact .inl (.inr ⟨ob, by rw [upd_ne (ne_of h hp (by intro z; cases z))]; exact h⟩)
    · exact .inr h
theorem DpAll.putD {K : PySem.W.Frag} {H : Hp} {p : Addr} {o : HO} {od : Obj} {kvs : List (List Key × V)} (hp : H p = some (.frz od (.dT kvs))) : ∀ {ds : List PyData} {vs : List V}, DpAll K H vs ds → DpAll K (upd H p o) vs ds
  | _, _, .nil => .nil
  | _, _, .cons h t => .cons (Dp.putD hp h) (DpAll.putD hp t)
end
def sp_p_Phrasebook_words (K : PySem.W.Frag) (C : Addr) : Sp := fun vs H Q _ => ∃ (p d1 d2 : Addr) (bs : List Ent), vs = [.ref p] ∧ BookAt C H p d1 d2 bs ∧ bs.length ≤ 1000 ∧
  ∀ (r : Addr) (ys : List V) (H' : Hp), H r = none → Kp H H' → H' r = some (.lst ys) → DpAll K H' ys (wordsD bs) → Q (.ref r) H'
theorem ok_p_Phrasebook_words (T : Txt K mg) : FnOk P w K mg base CX0 2 T.f_p_Phrasebook_words T.d_p_Phrasebook_words ["self"] (sp_p_Phrasebook_words K T.a_Phrasebook) := by
  refine T.F_p_Phrasebook_words.ok sc_p_Phrasebook_words (fun vs H Q E h => ?_) (fun cdv A outer s H vs Q E hr h => ?_)
  · obtain ⟨p, d1, d2, bs, rfl, _⟩ := h
    rfl
  · obtain ⟨p, d1, d2, bs, rfl, hB, hbl, k⟩ := h
    have hu := hu_of hr
    refine ⟨_, (pss_one (ps_ret (pe_callB (cr_sortedD (hu65 hr)) (by rfl) T.m_sorted PyProof.Rows.boot_sorted (pa_cons (pe_lock (pe_lc (own := [("word", 1), ("page", 2), ("line", 3)]) (tt := tYes) (by rfl) sc_p_Phrasebook_words.nd (pi_pairs (pe_fld (pv 0) rfl)) (blkOk_by (own := [("word", 1), ("page", 2), ("line", 3)]) (N := ["self", "word", "page", "line"]) (sc := defScope s_p_Phrasebook_words) (by decide +kernel)) (fun _ _ _ _ _ => (pgK K rfl (pg_tup (n := 2) rfl (pgs_cons (pgK K rfl (pg_tup (n := 2) rfl (pgs_cons (pg_name (i := 2) sc_p_Phrasebook_words.nd rfl (by first | exact Or.inl rfl | exact Or.inr rfl)) (pgs_cons (pg_name (i := 3) sc_p_Phrasebook_words.nd rfl (by first | exact Or.inl rfl | exact Or.inr rfl)) pgs_nil)))) (pgs_cons (pg_name (i := 1) sc_p_Phrasebook_words.nd rfl (by first | exact Or.inl rfl | exact Or.inr rfl)) pgs_nil))))) (fun _ _ _ _ _ => pts_nil) (fun _ _ _ _ _ => (pe_tup (pa_cons (pv 2) (pa_cons (pv 3) (pa_cons (pv 1) pa_nil))))))) pa_nil)))), ?_⟩
    obtain ⟨dx, hp⟩ := hB.ob
    obtain ⟨np1, np2, n12⟩ := hB.ne
    refine ⟨d1, _, hB.pl, trivial, fun od => ?_⟩
    refine ⟨_, rfl, p, _, dx, _, _, rfl, (by rw [upd_ne np1]; exact hp), T.cl_Phrasebook, T.n_Phrasebook_word_by_place, flds_word _ _, d1, od, kvP bs, rfl, upd_same, fun D hD => ?_⟩
    refine lc_it (walk_pairs (d := d1) (o := od) (kvs := kvP bs)) (fun i H' => Kp (upd H d1 (.frz od (.dT (kvP bs)))) H' ∧ ∃ rs : List V, H' D = some (.lst rs) ∧ DpAll K H' rs ((bs.take i).map dTrip)) ⟨Kp.new hD, [], upd_same, .nil⟩ (fun i H' _ ⟨kk, _⟩ => kk.same _ _ rfl upd_same) (fun i x H7 H8 hi ⟨kk, rs, hrs, hd⟩ ⟨t, q, ky, v, hkv, hx, nt, hq, e8⟩ => ?_) (fun H7 ⟨kk, rs, hrs, hd⟩ => ?_)
    · subst e8
      subst hx
      obtain ⟨b, hb, rfl, rfl⟩ := kvP_at hkv
      generalize h_H9 : upd H7 t _ = H9
      have k_H9 : Kp H7 H9 := by rw [← h_H9]; exact .new nt
      have q_H9 := (congrFun h_H9 t).symm.trans upd_same
      clear h_H9
      have hq9 : H9 q = some (.tup [.int b.1.2.1, .int b.1.2.2]) := k_H9.same _ _ rfl hq
      have hil : i < bs.length := (List.getElem?_eq_some_iff.mp hb).1
      refine ⟨t, _, rfl, .inl (.inl q_H9), rfl, _, _, rfl, q, _, rfl, .inl (.inl hq9), rfl, _, _, rfl, _, _, rfl, rfl, _, _, rfl, rfl, rfl, ?_⟩
      refine ⟨_, rfl, _, rfl, _, rfl, szl (by show 3 ≤ 100000; decide), fun u nu => ?_⟩
      generalize h_Ha : upd H9 u _ = Ha
      have k_Ha : Kp H9 Ha := by rw [← h_Ha]; exact .new nu
      have q_Ha := (congrFun h_Ha u).symm.trans upd_same
      clear h_Ha
      have hra := k_Ha.same _ _ rfl (k_H9.same _ _ rfl hrs)
      have hl := DpAll.len hd
      rw [List.length_map, List.length_take] at hl
      refine ⟨rs, hra, szt (by omega), ((kk.trans k_H9).trans k_Ha).mut hD, _, upd_same, ?_⟩
      rw [take_snoc hb, List.map_append]
      refine DpAll.mut hra nl_trips (DpAll.snoc (k_Ha.dpAll (k_H9.dpAll hd)) (.tup (.inl (.inl q_Ha)) (.cons (.int _) (.cons (.int _) (.cons (.str _) .nil)))))
    · have ekl : (kvP bs).length = bs.length := by unfold kvP; rw [List.length_map]
      rw [ekl, List.take_length] at hd
      have hf := kk.same _ _ rfl (upd_same (H := H) (a := d1) (o := .frz od (.dT (kvP bs))))
      refine ⟨hf, ?_⟩
      have ku := Kp.unlock hB.pl rfl kk
      have nD : D ≠ d1 := fun z => by
        rw [z, upd_same] at hD
        cases hD
      have hDD : H D = none := by
        rw [upd_ne nD] at hD
        exact hD
      have h9 : upd H7 d1 (.dT (kvP bs)) D = some (.lst rs) := by
        rw [upd_ne nD]
        exact hrs
      have hd9 := DpAll.putD (o := .dT (kvP bs)) hf hd
      generalize upd H7 d1 (.dT (kvP bs)) = H9 at ku h9 hd9 ⊢
      refine ⟨D, rs, bs.map dTrip, rfl, .inl (.inl h9), hd9, PySem.W.AllAlike.of fun _ _ => rfl, PySem.W.Sortable.tuples fun _ => ⟨_, _, rfl⟩, ?_, fun ys r hy nr => k r ys _ (ku.free _ nr) (ku.trans (.new nr)) upd_same ((Kp.new nr).dpAll hy)⟩
      intro d hd
      obtain ⟨b, _, rfl⟩ := List.mem_map.mp hd
      show 1 ≤ 60
      decide
/-! ### letter_of and sign_of -/
def abc : Str := "abcdefghijklmnopqrstuvwxyz"
theorem abc_len : abc.length = 26 := by decide +kernel
theorem abc_at {j : Nat} (h : j < 26) : atI abc.cps.toList (j : Int) = some (97 + j) := by
  have e : abc.cps.toList = (List.range 26).map (97 + ·) := by decide +kernel
  rw [e]
  exact atI_nat (by rw [List.getElem?_map, List.getElem?_range h]; rfl)
theorem abc_ix : ∀ j, j < 26 → ∃ rest, Builtin.Str.occurrences abc ⟨#[97 + j]⟩ 0 abc.length 1 = j :: rest := by
  have h : ∀ j : Fin 26, (Builtin.Str.occurrences abc ⟨#[97 + j.val]⟩ 0 abc.length 1) = [j.val] := by decide +kernel
  exact fun j hj => ⟨[], h ⟨j, hj⟩⟩
def sp_p_letter_of : Sp := fun vs H Q _ => ∃ j : Nat, vs = [.int (41 + (j : Int))] ∧ j < 26 ∧ Q (.str ⟨#[97 + j]⟩) H
theorem ok_p_letter_of (T : Txt K mg) : FnOk P w K mg base CX0 1 T.f_p_letter_of T.d_p_letter_of ["sign"] sp_p_letter_of := by
  refine T.F_p_letter_of.ok sc_p_letter_of (fun vs H Q E h => ?_) (fun cdv A outer s H vs Q E hr h => ?_)
  · obtain ⟨j, rfl, _⟩ := h
    rfl
  · obtain ⟨j, rfl, hj, k⟩ := h
    refine ⟨_, (pss_one (ps_ret (pe_ix ix_str (pe_glob rfl T.c_LETTERS T.r_LETTERS) (pe_op op_sub (pv 0) (pe_glob rfl T.c_FIRST_LETTER T.r_FIRST_LETTER)) (fun _ _ => rfl)))), ?_⟩
    have e : (41 + (j : Int)) - 41 = (j : Int) := by omega
    exact ⟨_, rfl, _, _, rfl, rfl, abc, _, 97 + j, rfl, rfl, by rw [abc_len]; decide, by rw [e]; exact abc_at hj, k⟩
/-! ### is_sign and kind_of -/
def kindV (n : Int) : Str := if n ≤ 40 then "page" else if n ≤ 66 then "letter" else if n = 67 then "end" else if n = 68 then "strike" else "spare"
def isSg (n : Int) : Bool := decide (1 ≤ n) && decide (n ≤ 94)
def sp_p_is_sign : Sp := fun vs H Q _ => ∃ n : Int, vs = [.int n] ∧ Q (.bl (isSg n)) H
theorem ok_p_is_sign (T : Txt K mg) : FnOk P w K mg base CX0 1 T.f_p_is_sign T.d_p_is_sign ["number"] sp_p_is_sign := by
  refine T.F_p_is_sign.ok sc_p_is_sign (fun vs H Q E h => ?_) (fun cdv A outer s H vs Q E hr h => ?_)
  · obtain ⟨n, rfl, _⟩ := h
    rfl
  · obtain ⟨n, rfl, k⟩ := h
    refine ⟨_, (pss_one (ps_ret (pe_chain op_le op_le pe_int (pv 0) (pe_glob rfl T.c_LAST_SIGN T.r_LAST_SIGN)))), ?_⟩
    refine ⟨_, rfl, _, _, rfl, rfl, _, rfl, ?_⟩
    unfold isSg at k
    by_cases c : 1 ≤ n
    · rw [decide_eq_true c] at k
      refine iteTo (decide_eq_true c) ⟨_, _, rfl, rfl, k⟩
    · rw [decide_eq_false c] at k
      exact iteFo (decide_eq_false c) k
def sp_p_check_signs (K : PySem.W.Frag) (C Pt : Addr) : Sp := fun vs H Q E => ∃ (a : Addr) (ns : List Int), vs = [.ref a] ∧ SqL K H a (ns.map V.int) ∧ GxR.TabG H Pt ∧ (ns.all isSg = true → ∀ H', Kp H H' → Q .non H') ∧ (ns.all isSg = false → ∀ H', Kp H H' → E (.ref C) none H')
theorem ok_p_check_signs (T : Txt K mg) (TBS : GxR.TabB base mg T.c_tabS T.P_tabS) : FnOk P w K mg base (L2.CX P w) 3 T.f_p_check_signs T.d_p_check_signs ["numbers"] (sp_p_check_signs K T.a_BadSign T.P_tabS) := by
  obtain ⟨tl, hu⟩ : ∃ tl, T.u_LAST_SIGN = Value.int 94 tl := T.r_LAST_SIGN
  have hL : mg "LAST_SIGN" = some (.int 94 tl) := T.c_LAST_SIGN.trans (congrArg some hu)
  refine T.W_p_check_signs.okX sc_p_check_signs (fun vs H Q E h => ?_) (fun A outer s H vs Q E hr h => ?_)
  · obtain ⟨a, ns, rfl, _⟩ := h
    rfl
  · obtain ⟨a, ns, rfl, hS, tg, k, kE⟩ := h
    have hD : (cxOf (L2.CX P w) P w K mg base ["numbers", "number"] "check_signs" (defScope s_p_check_signs) T.f_p_check_signs (.ref T.c_tabS) A outer s H E).A.depth + 1 < recursionLimit := by
      have := hr.dp
      show (A.deeper _).depth + 1 < recursionLimit
      omega
    refine ⟨_, (pss_one (ps_if (pt_not (pt_val (pe_allD hr (by rfl) T.m_all (by decide +kernel) TBS rfl ⟨rfl, rfl, noCell (by decide +kernel), rfl, rfl, noFree (by decide +kernel)⟩ (pv 0) (elt_call T.F_p_is_sign T.g_p_is_sign T.b_p_is_sign sc_p_is_sign (noCell (by decide +kernel)) rfl (elt_chain rfl rfl rfl hL) rfl rfl rfl rfl hD) (fun _ => rfl))))
      (pss_one (ps_raise rfl (takes_of rfl rfl rfl rfl) (pmk_own PySem.F.excBase_ValueError T.x_BadSign T.g_BadSign T.k_BadSign (raises_own T.b_BadSign T.t_BadSign) rfl)))
      pss_nil)), ?_⟩
    refine ⟨_, rfl, a, ns, rfl, hS, tg, fun H2 tb => ?_⟩
    have k2 := kp_tabbed tg tb
    refine ⟨_, rfl, iteB (fun c => ?_) (fun c => ?_)⟩
    · exact kE (by simpa [isSg] using c) _ k2
    · exact k (by simpa [isSg] using c) _ k2
def sp_p_kind_of (C Pt : Addr) : Sp := fun vs H Q E => ∃ n : Int, vs = [.int n] ∧ GxR.TabG H Pt ∧ (isSg n = true → ∀ H', Kp H H' → Q (.str (kindV n)) H') ∧ (isSg n = false → ∀ H', Kp H H' → E (.ref C) none H')
theorem ok_p_kind_of (T : Txt K mg) (TBS : GxR.TabB base mg T.c_tabS T.P_tabS) : FnOk P w K mg base (L2.CX P w) 4 T.f_p_kind_of T.d_p_kind_of ["sign"] (sp_p_kind_of T.a_BadSign T.P_tabS) := by
  refine T.F_p_kind_of.okX sc_p_kind_of (fun vs H Q E h => ?_) (fun cdv A outer s H vs Q E hr h => ?_)
  · obtain ⟨n, rfl, _⟩ := h
    rfl
  · obtain ⟨n, rfl, tg, k, kE⟩ := h
    refine ⟨_, (pss_cons (ps_expr (pe_call (ok_p_check_signs T TBS) (hr.mono (by decide)) rfl T.g_p_check_signs T.F_p_check_signs.kp T.b_p_check_signs .nil (passes_call (takes_of rfl rfl rfl rfl) (fun _ _ _ _ z => z)) (pa_cons (pe_lst (pa_cons (pv 0) pa_nil)) pa_nil)))
      (pss_cons (ps_if (pt_cmpR op_le (pv 0) (pe_glob rfl T.c_LAST_PAGE T.r_LAST_PAGE) (nomark _))
      (pss_one (ps_ret pe_str))
      pss_nil)
      (pss_cons (ps_if (pt_cmpR op_le (pv 0) (pe_glob rfl T.c_LAST_LETTER T.r_LAST_LETTER) (nomark _))
      (pss_one (ps_ret pe_str))
      pss_nil)
      (pss_cons (ps_if (pt_cmpR op_eq (pv 0) (pe_glob rfl T.c_END T.r_END) (nomark _))
      (pss_one (ps_ret pe_str))
      pss_nil)
      (pss_cons (ps_if (pt_cmpR op_eq (pv 0) (pe_glob rfl T.c_STRIKE T.r_STRIKE) (nomark _))
      (pss_one (ps_ret pe_str))
      pss_nil)
      (pss_one (ps_ret pe_str))))))), ?_⟩
    refine ⟨_, rfl, szl (by show 1 ≤ 100000; decide), fun p np => ?_⟩
    generalize h_H1 : upd H p _ = H1
    have k_H1 : Kp H H1 := by rw [← h_H1]; exact .new np
    have q_H1 := (congrFun h_H1 p).symm.trans upd_same
    clear h_H1
    refine ⟨p, [n], rfl, .inl (.inl q_H1), k_H1.tab _ tg, fun c H2 k2 => ?_, fun c H2 k2 => kE (by simpa using c) _ (k_H1.trans k2)⟩
    · have k := k (by simpa using c) _ (k_H1.trans k2)
      unfold kindV at k
      refine ⟨_, rfl, _, _, rfl, rfl, _, rfl, iteD (fun c => ?_) (fun c => ?_)⟩
      · rw [if_pos c] at k
        exact k
      rw [if_neg c] at k
      refine ⟨_, rfl, _, _, rfl, rfl, _, rfl, iteD (fun c => ?_) (fun c => ?_)⟩
      · rw [if_pos c] at k
        exact k
      rw [if_neg c] at k
      refine ⟨_, rfl, rfl, _, rfl, iteD (fun c => ?_) (fun c => ?_)⟩
      · rw [if_pos (V.int.inj c)] at k
        exact k
      rw [if_neg (fun z => c (by rw [z]))] at k
      refine ⟨_, rfl, rfl, _, rfl, iteD (fun c => ?_) (fun c => ?_)⟩
      · rw [if_pos (V.int.inj c)] at k
        exact k
      rw [if_neg (fun z => c (by rw [z]))] at k
      exact k
/-! ### the signs that no strike took away -/
def strikeGo : List Int → Nat → List (Int × Nat) → Sum Nat (List (Int × Nat))
  | [], _, acc => .inr acc
  | x :: r, i, acc => if x = 68 then (if acc = [] then .inl i else strikeGo r (i + 1) acc.dropLast) else strikeGo r (i + 1) (acc ++ [(x, i)])
def strikes (xs : List Int) : Sum Nat (List (Int × Nat)) := strikeGo xs 0 []
def dPair (p : Int × Nat) : PyData := .tuple [.int p.1, .int (p.2 : Int)]
def dRes : Sum Nat (List (Int × Nat)) → PyData
  | .inl i => .tuple [.str "bad", .int (i : Int)]
  | .inr ps => .list (ps.map dPair)
theorem nl_pairs {ps : List (Int × Nat)} : ∀ d ∈ ps.map dPair, Nl d := by
  intro d hd
  obtain ⟨p, _, rfl⟩ := List.mem_map.mp hd
  exact .tup (by intro d hd; simp only [List.mem_cons, List.not_mem_nil, or_false] at hd; rcases hd with rfl | rfl <;> exact .int _)
theorem strikeGo_len : ∀ (xs : List Int) (i : Nat) (acc ps : List (Int × Nat)), strikeGo xs i acc = .inr ps → ps.length ≤ acc.length + xs.length
  | [], i, acc, ps, h => by
    have e := Sum.inr.inj h
    subst e
    exact Nat.le_refl _
  | x :: r, i, acc, ps, h => by
    unfold strikeGo at h
    rw [List.length_cons]
    by_cases c : x = 68
    · rw [if_pos c] at h
      by_cases c2 : acc = []
      · rw [if_pos c2] at h
        cases h
      · rw [if_neg c2] at h
        have z := strikeGo_len r _ _ _ h
        rw [List.length_dropLast] at z
        omega
    · rw [if_neg c] at h
      have z := strikeGo_len r _ _ _ h
      rw [List.length_append, List.length_singleton] at z
      omega
theorem drop_at {xs : List Int} {i : Nat} {z : Int} (h : xs[i]? = some z) : xs.drop i = z :: xs.drop (i + 1) := by
  obtain ⟨hi, e⟩ := List.getElem?_eq_some_iff.mp h
  rw [List.drop_eq_getElem_cons hi, e]
theorem go_strike {xs : List Int} {i : Nat} {acc : List (Int × Nat)} (h : xs[i]? = some 68) (hn : acc ≠ []) : strikeGo (xs.drop i) i acc = strikeGo (xs.drop (i + 1)) (i + 1) acc.dropLast := by
  rw [drop_at h]
  show (if (68 : Int) = 68 then (if acc = [] then _ else _) else _) = _
  rw [if_pos rfl, if_neg hn]
theorem go_bad {xs : List Int} {i : Nat} (h : xs[i]? = some 68) : strikeGo (xs.drop i) i [] = .inl i := by
  rw [drop_at h]
  show (if (68 : Int) = 68 then (if ([] : List (Int × Nat)) = [] then _ else _) else _) = _
  rw [if_pos rfl, if_pos rfl]
theorem go_sign {xs : List Int} {i : Nat} {z : Int} {acc : List (Int × Nat)} (h : xs[i]? = some z) (hn : z ≠ 68) : strikeGo (xs.drop i) i acc = strikeGo (xs.drop (i + 1)) (i + 1) (acc ++ [(z, i)]) := by
  rw [drop_at h]
  show (if z = 68 then _ else _) = _
  rw [if_neg hn]
theorem go_end {xs : List Int} {acc : List (Int × Nat)} : strikeGo (xs.drop xs.length) xs.length acc = .inr acc := by
  rw [List.drop_length]
  rfl
/-! ### BadSigns, made with a place -/
def sp_p_BadSigns_init (C : Addr) : Sp := fun vs H Q _ => ∃ (a : Addr) (v : V), vs = [.ref a, v] ∧ H a = some (exo a C none) ∧ ∀ dx, H dx = none → dx ≠ a → Q .non (upd (upd H dx (exd dx [("at", v)])) a (exo a C (some dx)))
theorem ok_p_BadSigns_init (T : Txt K mg) : FnOk P w K mg base CX0 1 T.f_p_BadSigns_init T.d_p_BadSigns_init ["self", "at"] (sp_p_BadSigns_init T.a_BadSigns) := by
  refine T.F_p_BadSigns_init.ok sc_p_BadSigns_init (fun vs H Q E h => ?_) (fun cdv A outer s H vs Q E hr h => ?_)
  · obtain ⟨a, v, rfl, _⟩ := h
    rfl
  · obtain ⟨a, v, rfl, ha, k⟩ := h
    refine ⟨_, (pss_one (ps_ost (pv 0) (pv 1))), ?_⟩
    exact ⟨_, rfl, _, rfl, a, _, rfl, T.ox_BadSigns, T.nf_BadSigns_at, .inl ⟨ha, fun dx h1 h2 => k dx h1 h2⟩⟩
theorem kp_raised {H : Hp} {a d C : Addr} {fs : List (Str × V)} (ha : H a = none) (hd : H d = none) (ne : d ≠ a) : Kp H (upd (del (upd (upd (upd H a (exo a C none)) d (exd d fs)) a (exo a C (some d))) a) d (.xd fs)) := by
  have e : ∀ b, b ≠ a → b ≠ d → (upd (del (upd (upd (upd H a (exo a C none)) d (exd d fs)) a (exo a C (some d))) a) d (.xd fs)) b = H b := fun b h1 h2 => by
    rw [upd_ne h2, del_ne h1, upd_ne h1, upd_ne h2, upd_ne h1]
  refine ⟨fun b o _ hb => ?_, fun b ⟨ps, hb, ht⟩ => ?_, fun b hb => ?_⟩
  · rw [e b (ne_of_none hb ha) (ne_of_none hb hd)]
    exact hb
  · exact ⟨ps, by rw [e b (ne_of_none hb ha) (ne_of_none hb hd)]; exact hb, ht⟩
  · by_cases h1 : b = a
    · rw [h1]
      exact ha
    · by_cases h2 : b = d
      · rw [h2]
        exact hd
      · rw [e b h1 h2] at hb
        exact hb
/-! ### standing -/
def sp_p_standing (K : PySem.W.Frag) (C : Addr) : Sp := fun vs H Q E => ∃ (a : Addr) (xs : List Int), vs = [.ref a] ∧ SqL K H a (xs.map V.int) ∧ xs.length ≤ 1000 ∧
  (∀ ps, strikes xs = .inr ps → ∀ (p : Addr) (ws : List V) (H' : Hp), H p = none → Kp H H' → H' p = some (.lst ws) → DpAll K H' ws (ps.map dPair) → Q (.ref p) H') ∧
  (∀ i, strikes xs = .inl i → ∀ (d : Addr) (H' : Hp), H d = none → Kp H H' → H' d = some (.xd [("at", .int (i : Int))]) → E (.ref C) (some d) H')
theorem ok_p_standing (T : Txt K mg) : FnOk P w K mg base (L2.CX P w) 4 T.f_p_standing T.d_p_standing ["signs"] (sp_p_standing K T.a_BadSigns) := by
  refine T.F_p_standing.okX sc_p_standing (fun vs H Q E h => ?_) (fun cdv A outer s H vs Q E hr h => ?_)
  · obtain ⟨a, xs, rfl, _⟩ := h
    rfl
  · obtain ⟨a, xs, rfl, hS, hlen, k, kE⟩ := h
    refine ⟨_, (pss_cons (ps_set (i := 1) sc_p_standing.nd rfl (by first | exact Or.inl rfl | exact Or.inr rfl) (pe_lst pa_nil))
      (pss_cons (ps_for (passes_of rfl) rfl (pi_enum (by rfl) T.m_enumerate (pa_cons (pv 0) pa_nil)) (pg_tup (n := 2) rfl (pgs_cons (pg_name (i := 2) sc_p_standing.nd rfl (by first | exact Or.inl rfl | exact Or.inr rfl)) (pgs_cons (pg_name (i := 3) sc_p_standing.nd rfl (by first | exact Or.inl rfl | exact Or.inr rfl)) pgs_nil)))
      (pss_one (ps_if (pt_cmpR op_ne (pv 3) (pe_glob rfl T.c_STRIKE T.r_STRIKE) (nomark _))
      (pss_one (ps_expr (pe_bm PySem.F.plainAttrs_list PySem.F.slot_list_append PySem.F.type_list_append mt_append (pv 1) (pa_cons (pe_tup (pa_cons (pv 3) (pa_cons (pv 2) pa_nil))) pa_nil))))
      (pss_one (ps_if (pt_truth (pv 1) (by intro _; rfl))
      (pss_one (ps_expr (pe_bm0 PySem.F.plainAttrs_list PySem.F.slot_list_pop PySem.F.type_list_pop mt_pop (pv 1))))
      (pss_one (ps_raise rfl (takes_of rfl rfl rfl rfl) (pmk_oex T.ox_BadSigns T.ic_BadSigns T.ti_BadSigns (ok_p_BadSigns_init T) (hr.mono (by decide)) T.b_p_BadSigns_init .nil pass0 rfl T.g_BadSigns (pa_cons (pv 2) pa_nil)))))))))
      (pss_one (ps_ret (pv 1))))), ?_⟩
    refine ⟨Nat.zero_le _, fun p np => ?_⟩
    generalize h_H1 : upd H p _ = H1
    have k_H1 : Kp H H1 := by rw [← h_H1]; exact .new np
    have q_H1 := (congrFun h_H1 p).symm.trans upd_same
    clear h_H1
    refine ⟨_, rfl, a, _, rfl, k_H1.sqL hS, for_it (walk_enum (K := K) (a := a) (xs := xs.map V.int)) (fun i σ H' => ∃ (acc : List (Int × Nat)) (ws : List V) (y y2 : Option V), σ = [some (.ref a), some (.ref p), y, y2] ∧ Kp H H' ∧ H' p = some (.lst ws) ∧ DpAll K H' ws (acc.map dPair) ∧ acc.length ≤ i ∧ strikeGo (xs.drop i) i acc = strikes xs)
      ⟨[], [], none, none, rfl, k_H1, q_H1, .nil, Nat.le_refl _, rfl⟩ (fun i σ H' _ ⟨_, _, _, _, _, kp, _⟩ => kp.sqL hS) ?_ ?_⟩
    · rintro i x σ H' H'' hi ⟨acc, ws, y, y2, rfl, kp, hp, hw, ha, hg⟩ ⟨t, i', v, rfl, nt, rfl, ei, ev⟩
      obtain ⟨z, _, rfl, hz⟩ := mem_ints ev
      cases Option.some.inj ei
      generalize h_H2 : upd H' t _ = H2
      have k_H2 : Kp H' H2 := by rw [← h_H2]; exact .new nt
      have q_H2 := (congrFun h_H2 t).symm.trans upd_same
      clear h_H2
      have hp2 := k_H2.same _ _ rfl hp
      have kp2 := kp.trans k_H2
      have hw2 := k_H2.dpAll hw
      refine ⟨t, _, rfl, .inl (.inl q_H2), rfl, _, _, rfl, _, _, rfl, rfl, ?_⟩
      refine ⟨_, rfl, rfl, _, rfl, iteN (fun c => ?_) (fun c => ?_)⟩
      · have c : z ≠ 68 := fun e => c (by rw [e])
        refine ⟨_, rfl, .inl ⟨rfl, _, SqL.of hp2⟩, _, rfl, _, rfl, szl (by show 2 ≤ 100000; decide), fun u nu => ?_⟩
        generalize h_H3 : upd H2 u _ = H3
        have k_H3 : Kp H2 H3 := by rw [← h_H3]; exact .new nu
        have q_H3 := (congrFun h_H3 u).symm.trans upd_same
        clear h_H3
        have hp3 := k_H3.same _ _ rfl hp2
        refine ⟨p, _, _, rfl, rfl, hp3, szt (by have := DpAll.len hw; rw [List.length_map] at this; rw [List.length_map] at hi; omega), ?_⟩
        refine ⟨acc ++ [(z, i)], _, _, _, rfl, (kp2.trans k_H3).mut np, upd_same, ?_, by rw [List.length_append]; show acc.length + 1 ≤ i + 1; omega, by rw [← hg, go_sign hz c]⟩
        rw [List.map_append]
        refine DpAll.mut hp3 ?_ (DpAll.snoc (k_H3.dpAll hw2) (.tup (.inl (.inl q_H3)) (.cons (.int _) (.cons (.int _) .nil))))
        intro d hd
        rw [← List.map_append] at hd
        exact nl_pairs d hd
      · have c : z = 68 := V.int.inj c
        subst c
        by_cases hn : acc = []
        · subst hn
          cases hw2
          refine ⟨_, rfl, false, .inl ⟨[], SqL.of hp2, rfl⟩, iteFo rfl ?_⟩
          have he : strikes xs = .inl i := by rw [← hg, go_bad hz]
          refine ⟨_, rfl, by show 1 ≤ 1000; decide, fun e ne => ⟨e, _, rfl, upd_same, fun dx hdx hne => ⟨rfl, dx, [("at", .int (i : Int))], upd_same, ?_, ?_, ?_⟩⟩⟩
          · rw [upd_ne hne, upd_same]
          · rw [upd_ne hne] at hdx
            exact hdx
          · rw [upd_ne hne] at hdx
            exact kE i he dx _ (kp2.free _ hdx) (kp2.trans (kp_raised ne hdx hne)) upd_same
        · have hl := DpAll.len hw2
          rw [List.length_map] at hl
          have hpos : 0 < acc.length := List.length_pos_iff.mpr hn
          refine ⟨_, rfl, true, .inl ⟨ws, SqL.of hp2, ?_⟩, iteTo rfl ?_⟩
          · cases ws with
            | nil => simp at hl; omega
            | cons _ _ => rfl
          · obtain ⟨y9, hy9⟩ : ∃ y9, ws[ws.length - 1]? = some y9 := ⟨_, List.getElem?_eq_getElem (by omega)⟩
            refine ⟨_, rfl, .inl ⟨rfl, _, SqL.of hp2⟩, p, ws, y9, rfl, rfl, hp2, hy9, ?_⟩
            refine ⟨acc.dropLast, _, _, _, rfl, kp2.mut np, upd_same, ?_, by rw [List.length_dropLast]; omega, by rw [← hg, go_strike hz hn]⟩
            have q := DpAll.dropLast hw2
            rw [← List.map_dropLast] at q
            exact DpAll.mut hp2 nl_pairs q
    · rintro σ H' ⟨acc, ws, y, y2, rfl, kp, hp, hw, ha, hg⟩
      rw [List.length_map, go_end] at hg
      exact ⟨_, rfl, k acc hg.symm p ws H' np kp hp hw⟩
/-! ### words_of: the rows, a placed word, a spelled word -/
def dRow (p : Int × Nat) : PyData := .tuple [.str (kindV p.1), .int p.1, .int (p.2 : Int)]
def dEnd (n : Nat) : PyData := .tuple [.str "past the end", .int 0, .int (n : Int)]
def rowsD (ps : List (Int × Nat)) (n : Nat) : List PyData := ps.map dRow ++ [dEnd n]
theorem strike_in : ∀ (xs : List Int) (i : Nat) (acc ps : List (Int × Nat)), strikeGo xs i acc = .inr ps → ∀ p ∈ ps, p ∈ acc ∨ (p.1 ∈ xs ∧ p.1 ≠ 68)
  | [], i, acc, ps, h, p, hp => by
    have e := Sum.inr.inj h
    subst e
    exact .inl hp
  | x :: r, i, acc, ps, h, p, hp => by
    unfold strikeGo at h
    by_cases c : x = 68
    · rw [if_pos c] at h
      by_cases c2 : acc = []
      · rw [if_pos c2] at h
        cases h
      · rw [if_neg c2] at h
        rcases strike_in r _ _ _ h p hp with q | q
        · exact .inl (List.dropLast_subset _ q)
        · exact .inr ⟨List.mem_cons_of_mem _ q.1, q.2⟩
    · rw [if_neg c] at h
      rcases strike_in r _ _ _ h p hp with q | q
      · rcases List.mem_append.mp q with q | q
        · exact .inl q
        · rw [List.mem_singleton.mp q]
          exact .inr ⟨List.mem_cons_self, c⟩
      · exact .inr ⟨List.mem_cons_of_mem _ q.1, q.2⟩
theorem isSg_of {n : Int} (h1 : 1 ≤ n) (h2 : n ≤ 94) : isSg n = true := by
  unfold isSg
  rw [decide_eq_true h1, decide_eq_true h2]
  rfl
def Sgs (ps : List (Int × Nat)) : Prop := ∀ p ∈ ps, 1 ≤ p.1 ∧ p.1 ≤ 94
def sp_p_rows_of (K : PySem.W.Frag) (C Pt : Addr) : Sp := fun vs H Q E => ∃ (a : Addr) (xs : List Int), vs = [.ref a] ∧ SqL K H a (xs.map V.int) ∧ xs.length ≤ 1000 ∧ (∀ x ∈ xs, 1 ≤ x ∧ x ≤ 94) ∧ GxR.TabG H Pt ∧
  (∀ ps, strikes xs = .inr ps → ∀ (p : Addr) (ws : List V) (H' : Hp), H p = none → Kp H H' → H' p = some (.lst ws) → DpAll K H' ws (rowsD ps xs.length) → Q (.ref p) H') ∧
  (∀ i, strikes xs = .inl i → ∀ (d : Addr) (H' : Hp), H d = none → Kp H H' → H' d = some (.xd [("at", .int (i : Int))]) → E (.ref C) (some d) H')
theorem nl_row (p : Int × Nat) : Nl (dRow p) := .tup (by intro d hd; simp only [List.mem_cons, List.not_mem_nil, or_false] at hd; rcases hd with rfl | rfl | rfl <;> first | exact .str _ | exact .int _)
theorem nl_rows {ps : List (Int × Nat)} : ∀ d ∈ ps.map dRow, Nl d := by
  intro d hd
  obtain ⟨p, _, rfl⟩ := List.mem_map.mp hd
  exact nl_row p
theorem ok_p_rows_of (T : Txt K mg) (TBS : GxR.TabB base mg T.c_tabS T.P_tabS) : FnOk P w K mg base (L2.CX P w) 6 T.f_p_rows_of T.d_p_rows_of ["signs"] (sp_p_rows_of K T.a_BadSigns T.P_tabS) := by
  refine T.F_p_rows_of.okX sc_p_rows_of (fun vs H Q E h => ?_) (fun cdv A outer s H vs Q E hr h => ?_)
  · obtain ⟨a, xs, rfl, _⟩ := h
    rfl
  · obtain ⟨a, xs, rfl, hS, hl, hb, tg, k, kE⟩ := h
    refine ⟨_, (pss_cons (ps_setLc (i := 1) (own := [("sign", 2), ("place", 3)]) (tt := tYes) (by rfl) sc_p_rows_of.nd rfl rfl (sw_true rfl rfl rfl (by decide +kernel)) (pi_list (pe_call (ok_p_standing T) (hr.mono (by decide)) rfl T.g_p_standing T.F_p_standing.kp T.b_p_standing .nil (passes_call (takes_of rfl rfl rfl rfl) (fun _ _ _ _ z => z)) (pa_cons (pv 0) pa_nil))) (blkOk_by (own := [("sign", 2), ("place", 3)]) (N := ["signs", "rows", "sign", "place"]) (sc := defScope s_p_rows_of) (by decide +kernel)) (fun _ _ _ _ _ => (pgK K rfl (pg_tup (n := 2) rfl (pgs_cons (pg_name (i := 2) sc_p_rows_of.nd rfl (by first | exact Or.inl rfl | exact Or.inr rfl)) (pgs_cons (pg_name (i := 3) sc_p_rows_of.nd rfl (by first | exact Or.inl rfl | exact Or.inr rfl)) pgs_nil))))) (fun _ _ _ _ _ => pts_nil) (fun _ _ _ _ _ => (pe_tup (pa_cons (pe_call (ok_p_kind_of T TBS) (hr.mono (by decide)) rfl T.g_p_kind_of T.F_p_kind_of.kp T.b_p_kind_of .nil passL (pa_cons (pv 2) pa_nil)) (pa_cons (pv 2) (pa_cons (pv 3) pa_nil))))))
      (pss_cons (ps_expr (pe_bm PySem.F.plainAttrs_list PySem.F.slot_list_append PySem.F.type_list_append mt_append (pv 1) (pa_cons (pe_tup (pa_cons (pe_glob rfl T.c_PAST_THE_END T.r_PAST_THE_END) (pa_cons pe_int (pa_cons (pe_callB call_len_seq (by rfl) T.m_len PySem.boot_len (pa_cons (pv 0) pa_nil)) pa_nil)))) pa_nil)))
      (pss_one (ps_ret (pv 1))))), ?_⟩
    refine ⟨_, rfl, a, xs, rfl, hS, hl, fun ps he p ws H1 np k1 hp hw => ?_, fun i he d H1 nd k1 hd => kE i he d H1 nd k1 hd⟩
    have hpl : ps.length ≤ 1000 := by
      have z := strikeGo_len xs 0 [] ps he
      simp only [List.length_nil] at z
      omega
    have hsg : Sgs ps := fun q hq => by
      rcases strike_in xs 0 [] ps he q hq with z | z
      · cases z
      · exact hb _ z.1
    have hlw := DpAll.len hw
    rw [List.length_map] at hlw
    refine ⟨p, rfl, ⟨_, .inl (.inl hp)⟩, fun D hD => ?_⟩
    refine lc_list (K := K) (a := p) (xs := ws) (fun i H' => Kp H1 H' ∧ ∃ rs : List V, H' D = some (.lst rs) ∧ DpAll K H' rs ((ps.take i).map dRow)) ⟨Kp.new hD, [], upd_same, .nil⟩ (fun i H' _ ⟨kp, _⟩ => kp.sqL (.inl (.inl hp))) (fun i x H' hi ⟨kp, rs, hrs, hd⟩ => ?_) (fun H' ⟨kp, rs, hrs, hd⟩ => ?_)
    · have hil : i < ps.length := by
        have z := (List.getElem?_eq_some_iff.mp hi).1
        omega
      obtain ⟨q, hq⟩ : ∃ q, ps[i]? = some q := ⟨_, List.getElem?_eq_getElem hil⟩
      obtain ⟨v, hv, dv⟩ := DpAll.get (i := i) (d := dPair q) hw (by rw [List.getElem?_map, hq]; rfl)
      rw [hi] at hv
      cases hv
      have dv' := kp.dp dv
      cases dv' with
      | tup hs ha =>
        cases ha with | cons h1 ha =>
        cases ha with | cons h2 ha =>
        cases ha
        cases h1
        cases h2
        refine ⟨_, _, rfl, hs, rfl, _, _, rfl, _, _, rfl, rfl, rfl, ?_⟩
        have sg := isSg_of (hsg q (List.mem_of_getElem? hq)).1 (hsg q (List.mem_of_getElem? hq)).2
        refine ⟨_, rfl, q.1, rfl, (k1.trans kp).tab _ tg, fun _ H9 k9 => ?_, fun e => by rw [sg] at e; cases e⟩
        refine ⟨_, rfl, _, rfl, szl (by show 3 ≤ 100000; decide), fun u nu => ?_⟩
        generalize h_H2 : upd H9 u _ = H2
        have k_H2 : Kp H9 H2 := by rw [← h_H2]; exact .new nu
        have q_H2 := (congrFun h_H2 u).symm.trans upd_same
        clear h_H2
        have hr2 := k_H2.same _ _ rfl (k9.same _ _ rfl hrs)
        have hl2 := DpAll.len hd
        rw [List.length_map, List.length_take] at hl2
        refine ⟨rs, hr2, szt (by omega), ((kp.trans k9).trans k_H2).mut hD, _, upd_same, ?_⟩
        rw [take_snoc hq, List.map_append]
        refine DpAll.mut hr2 ?_ (DpAll.snoc (k_H2.dpAll (k9.dpAll hd)) (.tup (.inl (.inl q_H2)) (.cons (.str _) (.cons (.int _) (.cons (.int _) .nil)))))
        intro d hd
        rw [← List.map_append] at hd
        exact nl_rows d hd
    · rw [hlw, List.take_length] at hd
      have hl2 := DpAll.len hd
      rw [List.length_map] at hl2
      have kp2 := k1.trans kp
      refine ⟨_, rfl, .inl ⟨rfl, _, SqL.of hrs⟩, _, rfl, a, _, rfl, .inl (kp2.sqL hS), szl (by show 3 ≤ 100000; decide), fun u nu => ?_⟩
      generalize h_H2 : upd H' u _ = H2
      have k_H2 : Kp H' H2 := by rw [← h_H2]; exact .new nu
      have q_H2 := (congrFun h_H2 u).symm.trans upd_same
      clear h_H2
      have hr2 := k_H2.same _ _ rfl hrs
      refine ⟨D, _, _, rfl, rfl, hr2, szt (by omega), ?_⟩
      refine ⟨_, rfl, k ps he D _ _ (k1.free _ hD) ((kp2.trans k_H2).mut (k1.free _ hD)) upd_same ?_⟩
      unfold rowsD
      refine DpAll.mut hr2 ?_ (DpAll.snoc (k_H2.dpAll hd) (.tup (.inl (.inl q_H2)) (.cons (.str _) (.cons (.int _) (.cons (by rw [List.length_map]; exact .int _) .nil)))))
      intro d hd
      rcases List.mem_append.mp hd with hd | hd
      · exact nl_rows d hd
      · rw [List.mem_singleton.mp hd]
        exact .tup (by intro d hd; simp only [List.mem_cons, List.not_mem_nil, or_false] at hd; rcases hd with rfl | rfl | rfl <;> first | exact .str _ | exact .int _)
/-! the row at a place -/
theorem row_at {K : PySem.W.Frag} {H : Hp} {ws : List V} {ps : List (Int × Nat)} {n at' : Nat} {q : Int × Nat} (h : DpAll K H ws (rowsD ps n)) (hq : ps[at']? = some q) : ∃ t, ws[at']? = some (.ref t) ∧ SqT K H t [.str (kindV q.1), .int q.1, .int (q.2 : Int)] := by
  have hl : at' < ps.length := (List.getElem?_eq_some_iff.mp hq).1
  obtain ⟨v, hv, dv⟩ := DpAll.get (i := at') (d := dRow q) h (by unfold rowsD; rw [List.getElem?_append_left (by rw [List.length_map]; exact hl), List.getElem?_map, hq]; rfl)
  cases dv with
  | tup hs ha =>
    cases ha with | cons h1 ha =>
    cases ha with | cons h2 ha =>
    cases ha with | cons h3 ha =>
    cases ha
    cases h1
    cases h2
    cases h3
    exact ⟨_, hv, hs⟩
theorem row_end {K : PySem.W.Frag} {H : Hp} {ws : List V} {ps : List (Int × Nat)} {n : Nat} (h : DpAll K H ws (rowsD ps n)) : ∃ t, ws[ps.length]? = some (.ref t) ∧ SqT K H t [.str "past the end", .int 0, .int (n : Int)] := by
  obtain ⟨v, hv, dv⟩ := DpAll.get (i := ps.length) (d := dEnd n) h (by unfold rowsD; rw [List.getElem?_append_right (by rw [List.length_map]; exact Nat.le_refl _), List.length_map, Nat.sub_self]; rfl)
  cases dv with
  | tup hs ha =>
    cases ha with | cons h1 ha =>
    cases ha with | cons h2 ha =>
    cases ha with | cons h3 ha =>
    cases ha
    cases h1
    cases h2
    cases h3
    exact ⟨_, hv, hs⟩
/-- the row at a place, told by what stands from there on -/
def rowV (l : List (Int × Nat)) (n : Nat) : List V := match l with
  | [] => [.str "past the end", .int 0, .int (n : Int)]
  | q :: _ => [.str (kindV q.1), .int q.1, .int (q.2 : Int)]
theorem row_any {K : PySem.W.Frag} {H : Hp} {ws : List V} {ps : List (Int × Nat)} {n at' : Nat} (h : DpAll K H ws (rowsD ps n)) (ha : at' ≤ ps.length) : ∃ t, ws[at']? = some (.ref t) ∧ SqT K H t (rowV (ps.drop at') n) := by
  by_cases e : at' < ps.length
  · obtain ⟨q, hq⟩ : ∃ q, ps[at']? = some q := ⟨_, List.getElem?_eq_getElem e⟩
    obtain ⟨t, h1, h2⟩ := row_at h hq
    refine ⟨t, h1, ?_⟩
    obtain ⟨hi, eq⟩ := List.getElem?_eq_some_iff.mp hq
    rw [List.drop_eq_getElem_cons hi, eq]
    exact h2
  · have e2 : at' = ps.length := by omega
    subst e2
    rw [List.drop_length]
    exact row_end h
/-! ### a spelled word -/
def isLet (s : Int) : Bool := decide (40 < s) && decide (s ≤ 66)
def spellGo (n : Nat) : List (Int × Nat) → List Nat → Sum Nat (List Nat × List (Int × Nat))
  | [], _ => .inl n
  | (s, i) :: r, acc => if isLet s = true ∧ acc.length < 12 then spellGo n r (acc ++ [97 + (s - 41).toNat]) else if s = 67 then .inr (acc, r) else .inl i
theorem kind_let {s : Int} : decide (V.str (kindV s) = V.str "letter") = isLet s := by
  unfold kindV isLet
  by_cases c1 : s ≤ 40
  · rw [if_pos c1, decide_eq_false (show ¬ 40 < s by omega), Bool.false_and]
    decide +kernel
  rw [if_neg c1, decide_eq_true (show 40 < s by omega)]
  by_cases c2 : s ≤ 66
  · rw [if_pos c2, decide_eq_true c2]
    decide +kernel
  rw [if_neg c2, decide_eq_false c2]
  by_cases c3 : s = 67
  · rw [if_pos c3]
    decide +kernel
  rw [if_neg c3]
  by_cases c4 : s = 68
  · rw [if_pos c4]
    decide +kernel
  rw [if_neg c4]
  decide +kernel
theorem kind_end {s : Int} : decide (V.str (kindV s) = V.str "end") = decide (s = 67) := by
  unfold kindV
  by_cases c1 : s ≤ 40
  · rw [if_pos c1, decide_eq_false (show ¬ s = 67 by omega)]
    decide +kernel
  rw [if_neg c1]
  by_cases c2 : s ≤ 66
  · rw [if_pos c2, decide_eq_false (show ¬ s = 67 by omega)]
    decide +kernel
  rw [if_neg c2]
  by_cases c3 : s = 67
  · rw [if_pos c3, decide_eq_true c3]
    decide +kernel
  rw [if_neg c3, decide_eq_false c3]
  by_cases c4 : s = 68
  · rw [if_pos c4]
    decide +kernel
  rw [if_neg c4]
  decide +kernel
theorem kind_page {s : Int} : decide (V.str (kindV s) = V.str "page") = decide (s ≤ 40) := by
  unfold kindV
  by_cases c1 : s ≤ 40
  · rw [if_pos c1, decide_eq_true c1]
    decide +kernel
  rw [if_neg c1, decide_eq_false c1]
  by_cases c2 : s ≤ 66
  · rw [if_pos c2]
    decide +kernel
  rw [if_neg c2]
  by_cases c3 : s = 67
  · rw [if_pos c3]
    decide +kernel
  rw [if_neg c3]
  by_cases c4 : s = 68
  · rw [if_pos c4]
    decide +kernel
  rw [if_neg c4]
  decide +kernel
def sp_p_spelled_word (K : PySem.W.Frag) (C : Addr) : Sp := fun vs H Q E => ∃ (a : Addr) (ws : List V) (ps : List (Int × Nat)) (n at' : Nat), vs = [.ref a, .int (at' : Int)] ∧ H a = some (.lst ws) ∧ DpAll K H ws (rowsD ps n) ∧ at' ≤ ps.length ∧
  (∀ cs r, spellGo n (ps.drop at') [] = .inr (cs, r) → Q (.str ⟨cs.toArray⟩) H) ∧
  (∀ i, spellGo n (ps.drop at') [] = .inl i → ∀ (d : Addr) (H' : Hp), H d = none → Kp H H' → H' d = some (.xd [("at", .int (i : Int))]) → E (.ref C) (some d) H')
theorem str_snoc (cs : List Nat) (c : Nat) : (⟨cs.toArray⟩ : Str) ++ (⟨#[c]⟩ : Str) = ⟨(cs ++ [c]).toArray⟩ := by
  show Str.mk (cs.toArray ++ #[c]) = _
  congr 1
  simp
theorem raised_at {H : Hp} {C : Addr} {i : Nat} {Q : XK} (k : ∀ (d : Addr) (H' : Hp), H d = none → Kp H H' → H' d = some (.xd [("at", .int (i : Int))]) → Q (.ref C) (some d) H') :
    ∀ e, H e = none → sp_p_BadSigns_init C (.ref e :: ([.int (i : Int)] ++ [])) (upd H e (exo e C none))
      (fun v H2 => v = .non ∧ ∃ (d : Addr) (fs : List (Str × V)), H2 e = some (exo e C (some d)) ∧ H2 d = some (exd d fs) ∧ H d = none ∧ Q (.ref C) (some d) (upd (del H2 e) d (.xd fs))) (fun _ _ _ => False) := by
  intro e ne
  refine ⟨e, _, rfl, upd_same, fun dx hdx hne => ⟨rfl, dx, [("at", .int (i : Int))], upd_same, ?_, ?_, ?_⟩⟩
  · rw [upd_ne hne, upd_same]
  · rw [upd_ne hne] at hdx
    exact hdx
  · rw [upd_ne hne] at hdx
    exact k dx _ hdx (kp_raised ne hdx hne) upd_same
theorem ok_p_spelled_word (T : Txt K mg) : FnOk P w K mg base (L2.CX P w) 4 T.f_p_spelled_word T.d_p_spelled_word ["rows", "at"] (sp_p_spelled_word K T.a_BadSigns) := by
  refine T.F_p_spelled_word.okX sc_p_spelled_word (fun vs H Q E h => ?_) (fun cdv A outer s H vs Q E hr h => ?_)
  · obtain ⟨a, ws, ps, n, at', rfl, _⟩ := h
    rfl
  · obtain ⟨a, ws, ps, n, at', rfl, hS, hD, hat, k, kE⟩ := h
    refine ⟨_, (pss_cons (ps_set (i := 2) sc_p_spelled_word.nd rfl (by first | exact Or.inl rfl | exact Or.inr rfl) pe_str)
      (pss_cons (ps_asg (pe_ix ix_list (pv 0) (pv 1) (fun _ _ => rfl)) (pg_tup (n := 3) rfl (pgs_cons (pg_name (i := 3) sc_p_spelled_word.nd rfl (by first | exact Or.inl rfl | exact Or.inr rfl)) (pgs_cons (pg_name (i := 4) sc_p_spelled_word.nd rfl (by first | exact Or.inl rfl | exact Or.inr rfl)) (pgs_cons (pg_name (i := 5) sc_p_spelled_word.nd rfl (by first | exact Or.inl rfl | exact Or.inr rfl)) pgs_nil)))))
      (pss_cons (ps_while (passes_of rfl) (PW.pt (pw_and (pt_cmpR op_eq (pv 3) pe_str (nomark _)) (pw_and1 (pt_cmpR op_lt (pe_callB call_len_str (by rfl) T.m_len PySem.boot_len (pa_cons (pv 2) pa_nil)) (pe_glob rfl T.c_LONGEST_WORD T.r_LONGEST_WORD) (nomark _)))))
      (pss_cons (ps_aug (i := 2) sc_p_spelled_word.nd rfl (by first | exact Or.inl rfl | exact Or.inr rfl) (pe_call (ok_p_letter_of T) (hr.mono (by decide)) rfl T.g_p_letter_of T.F_p_letter_of.kp T.b_p_letter_of .nil pass0 (pa_cons (pv 4) pa_nil)) iop_add_str)
      (pss_cons (ps_aug (i := 1) sc_p_spelled_word.nd rfl (by first | exact Or.inl rfl | exact Or.inr rfl) pe_int ip_add)
      (pss_one (ps_asg (pe_ix ix_list (pv 0) (pv 1) (fun _ _ => rfl)) (pg_tup (n := 3) rfl (pgs_cons (pg_name (i := 3) sc_p_spelled_word.nd rfl (by first | exact Or.inl rfl | exact Or.inr rfl)) (pgs_cons (pg_name (i := 4) sc_p_spelled_word.nd rfl (by first | exact Or.inl rfl | exact Or.inr rfl)) (pgs_cons (pg_name (i := 5) sc_p_spelled_word.nd rfl (by first | exact Or.inl rfl | exact Or.inr rfl)) pgs_nil)))))))))
      (pss_cons (ps_if (pt_cmpR op_ne (pv 3) pe_str (nomark _))
      (pss_one (ps_raise rfl (takes_of rfl rfl rfl rfl) (pmk_oex T.ox_BadSigns T.ic_BadSigns T.ti_BadSigns (ok_p_BadSigns_init T) (hr.mono (by decide)) T.b_p_BadSigns_init .nil pass0 rfl T.g_BadSigns (pa_cons (pv 5) pa_nil))))
      pss_nil)
      (pss_one (ps_ret (pv 2))))))), ?_⟩
    obtain ⟨t0, h0, s0⟩ := row_any hD hat
    refine ⟨_, rfl, _, rfl, a, _, _, _, rfl, rfl, .inl (.inl hS), atI_nat h0, t0, _, rfl, s0, (by unfold rowV; split <;> rfl), ?_⟩
    obtain ⟨v1, v2, v3, hv⟩ : ∃ v1 v2 v3, rowV (ps.drop at') n = [v1, v2, v3] := by unfold rowV; split <;> exact ⟨_, _, _, rfl⟩
    rw [hv]
    refine ⟨_, _, rfl, _, _, rfl, _, _, rfl, rfl, ?_⟩
    refine ⟨fun m σ H' => H' = H ∧ ∃ (b : Nat) (cs : List Nat) (u1 u2 u3 : V), σ = [some (.ref a), some (.int (b : Int)), some (.str ⟨cs.toArray⟩), some u1, some u2, some u3] ∧ b ≤ ps.length ∧ m = ps.length - b ∧ cs.length ≤ 12 ∧ rowV (ps.drop b) n = [u1, u2, u3] ∧ spellGo n (ps.drop b) cs = spellGo n (ps.drop at') [],
      ⟨_, rfl, at', [], _, _, _, rfl, hat, rfl, by simp, hv, rfl⟩, ?_⟩
    rintro m σ H' ⟨rfl, b, cs, u1, u2, u3, rfl, hb, rfl, hcs, hu, hg⟩
    by_cases hlt : b < ps.length
    · obtain ⟨q, hq⟩ : ∃ q, ps[b]? = some q := ⟨_, List.getElem?_eq_getElem hlt⟩
      have hdrop : ps.drop b = q :: ps.drop (b + 1) := by
        obtain ⟨hi, eq⟩ := List.getElem?_eq_some_iff.mp hq
        rw [List.drop_eq_getElem_cons hi, eq]
      rw [hdrop] at hu hg
      obtain ⟨rfl, rfl, rfl⟩ : u1 = V.str (kindV q.1) ∧ u2 = V.int q.1 ∧ u3 = V.int (q.2 : Int) := by
        have e := hu
        unfold rowV at e
        simp only [List.cons.injEq, and_true] at e
        exact ⟨e.1.symm, e.2.1.symm, e.2.2.symm⟩
      have leave : ¬ (isLet q.1 = true ∧ cs.length < 12) → tSeq (tIfS (tTest (tOp rNe (tVar 3) (tC (.str "end")))) (fun _ σ H => tMkO T.a_BadSigns (sp_p_BadSigns_init T.a_BadSigns) [] (tCons (tVar 5) tNil) σ H fun cls d H' => (fun cls d (_ : L2.St) H => E cls d H) cls d σ H') tNext) (tRet (tVar 2)) { nx := fun _ H' => Q .non H', rt := Q } [some (V.ref a), some (V.int (b : Int)), some (V.str ⟨cs.toArray⟩), some (V.str (kindV q.1)), some (V.int q.1), some (V.int (q.2 : Int))] H' := by
        intro nl
        have hg2 : spellGo n (q :: ps.drop (b + 1)) cs = if q.1 = 67 then .inr (cs, ps.drop (b + 1)) else .inl q.2 := by
          show (if isLet q.1 = true ∧ cs.length < 12 then _ else _) = _
          rw [if_neg nl]
        rw [hg2] at hg
        refine ⟨_, rfl, rfl, _, rfl, ?_⟩
        rw [kind_end]
        by_cases e7 : q.1 = 67
        · rw [if_pos e7] at hg
          exact iteFo (by rw [decide_eq_true e7]; rfl) ⟨_, rfl, k _ _ hg.symm⟩
        · rw [if_neg e7] at hg
          exact iteTo (by rw [decide_eq_false e7]; rfl) ⟨_, rfl, by show 1 ≤ 1000; decide, raised_at (kE q.2 hg.symm)⟩
      refine ⟨_, rfl, rfl, _, rfl, ?_⟩
      rw [kind_let]
      refine iteB (fun c1 => ?_) (fun c1 => iteF (leave (fun z => by rw [c1] at z; cases z.1)))
      refine ⟨_, rfl, _, rfl, szl (by show cs.toArray.size ≤ 100000; rw [List.size_toArray]; omega), _, _, rfl, rfl, _, rfl, iteD (fun c2 => ?_) (fun c2 => leave (fun z => c2 (by show (cs.toArray.size : Int) < 12; rw [List.size_toArray]; omega)))⟩
      have c2' : cs.length < 12 := by
        have z : (cs.toArray.size : Int) < 12 := c2
        rw [List.size_toArray] at z
        omega
      have hl41 : 41 ≤ q.1 ∧ q.1 ≤ 66 := by
        unfold isLet at c1
        simp only [Bool.and_eq_true, decide_eq_true_eq] at c1
        omega
      refine ⟨_, fun σ' H'' w => w, ?_⟩
      have e41 : V.int q.1 = V.int (41 + (((q.1 - 41).toNat : Nat) : Int)) := by congr 1; omega
      refine ⟨_, rfl, _, rfl, (q.1 - 41).toNat, (by rw [e41]; rfl), by omega, _, _, rfl, rfl, szl (by show cs.toArray.size + 1 ≤ 100000; rw [List.size_toArray]; omega), ?_⟩
      rw [str_snoc]
      refine ⟨_, rfl, _, _, rfl, rfl, ?_⟩
      obtain ⟨t1, h1, s1⟩ := row_any (at' := b + 1) hD (by omega)
      obtain ⟨x1, x2, x3, hx⟩ : ∃ v1 v2 v3, rowV (ps.drop (b + 1)) n = [v1, v2, v3] := by unfold rowV; split <;> exact ⟨_, _, _, rfl⟩
      refine ⟨_, rfl, _, rfl, a, _, _, _, rfl, rfl, .inl (.inl hS), atI_nat (j := b + 1) h1, t1, _, rfl, s1, (by rw [hx]; rfl), ?_⟩
      rw [hx]
      refine ⟨_, _, rfl, _, _, rfl, _, _, rfl, rfl, ps.length - (b + 1), by omega, rfl, b + 1, cs ++ [97 + (q.1 - 41).toNat], x1, x2, x3, rfl, by omega, rfl, by rw [List.length_append]; show cs.length + 1 ≤ 12; omega, hx, ?_⟩
      rw [← hg]
      show _ = (if isLet q.1 = true ∧ cs.length < 12 then spellGo n (ps.drop (b + 1)) (cs ++ [97 + (q.1 - 41).toNat]) else _)
      rw [if_pos ⟨c1, c2'⟩]
    · have e2 : b = ps.length := by omega
      subst e2
      rw [List.drop_length] at hu hg
      obtain ⟨rfl, rfl, rfl⟩ : u1 = V.str "past the end" ∧ u2 = V.int 0 ∧ u3 = V.int (n : Int) := by
        have e := hu
        unfold rowV at e
        simp only [List.cons.injEq, and_true] at e
        exact ⟨e.1.symm, e.2.1.symm, e.2.2.symm⟩
      refine ⟨_, rfl, rfl, _, rfl, iteFo (by decide +kernel) (iteF ?_)⟩
      refine ⟨_, rfl, rfl, _, rfl, iteTo (by decide +kernel) ⟨_, rfl, by show 1 ≤ 1000; decide, raised_at (kE n hg.symm)⟩⟩
/-! ### a placed word -/
def sp_p_placed_word (K : PySem.W.Frag) (C B : Addr) : Sp := fun vs H Q E => ∃ (p d1 d2 t : Addr) (bs : List Ent) (a : Int) (l : List (Int × Nat)) (n : Nat), vs = [.ref p, .int a, .ref t] ∧ BookAt C H p d1 d2 bs ∧ SqT K H t (rowV l n) ∧ 1 ≤ a ∧ a ≤ 40 ∧ Sgs l ∧
  (∀ q r b, l = q :: r → q.1 ≤ 40 → atP bs a q.1 = some b → ∀ H', Kp H H' → Q (.str b.1.1) H') ∧
  (∀ i : Nat, ((l = [] ∧ i = n) ∨ ∃ q r, l = q :: r ∧ i = q.2 ∧ (q.1 ≤ 40 → atP bs a q.1 = none)) → ∀ (d : Addr) (H' : Hp), H d = none → Kp H H' → H' d = some (.xd [("at", .int (i : Int))]) → E (.ref B) (some d) H')
theorem ok_p_placed_word (T : Txt K mg) : FnOk P w K mg base (L2.CX P w) 4 T.f_p_placed_word T.d_p_placed_word ["book", "page", "row"] (sp_p_placed_word K T.a_Phrasebook T.a_BadSigns) := by
  refine T.F_p_placed_word.okX sc_p_placed_word (fun vs H Q E h => ?_) (fun cdv A outer s H vs Q E hr h => ?_)
  · obtain ⟨p, d1, d2, t, bs, a, l, n, rfl, _⟩ := h
    rfl
  · obtain ⟨p, d1, d2, t, bs, a, l, n, rfl, hB, hS, ha1, ha2, hsg, k, kE⟩ := h
    refine ⟨_, (pss_cons (ps_asg (pv 2) (pg_tup (n := 3) rfl (pgs_cons (pg_name (i := 3) sc_p_placed_word.nd rfl (by first | exact Or.inl rfl | exact Or.inr rfl)) (pgs_cons (pg_name (i := 4) sc_p_placed_word.nd rfl (by first | exact Or.inl rfl | exact Or.inr rfl)) (pgs_cons (pg_name (i := 5) sc_p_placed_word.nd rfl (by first | exact Or.inl rfl | exact Or.inr rfl)) pgs_nil)))))
      (pss_cons (ps_set (i := 6) sc_p_placed_word.nd rfl (by first | exact Or.inl rfl | exact Or.inr rfl) (pe_ifExp (pt_cmpR op_eq (pv 3) pe_str (nomark _)) (pe_meth (pv 0) T.cl_Phrasebook T.M_p_Phrasebook_word_at (ok_p_Phrasebook_word_at T) (hr.mono (by decide)) T.b_p_Phrasebook_word_at .nil (passes_call (takes_of rfl rfl rfl rfl) (fun _ _ _ _ z => z)) (pa_cons (pv 1) (pa_cons (pv 4) pa_nil))) pe_non))
      (pss_cons (ps_if (pt_cmpR op_isN (pv 6) pe_non (nomark _))
      (pss_one (ps_raise rfl (takes_of rfl rfl rfl rfl) (pmk_oex T.ox_BadSigns T.ic_BadSigns T.ti_BadSigns (ok_p_BadSigns_init T) (hr.mono (by decide)) T.b_p_BadSigns_init .nil pass0 rfl T.g_BadSigns (pa_cons (pv 5) pa_nil))))
      pss_nil)
      (pss_one (ps_ret (pv 6)))))), ?_⟩
    cases l with
    | nil =>
      refine ⟨_, rfl, t, _, rfl, hS, rfl, _, _, rfl, _, _, rfl, _, _, rfl, rfl, ?_⟩
      refine ⟨_, rfl, rfl, _, rfl, iteFo (by decide +kernel) ?_⟩
      refine ⟨_, rfl, rfl, _, rfl, iteTo dec_self ⟨_, rfl, by show 1 ≤ 1000; decide, raised_at (kE n (.inl ⟨rfl, rfl⟩))⟩⟩
    | cons q r =>
      refine ⟨_, rfl, t, _, rfl, hS, rfl, _, _, rfl, _, _, rfl, _, _, rfl, rfl, ?_⟩
      refine ⟨_, rfl, rfl, _, rfl, ?_⟩
      rw [kind_page]
      have hq := hsg q List.mem_cons_self
      refine iteD (fun c => ?_) (fun c => ?_)
      · obtain ⟨dx, hp⟩ := hB.ob
        have okp : okP a q.1 = true := by
          unfold okP
          rw [decide_eq_true ha1, decide_eq_true ha2, decide_eq_true hq.1, decide_eq_true c]
          rfl
        refine ⟨_, rfl, p, dx, _, rfl, hp, flds_no _ _ (by decide +kernel) (by decide +kernel), _, rfl, _, rfl, p, d1, d2, bs, a, q.1, rfl, hB, fun _ H1 k1 => ?_, fun z => by rw [okp] at z; cases z⟩
        cases e : atP bs a q.1 with
        | some b =>
          exact ⟨_, rfl, rfl, _, rfl, iteFo rfl ⟨_, rfl, k q r b rfl c e H1 k1⟩⟩
        | none =>
          refine ⟨_, rfl, rfl, _, rfl, iteTo dec_self ⟨_, rfl, by show 1 ≤ 1000; decide, raised_at (fun d H' nd kp hd => kE q.2 (.inr ⟨q, r, rfl, rfl, fun _ => e⟩) d H' (k1.free _ nd) (k1.trans kp) hd)⟩⟩
      · refine ⟨_, rfl, rfl, _, rfl, iteTo dec_self ⟨_, rfl, by show 1 ≤ 1000; decide, raised_at (kE q.2 (.inr ⟨q, r, rfl, rfl, fun z => absurd z c⟩))⟩⟩
/-! ### the words read -/
theorem spell_rest {n : Nat} : ∀ {l acc cs r}, spellGo n l acc = .inr (cs, r) → acc.length ≤ cs.length ∧ cs.length - acc.length + 1 ≤ l.length ∧ r = l.drop (cs.length - acc.length + 1)
  | [], acc, cs, r, h => by cases h
  | (s, i) :: l, acc, cs, r, h => by
    unfold spellGo at h
    by_cases c : isLet s = true ∧ acc.length < 12
    · rw [if_pos c] at h
      obtain ⟨h1, h2, h3⟩ := spell_rest h
      rw [List.length_append, List.length_singleton] at h1 h2 h3
      refine ⟨by omega, by rw [List.length_cons]; omega, ?_⟩
      have e : cs.length - acc.length + 1 = (cs.length - (acc.length + 1) + 1) + 1 := by omega
      rw [h3, e, List.drop_succ_cons]
    · rw [if_neg c] at h
      by_cases c2 : s = 67
      · rw [if_pos c2] at h
        have e := Sum.inr.inj h
        rw [Prod.mk.injEq] at e
        obtain ⟨rfl, rfl⟩ := e
        refine ⟨Nat.le_refl _, by rw [List.length_cons]; omega, ?_⟩
        rw [Nat.sub_self]
        rfl
      · rw [if_neg c2] at h
        cases h
theorem spell_len {n : Nat} : ∀ {l acc cs r}, spellGo n l acc = .inr (cs, r) → acc.length ≤ 12 → cs.length ≤ 12
  | [], acc, cs, r, h, _ => by cases h
  | (s, i) :: l, acc, cs, r, h, ha => by
    unfold spellGo at h
    by_cases c : isLet s = true ∧ acc.length < 12
    · rw [if_pos c] at h
      exact spell_len h (by rw [List.length_append, List.length_singleton]; omega)
    · rw [if_neg c] at h
      by_cases c2 : s = 67
      · rw [if_pos c2] at h
        have e := Sum.inr.inj h
        rw [Prod.mk.injEq] at e
        obtain ⟨rfl, rfl⟩ := e
        exact ha
      · rw [if_neg c2] at h
        cases h
def readGo (bs : List Ent) (n : Nat) : Nat → List (Int × Nat) → List Str → Sum Nat (List Str)
  | 0, _, acc => .inr acc
  | _ + 1, [], acc => .inr acc
  | f + 1, q :: r, acc =>
    if q.1 ≤ 40 then match r with
      | [] => .inl n
      | q2 :: r2 => if q2.1 ≤ 40 then match atP bs q.1 q2.1 with
          | some b => readGo bs n f r2 (acc ++ [b.1.1])
          | none => .inl q2.2
        else .inl q2.2
    else if isLet q.1 = true then match spellGo n (q :: r) [] with
      | .inl i => .inl i
      | .inr (cs, r') => readGo bs n f r' (acc ++ [⟨cs.toArray⟩])
    else .inl q.2
def wordsV (bs : List Ent) (xs : List Int) : Sum Nat (List Str) := match strikes xs with
  | .inl i => .inl i
  | .inr ps => readGo bs xs.length ps.length ps []
def sp_p_words_of (K : PySem.W.Frag) (C B Pt : Addr) : Sp := fun vs H Q E => ∃ (p d1 d2 a : Addr) (bs : List Ent) (xs : List Int), vs = [.ref p, .ref a] ∧ BookAt C H p d1 d2 bs ∧ SqL K H a (xs.map V.int) ∧ xs.length ≤ 1000 ∧ (∀ x ∈ xs, 1 ≤ x ∧ x ≤ 94) ∧ GxR.TabG H Pt ∧
  (∀ ws, wordsV bs xs = .inr ws → ∀ (r : Addr) (H' : Hp), H r = none → Kp H H' → H' r = some (.lst (ws.map V.str)) → Q (.ref r) H') ∧
  (∀ i, wordsV bs xs = .inl i → ∀ (d : Addr) (H' : Hp), H d = none → Kp H H' → H' d = some (.xd [("at", .int (i : Int))]) → E (.ref B) (some d) H')
theorem nl_rowsD {ps : List (Int × Nat)} {n : Nat} : ∀ d ∈ rowsD ps n, Nl d := by
  intro d hd
  unfold rowsD at hd
  rcases List.mem_append.mp hd with hd | hd
  · exact nl_rows d hd
  · rw [List.mem_singleton.mp hd]
    exact .tup (by intro d hd; simp only [List.mem_cons, List.not_mem_nil, or_false] at hd; rcases hd with rfl | rfl | rfl <;> first | exact .str _ | exact .int _)
theorem kind_past {s : Int} : decide (V.str (kindV s) = V.str "past the end") = false := by
  unfold kindV
  by_cases c1 : s ≤ 40
  · rw [if_pos c1]
    decide +kernel
  rw [if_neg c1]
  by_cases c2 : s ≤ 66
  · rw [if_pos c2]
    decide +kernel
  rw [if_neg c2]
  by_cases c3 : s = 67
  · rw [if_pos c3]
    decide +kernel
  rw [if_neg c3]
  by_cases c4 : s = 68
  · rw [if_pos c4]
    decide +kernel
  rw [if_neg c4]
  decide +kernel
theorem ok_p_words_of (T : Txt K mg) (TBS : GxR.TabB base mg T.c_tabS T.P_tabS) : FnOk P w K mg base (L2.CX P w) 7 T.f_p_words_of T.d_p_words_of ["book", "signs"] (sp_p_words_of K T.a_Phrasebook T.a_BadSigns T.P_tabS) := by
  refine T.F_p_words_of.okX sc_p_words_of (fun vs H Q E h => ?_) (fun cdv A outer s H vs Q E hr h => ?_)
  · obtain ⟨p, d1, d2, a, bs, xs, rfl, _⟩ := h
    rfl
  · obtain ⟨p, d1, d2, a, bs, xs, rfl, hB, hS, hl, hb, tg, k, kE⟩ := h
    refine ⟨_, (pss_cons (ps_set (i := 2) sc_p_words_of.nd rfl (by first | exact Or.inl rfl | exact Or.inr rfl) (pe_call (ok_p_rows_of T TBS) (hr.mono (by decide)) rfl T.g_p_rows_of T.F_p_rows_of.kp T.b_p_rows_of .nil (passes_call (takes_of rfl rfl rfl rfl) (fun _ _ _ _ z => z)) (pa_cons (pv 1) pa_nil)))
      (pss_cons (ps_set (i := 3) sc_p_words_of.nd rfl (by first | exact Or.inl rfl | exact Or.inr rfl) (pe_lst pa_nil))
      (pss_cons (ps_set (i := 4) sc_p_words_of.nd rfl (by first | exact Or.inl rfl | exact Or.inr rfl) pe_int)
      (pss_cons (ps_while (passes_of rfl) (pt_cmpR op_ne (pe_ix ix_tup (pe_ix ix_list (pv 2) (pv 4) (fun _ _ => rfl)) pe_int (fun _ _ => rfl)) (pe_glob rfl T.c_PAST_THE_END T.r_PAST_THE_END) (nomark _))
      (pss_cons (ps_asg (pe_ix ix_list (pv 2) (pv 4) (fun _ _ => rfl)) (pg_tup (n := 3) rfl (pgs_cons (pg_name (i := 5) sc_p_words_of.nd rfl (by first | exact Or.inl rfl | exact Or.inr rfl)) (pgs_cons (pg_name (i := 6) sc_p_words_of.nd rfl (by first | exact Or.inl rfl | exact Or.inr rfl)) (pgs_cons (pg_name (i := 7) sc_p_words_of.nd rfl (by first | exact Or.inl rfl | exact Or.inr rfl)) pgs_nil)))))
      (pss_one (ps_if (pt_cmpR op_eq (pv 5) pe_str (nomark _))
      (pss_cons (ps_expr (pe_bm PySem.F.plainAttrs_list PySem.F.slot_list_append PySem.F.type_list_append mt_append (pv 3) (pa_cons (pe_call (ok_p_placed_word T) (hr.mono (by decide)) rfl T.g_p_placed_word T.F_p_placed_word.kp T.b_p_placed_word .nil (passes_call (takes_of rfl rfl rfl rfl) (fun _ _ _ _ z => z)) (pa_cons (pv 0) (pa_cons (pv 6) (pa_cons (pe_ix ix_list (pv 2) (pe_op op_add (pv 4) pe_int) (fun _ _ => rfl)) pa_nil)))) pa_nil)))
      (pss_one (ps_aug (i := 4) sc_p_words_of.nd rfl (by first | exact Or.inl rfl | exact Or.inr rfl) pe_int ip_add)))
      (pss_one (ps_if (pt_cmpR op_eq (pv 5) pe_str (nomark _))
      (pss_cons (ps_set (i := 8) sc_p_words_of.nd rfl (by first | exact Or.inl rfl | exact Or.inr rfl) (pe_call (ok_p_spelled_word T) (hr.mono (by decide)) rfl T.g_p_spelled_word T.F_p_spelled_word.kp T.b_p_spelled_word .nil (passes_call (takes_of rfl rfl rfl rfl) (fun _ _ _ _ z => z)) (pa_cons (pv 2) (pa_cons (pv 4) pa_nil))))
      (pss_cons (ps_expr (pe_bm PySem.F.plainAttrs_list PySem.F.slot_list_append PySem.F.type_list_append mt_append (pv 3) (pa_cons (pv 8) pa_nil)))
      (pss_one (ps_aug (i := 4) sc_p_words_of.nd rfl (by first | exact Or.inl rfl | exact Or.inr rfl) (pe_op op_add (pe_callB call_len_str (by rfl) T.m_len PySem.boot_len (pa_cons (pv 8) pa_nil)) pe_int) ip_add))))
      (pss_one (ps_raise rfl (takes_of rfl rfl rfl rfl) (pmk_oex T.ox_BadSigns T.ic_BadSigns T.ti_BadSigns (ok_p_BadSigns_init T) (hr.mono (by decide)) T.b_p_BadSigns_init .nil pass0 rfl T.g_BadSigns (pa_cons (pv 7) pa_nil))))))))))
      (pss_one (ps_ret (pv 3))))))), ?_⟩
    refine ⟨_, rfl, a, xs, rfl, hS, hl, hb, tg, fun ps he R rw0 H1 nR k1 hR hD => ?_, fun i he d H1 nd k1 hd => kE i (by unfold wordsV; rw [he]) d H1 nd k1 hd⟩
    have hwv : wordsV bs xs = readGo bs xs.length ps.length ps [] := by unfold wordsV; rw [he]
    rw [hwv] at k kE
    generalize hres : readGo bs xs.length ps.length ps [] = res at k kE
    have hpl : ps.length ≤ 1000 := by
      have z := strikeGo_len xs 0 [] ps he
      simp only [List.length_nil] at z
      omega
    have hsg : Sgs ps := fun q hq => by
      rcases strike_in xs 0 [] ps he q hq with z | z
      · cases z
      · exact hb _ z.1
    refine ⟨Nat.zero_le _, fun W nW => ?_⟩
    generalize h_H2 : upd H1 W _ = H2
    have k_H2 : Kp H1 H2 := by rw [← h_H2]; exact .new nW
    have q_H2 := (congrFun h_H2 W).symm.trans upd_same
    clear h_H2
    have nRW : R ≠ W := ne_of_none hR nW
    refine ⟨fun m σ H' => ∃ (b : Nat) (acc : List Str) (y5 y6 y7 y8 : Option V) (f : Nat), σ = [some (.ref p), some (.ref a), some (.ref R), some (.ref W), some (.int (b : Int)), y5, y6, y7, y8] ∧ b ≤ ps.length ∧ m = ps.length - b ∧ Kp H H' ∧ H' R = some (.lst rw0) ∧ DpAll K H' rw0 (rowsD ps xs.length) ∧ H' W = some (.lst (acc.map V.str)) ∧ acc.length ≤ b ∧ (ps.drop b).length ≤ f ∧ readGo bs xs.length f (ps.drop b) acc = res,
      ⟨_, 0, [], none, none, none, none, ps.length, rfl, Nat.zero_le _, rfl, k1.trans k_H2, k_H2.same _ _ rfl hR, k_H2.dpAll hD, q_H2, Nat.le_refl _, Nat.le_refl _, hres⟩, ?_⟩
    rintro m σ H' ⟨b, acc, y5, y6, y7, y8, f, rfl, hbl, rfl, kp, hR', hD', hW, hac, hf, hg⟩
    by_cases hlt : b < ps.length
    · obtain ⟨q, hq⟩ : ∃ q, ps[b]? = some q := ⟨_, List.getElem?_eq_getElem hlt⟩
      have hdrop : ps.drop b = q :: ps.drop (b + 1) := by
        obtain ⟨hi, eq⟩ := List.getElem?_eq_some_iff.mp hq
        rw [List.drop_eq_getElem_cons hi, eq]
      obtain ⟨g, rfl⟩ : ∃ g, f = g + 1 := ⟨f - 1, by rw [hdrop, List.length_cons] at hf; omega⟩
      have hg0 := hg
      rw [hdrop] at hg
      obtain ⟨t1, h1, s1⟩ := row_at hD' hq
      refine ⟨_, rfl, _, rfl, R, _, _, _, rfl, rfl, .inl (.inl hR'), atI_nat h1, t1, _, _, _, rfl, rfl, s1, rfl, rfl, _, rfl, iteTo (by rw [kind_past]; rfl) ⟨_, fun σ' H'' w => w, ?_⟩⟩
      refine ⟨_, rfl, _, rfl, R, _, _, _, rfl, rfl, .inl (.inl hR'), atI_nat h1, t1, _, rfl, s1, rfl, ?_⟩
      refine ⟨_, _, rfl, _, _, rfl, _, _, rfl, rfl, ?_⟩
      refine ⟨_, rfl, rfl, _, rfl, ?_⟩
      rw [kind_page]
      have hqs := hsg q (List.mem_of_getElem? hq)
      unfold readGo at hg
      refine iteD (fun c => ?_) (fun c => ?_)
      · rw [if_pos c] at hg
        obtain ⟨t2, h2, s2⟩ := row_any (at' := b + 1) hD' (by omega)
        refine ⟨_, rfl, .inl ⟨rfl, _, SqL.of hW⟩, _, rfl, _, rfl, _, rfl, _, rfl, _, _, rfl, rfl, R, _, _, _, rfl, rfl, .inl (.inl hR'), atI_nat (j := b + 1) h2, p, d1, d2, t2, bs, q.1, ps.drop (b + 1), xs.length, rfl, hB.kp kp, s2, hqs.1, c, fun z hz => hsg z (List.mem_of_mem_drop hz), fun q2 r b2 e2 c2 ea H3 k3 => ?_, fun i hi d H3 nd k3 hd => kE i ?_ d H3 (kp.free _ nd) (kp.trans k3) hd⟩
        · rw [e2] at hg
          simp only [if_pos c2, ea] at hg
          have hl2 : b + 2 ≤ ps.length := by
            have z := congrArg List.length e2
            rw [List.length_drop, List.length_cons] at z
            omega
          have hr2 : ps.drop (b + 2) = r := by
            have z : (ps.drop (b + 1)).drop 1 = r := by rw [e2]; rfl
            rw [List.drop_drop] at z
            exact z
          have hW3 := k3.same _ _ rfl hW
          refine ⟨W, _, _, rfl, rfl, hW3, szt (by rw [List.length_map]; omega), ?_⟩
          refine ⟨_, rfl, _, _, rfl, rfl, ps.length - (b + 2), by omega, b + 2, acc ++ [b2.1.1], _, _, _, _, g, rfl, hl2, rfl, (kp.trans k3).mut (k1.free _ nW), ?_, ?_, ?_, ?_, ?_, ?_⟩
          · rw [upd_ne nRW]
            exact k3.same _ _ rfl hR'
          · exact DpAll.mut hW3 nl_rowsD (k3.dpAll hD')
          · rw [upd_same, List.map_append]
            rfl
          · rw [List.length_append]
            show acc.length + 1 ≤ b + 2
            omega
          · rw [List.length_drop] at hf ⊢
            omega
          · rw [hr2]
            exact hg
        · rw [← hg]
          rcases hi with ⟨e, ei⟩ | ⟨q2, r, e, ei, ho⟩
          · rw [e, ei]
          · rw [e, ei]
            by_cases c2 : q2.1 ≤ 40
            · simp only [if_pos c2, ho c2]
            · simp only [if_neg c2]
      · rw [if_neg c] at hg
        refine ⟨_, rfl, rfl, _, rfl, ?_⟩
        rw [kind_let]
        refine iteB (fun c1 => ?_) (fun c1 => ?_)
        · rw [if_pos c1] at hg
          refine ⟨_, rfl, _, rfl, R, _, ps, xs.length, b, rfl, hR', hD', hbl, fun cs r e => ?_, fun i e d H3 nd k3 hd => kE i ?_ d H3 (kp.free _ nd) (kp.trans k3) hd⟩
          · rw [hdrop] at e
            rw [e] at hg
            obtain ⟨z1, z2, z3⟩ := spell_rest e
            have z4 := spell_len e (Nat.zero_le _)
            rw [List.length_nil, Nat.sub_zero] at z2 z3
            have hl2 : b + (cs.length + 1) ≤ ps.length := by
              rw [List.length_cons, List.length_drop] at z2
              omega
            have hr2 : ps.drop (b + (cs.length + 1)) = r := by
              rw [z3, ← hdrop, List.drop_drop]
            refine ⟨_, rfl, .inl ⟨rfl, _, SqL.of hW⟩, _, rfl, W, _, _, rfl, rfl, hW, szt (by rw [List.length_map]; omega), ?_⟩
            have elen : (⟨cs.toArray⟩ : Str).length = cs.length := List.size_toArray
            refine ⟨_, rfl, _, rfl, _, rfl, szl (by rw [elen]; omega), _, _, rfl, rfl, _, _, rfl, rfl, ?_⟩
            rw [elen]
            refine ⟨ps.length - (b + (cs.length + 1)), by omega, b + (cs.length + 1), acc ++ [⟨cs.toArray⟩], _, _, _, _, g, rfl, hl2, rfl, kp.mut (k1.free _ nW), ?_, ?_, ?_, ?_, ?_, ?_⟩
            · rw [upd_ne nRW]
              exact hR'
            · exact DpAll.mut hW nl_rowsD hD'
            · rw [upd_same, List.map_append]
              rfl
            · rw [List.length_append]
              show acc.length + 1 ≤ b + (cs.length + 1)
              omega
            · rw [List.length_drop] at hf ⊢
              omega
            · rw [hr2]
              exact hg
          · rw [hdrop] at e
            rw [e] at hg
            exact hg.symm
        · rw [if_neg (by rw [c1]; decide)] at hg
          exact ⟨_, rfl, by show 1 ≤ 1000; decide, raised_at (fun d H3 nd k3 hd => kE q.2 hg.symm d H3 (kp.free _ nd) (kp.trans k3) hd)⟩
    · have e2 : b = ps.length := by omega
      subst e2
      obtain ⟨t1, h1, s1⟩ := row_end hD'
      refine ⟨_, rfl, _, rfl, R, _, _, _, rfl, rfl, .inl (.inl hR'), atI_nat h1, t1, _, _, _, rfl, rfl, s1, rfl, rfl, _, rfl, iteFo (by decide +kernel) ?_⟩
      refine ⟨_, rfl, k acc ?_ W H' (k1.free _ nW) kp hW⟩
      rw [← hg, List.drop_length]
      cases f <;> rfl
/-! ### the signs of words, by a map -/
def signs1 (bs : List Ent) (w : Str) : List Int := match atW bs w with
  | some b => [b.1.2.1, b.1.2.2]
  | none => letS w ++ [67]
def signsV (bs : List Ent) (ws : List Str) : List Int := ws.flatMap (signs1 bs)
theorem signs1_len {bs : List Ent} {t : Str} (h : isW t = true) : (signs1 bs t).length ≤ 13 := by
  unfold signs1
  split
  · show 2 ≤ 13
    decide
  · have := (isW_len h).2
    rw [List.length_append]
    unfold letS
    rw [List.length_map]
    show t.cps.toList.length + 1 ≤ 13
    have e : t.length = t.cps.toList.length := by simp [Str.length]
    omega
theorem signsV_len {bs : List Ent} : ∀ {ws : List Str}, (∀ t ∈ ws, isW t = true) → (signsV bs ws).length ≤ 13 * ws.length
  | [], _ => by simp [signsV]
  | t :: r, h => by
    have ih := signsV_len (bs := bs) (ws := r) fun x hx => h x (List.mem_cons_of_mem _ hx)
    have h1 := signs1_len (bs := bs) (h t List.mem_cons_self)
    unfold signsV at *
    rw [List.flatMap_cons, List.length_append, List.length_cons]
    omega
theorem signsV_snoc (bs : List Ent) (ws : List Str) (t : Str) : signsV bs (ws ++ [t]) = signsV bs ws ++ signs1 bs t := by
  unfold signsV
  rw [List.flatMap_append]
  simp
/-! ### a method of a text inside a comprehension -/
theorem tbmK {X : Cx} (K : PySem.W.Frag) {e : Expr} {to : TE} {t : TA} {T : String} {r : V → List V → Hp → VK → Prop} (h : X.K = K) (p : PE X e (tBM X.K T r to t)) : PE X e (tBM K T r to t) := h ▸ p
/-! ### _law_word: a drawn word -/
theorem joinL_nil : ∀ zs : List (List Nat), TL.joinL [] zs = zs.flatten
  | [] => rfl
  | [z] => by show z = _; simp
  | z :: z2 :: r => by
    show z ++ ([] ++ TL.joinL [] (z2 :: r)) = _
    rw [joinL_nil (z2 :: r), List.nil_append]
    rfl
def one (c : Nat) : Str := ⟨#[c]⟩
theorem join_ones (cs : List Nat) : (Txt.join "" (cs.map one)).cps.toList = cs := by
  have e : TL.tl (Txt.join "" (cs.map one)) = TL.joinL (TL.tl "") ((cs.map one).map TL.tl) := by rw [TL.join_eq, TL.tl_join]
  have e0 : TL.tl "" = [] := by decide +kernel
  rw [e0, joinL_nil, List.map_map] at e
  have e2 : (cs.map (TL.tl ∘ one)).flatten = cs := by
    clear e
    induction cs with
    | nil => rfl
    | cons c r ih =>
      rw [List.map_cons, List.flatten_cons, ih]
      rfl
  rw [e2] at e
  exact e
theorem sum_ones (cs : List Nat) : ((cs.map one).map (·.length)).sum = cs.length := by
  induction cs with
  | nil => rfl
  | cons c r ih =>
    rw [List.map_cons, List.map_cons, List.sum_cons, ih, List.length_cons]
    show 1 + r.length = r.length + 1
    omega
theorem isW_of {t : Str} (h1 : 1 ≤ t.cps.toList.length) (h2 : t.cps.toList.length ≤ 12) (h : ∀ c ∈ t.cps.toList, c ∈ abcW.cps.toList) : isW t = true := by
  have et : t.length = t.cps.toList.length := by simp [Str.length]
  unfold isW
  rw [et, decide_eq_true (show 1 ≤ (t.cps.toList.length : Int) by omega), decide_eq_true (show (t.cps.toList.length : Int) ≤ 12 by omega)]
  show (t.cps.toList.all fun c => decide (c ∈ abcW.cps.toList)) = true
  exact List.all_eq_true.mpr fun c hc => decide_eq_true (h c hc)
theorem isW_cut {t : Str} {z : Int} (hl : t.cps.toList.length = 12) (h : ∀ c ∈ t.cps.toList, c ∈ abcW.cps.toList) (h1 : 1 ≤ z) (h2 : z ≤ 12) : isW (cutS t none (some z)) = true := by
  have et : t.length = 12 := by simpa [Str.length] using hl
  have e1 : HT.sIx t.length 0 none = 0 := rfl
  have e2 : HT.sIx t.length t.length (some z) = z.toNat := by
    rw [et]
    obtain ⟨n, rfl⟩ : ∃ n : Nat, z = (n : Int) := ⟨z.toNat, by omega⟩
    have hn : n ≤ 12 := by omega
    rw [Int.toNat_natCast]
    have key : ∀ n : Fin 13, HT.sIx 12 12 (some ((n.val : Nat) : Int)) = n.val := by decide +kernel
    exact key ⟨n, by omega⟩
  have e : (cutS t none (some z)).cps.toList = t.cps.toList.take z.toNat := by
    unfold cutS
    rw [e1, e2]
    simp
  refine isW_of ?_ ?_ ?_
  · rw [e, List.length_take]
    omega
  · rw [e, List.length_take]
    omega
  · rw [e]
    intro c hc
    exact h c (List.mem_of_mem_take hc)
def W7 : List Str := ["tide", "tides", "out", "aaaaaaaaaaaa", "a", "b", "zaaaaaaaaaaa"]
theorem isW_7 : ∀ t ∈ W7, isW t = true := by decide +kernel
theorem at_7 (n : Int) : ∃ t ∈ W7, atI (W7.map V.str) (n % 7) = some (.str t) := by
  have h0 : 0 ≤ n % 7 := Int.emod_nonneg _ (by decide)
  have h1 : n % 7 < 7 := Int.emod_lt_of_pos _ (by decide)
  have hj : (n % 7).toNat < W7.length := by
    show (n % 7).toNat < 7
    omega
  refine ⟨W7[(n % 7).toNat], List.getElem_mem _, ?_⟩
  have e := atI_nat (xs := W7.map V.str) (j := (n % 7).toNat) (v := .str W7[(n % 7).toNat]) (by rw [List.getElem?_map, List.getElem?_eq_getElem hj]; rfl)
  rw [Int.toNat_of_nonneg h0] at e
  exact e
theorem at_abc (m : Int) : ∃ c ∈ abcW.cps.toList, atI abcW.cps.toList (m % 26) = some c := by
  have h0 : 0 ≤ m % 26 := Int.emod_nonneg _ (by decide)
  have h1 : m % 26 < 26 := Int.emod_lt_of_pos _ (by decide)
  have hl : abcW.cps.toList.length = 26 := by decide +kernel
  have hj : (m % 26).toNat < abcW.cps.toList.length := by omega
  refine ⟨abcW.cps.toList[(m % 26).toNat], List.getElem_mem _, ?_⟩
  have e := atI_nat (List.getElem?_eq_getElem hj)
  rw [Int.toNat_of_nonneg h0] at e
  exact e
theorem cut1 {ns : List Int} : cutV (ns.map V.int) (some 1) none = (ns.drop 1).map V.int := by
  unfold cutV
  rw [List.length_map]
  cases ns with
  | nil => rfl
  | cons n r =>
    have e1 : HT.sIx (n :: r).length 0 (some 1) = 1 := by
      show HT.sIx (r.length + 1) 0 (some 1) = 1
      unfold HT.sIx
      simp
      try omega
    have e2 : HT.sIx (n :: r).length (n :: r).length none = (n :: r).length := rfl
    rw [e1, e2, List.drop_succ_cons, List.drop_zero, List.map_cons, List.drop_succ_cons, List.drop_zero, List.length_cons]
    rw [List.take_of_length_le (by rw [List.length_map]; omega)]
def sp_l_word : Sp := fun vs H Q _ => ∃ c : Int, vs = [.int c] ∧ ∀ (t : Str) (H' : Hp), isW t = true → Kp H H' → Q (.str t) H'
theorem ok_l_word (T : Txt K mg) : FnOk P w K mg base CX0 2 T.f_l_word T.d_l_word ["_law_cell_here"] sp_l_word := by
  refine T.F_l_word.ok sc_l_word (fun vs H Q E h => ?_) (fun cdv A outer s H vs Q E hr h => ?_)
  · obtain ⟨c, rfl, _⟩ := h
    rfl
  · obtain ⟨c, rfl, k⟩ := h
    refine ⟨_, (pss_cons (ps_set (i := 1) sc_l_word.nd rfl (by first | exact Or.inl rfl | exact Or.inr rfl) (pe_call (ok_l_row T) (hr.mono (by decide)) rfl T.g_l_row T.F_l_row.kp T.b_l_row .nil pass0 (pa_cons (pv 0) (pa_cons pe_int (pa_cons pe_int pa_nil)))))
      (pss_cons (ps_set (i := 2) sc_l_word.nd rfl (by first | exact Or.inl rfl | exact Or.inr rfl) (pe_join pe_str (pe_lc (own := [("_law_num", 3)]) (g := gName 3) (tt := tYes) (by rfl) sc_l_word.nd (pi_list (pe_slice sl_list (pv 1) (po_some pe_int) po_none)) (blkOk_by (own := [("_law_num", 3)]) (N := ["_law_cell_here", "_law_nums", "_law_some", "_law_num", "_law_size"]) (sc := defScope s_l_word) (by decide +kernel)) (fun _ _ _ _ _ => (pg_name (i := 3) sc_l_word.nd rfl (by first | exact Or.inl rfl | exact Or.inr rfl))) (fun _ _ _ _ _ => pts_nil) (fun _ _ _ _ _ => (pe_ix ix_str pe_str (pe_op op_mod (pv 3) pe_int) (fun _ _ => rfl))))))
      (pss_cons (ps_set (i := 4) sc_l_word.nd rfl (by first | exact Or.inl rfl | exact Or.inr rfl) (pe_op op_add pe_int (pe_op op_mod (pe_ix ix_list (pv 1) pe_int (fun _ _ => rfl)) pe_int)))
      (pss_cons (ps_if (pt_cmpR op_eq (pe_op op_mod (pe_op op_fdiv (pe_ix ix_list (pv 1) pe_int (fun _ _ => rfl)) pe_int) pe_int) pe_int (nomark _))
      (pss_one (ps_ret (pe_ix ix_tup (pe_tup (pa_cons pe_str (pa_cons pe_str (pa_cons pe_str (pa_cons pe_str (pa_cons pe_str (pa_cons pe_str (pa_cons pe_str pa_nil)))))))) (pe_op op_mod (pe_ix ix_list (pv 1) pe_int (fun _ _ => rfl)) pe_int) (fun _ _ => rfl))))
      pss_nil)
      (pss_one (ps_ret (pe_slice sl_str (pv 2) po_none (po_some (pv 4))))))))), ?_⟩
    refine ⟨_, rfl, _, _, _, rfl, by decide, by decide, by decide, by decide, fun nums p1 H1 n1 k1 q1 ⟨hl, hb⟩ => ?_⟩
    have h0 : 0 < nums.length := by omega
    have h1' : 1 < nums.length := by omega
    refine ⟨⟨_, rfl⟩, _, rfl, _, rfl, p1, _, rfl, .inl (.inl q1), fun p2 n2 => ?_⟩
    generalize h_H2 : upd H1 p2 _ = H2
    have k_H2 : Kp H1 H2 := by rw [← h_H2]; exact .new n2
    have q_H2 := (congrFun h_H2 p2).symm.trans upd_same
    clear h_H2
    have q2 : H2 p2 = some (.lst ((nums.drop 1).map V.int)) := by rw [← cut1]; exact q_H2
    refine ⟨p2, rfl, ⟨_, .inl (.inl q2)⟩, fun D hD => ?_⟩
    refine lc_list (K := K) (a := p2) (xs := (nums.drop 1).map V.int) (fun i H' => Kp H2 H' ∧ ∃ cs : List Nat, H' D = some (.lst ((cs.map one).map V.str)) ∧ cs.length = i ∧ ∀ y ∈ cs, y ∈ abcW.cps.toList) ⟨Kp.new hD, [], upd_same, rfl, by simp⟩ (fun i H' _ ⟨kp, _⟩ => kp.sqL (.inl (.inl q2))) (fun i x H' hi ⟨kp, ss, hs, hn, h1⟩ => ?_) (fun H' ⟨kp, ss, hs, hn, h1⟩ => ?_)
    · have hil : i < 12 := by
        have z := (List.getElem?_eq_some_iff.mp hi).1
        rw [List.length_map, List.length_drop] at z
        omega
      obtain ⟨z, _, rfl, _⟩ := mem_ints hi
      obtain ⟨c, hcm, hc⟩ := at_abc z
      refine ⟨rfl, ?_⟩
      refine ⟨_, rfl, _, _, rfl, rfl, (by show (0 : Int) < 26; decide), abcW, _, c, rfl, rfl, by decide +kernel, hc, (ss.map one).map V.str, hs, szt (by rw [List.length_map, List.length_map]; omega), kp.mut hD, ss ++ [c], ?_, by rw [List.length_append, hn]; rfl, fun y hy => ?_⟩
      · rw [upd_same, List.map_append, List.map_append]
        rfl
      · rcases List.mem_append.mp hy with hy | hy
        · exact h1 y hy
        · rw [List.mem_singleton.mp hy]
          exact hcm
    · rw [List.length_map, List.length_drop] at hn
      have hsum : ((ss.map one).map (·.length)).sum + (ss.map one).length * (Str.ofString "").length ≤ 16777216 := by
        have e2 : (Str.ofString "").length = 0 := by decide +kernel
        rw [sum_ones, e2]
        omega
      refine ⟨_, D, ss.map one, rfl, rfl, .inl (.inl (.inl hs)), hsum, ?_⟩
      have k3 := (k1.trans k_H2).trans kp
      have hp1 : H' p1 = some (.lst (nums.map V.int)) := kp.same _ _ rfl (k_H2.same _ _ rfl q1)
      have hj := join_ones ss
      generalize hJ : Txt.join _ (ss.map one) = J
      have hj : J.cps.toList = ss := by rw [← hJ]; exact hj
      clear hJ
      have z0 : 0 ≤ nums[0] % 12 := Int.emod_nonneg _ (by decide)
      have z1 : nums[0] % 12 < 12 := Int.emod_lt_of_pos _ (by decide)
      refine ⟨_, rfl, p1, _, _, _, rfl, rfl, .inl (.inl hp1), at_int (j := 0) h0, _, _, rfl, rfl, (by show (0 : Int) < 12; decide), _, _, rfl, rfl, ?_⟩
      refine ⟨_, rfl, p1, _, _, _, rfl, rfl, .inl (.inl hp1), at_int (j := 0) h0, _, _, rfl, rfl, ⟨by decide, by decide⟩, _, _, rfl, rfl, (by show (0 : Int) < 5; decide), rfl, _, rfl, iteD (fun c1 => ?_) (fun c1 => ?_)⟩
      · refine ⟨szl (by show 7 ≤ 100000; decide), fun p3 n3 => ?_⟩
        generalize h_H3 : upd H' p3 _ = H3
        have k_H3 : Kp H' H3 := by rw [← h_H3]; exact .new n3
        have q_H3 := (congrFun h_H3 p3).symm.trans upd_same
        clear h_H3
        obtain ⟨t, ht, hat⟩ := at_7 nums[1]
        refine ⟨_, rfl, p1, _, _, _, rfl, rfl, .inl (.inl (k_H3.same _ _ rfl hp1)), at_int (j := 1) h1', _, _, rfl, rfl, (by show (0 : Int) < 7; decide), p3, _, _, _, rfl, rfl, .inl (.inl q_H3), hat, k t H3 (isW_7 t ht) (k3.trans k_H3)⟩
      · refine ⟨_, rfl, _, rfl, _, rfl, J, rfl, ?_, ?_⟩
        · have e : J.length = J.cps.toList.length := by simp [Str.length]
          exact szl (by rw [e, hj]; omega)
        · exact k _ _ (isW_cut (by rw [hj]; omega) (by rw [hj]; exact h1) (by omega) (by omega)) k3
/-! ### _law_book: a phrasebook and its words -/
/-- the law's own map of words: texts to pairs -/
structure DictAt (H : Hp) (d : Addr) (es : List Ent) : Prop where
  wd : H d = some (.dK (kvW es))
  tu : ∀ e ∈ es, H e.2 = some (.tup [.int e.1.2.1, .int e.1.2.2])
theorem DictAt.kp {H H' : Hp} {d : Addr} {es : List Ent} (x : DictAt H d es) (k : Kp H H') : DictAt H' d es := ⟨k.same _ _ rfl x.wd, fun e he => k.same _ _ rfl (x.tu e he)⟩
structure GoodB (bs : List Ent) : Prop where
  ok : ∀ b ∈ bs, isW b.1.1 = true ∧ okP b.1.2.1 b.1.2.2 = true
  own : ∀ b ∈ bs, atP bs b.1.2.1 b.1.2.2 = some b
theorem GoodB.snoc {bs : List Ent} {b : Ent} (g : GoodB bs) (h1 : isW b.1.1 = true) (h2 : okP b.1.2.1 b.1.2.2 = true) (h3 : atP bs b.1.2.1 b.1.2.2 = none) : GoodB (bs ++ [b]) := by
  refine ⟨fun e he => ?_, fun e he => ?_⟩
  · rcases List.mem_append.mp he with he | he
    · exact g.ok e he
    · rw [List.mem_singleton.mp he]
      exact ⟨h1, h2⟩
  · have z : atP (bs ++ [b]) e.1.2.1 e.1.2.2 = (atP bs e.1.2.1 e.1.2.2).or (atP [b] e.1.2.1 e.1.2.2) := by
      unfold atP
      rw [List.find?_append]
    rw [z]
    rcases List.mem_append.mp he with he | he
    · rw [g.own e he]
      rfl
    · rw [List.mem_singleton.mp he, h3]
      unfold atP
      simp
def OwnW (es : List Ent) : Prop := ∀ e ∈ es, atW es e.1.1 = some e
theorem OwnW.snoc {es : List Ent} {b : Ent} (g : OwnW es) (h : atW es b.1.1 = none) : OwnW (es ++ [b]) := by
  intro e he
  have z : atW (es ++ [b]) e.1.1 = (atW es e.1.1).or (atW [b] e.1.1) := by
    unfold atW
    rw [List.find?_append]
  rw [z]
  rcases List.mem_append.mp he with he | he
  · rw [g e he]
    rfl
  · rw [List.mem_singleton.mp he, h]
    unfold atW
    simp
theorem find_any {α : Type} (f : α → Bool) (l : List α) : (l.find? f).isSome = l.any f := by
  rw [Bool.eq_iff_iff, List.find?_isSome, List.any_eq_true]
theorem atP_same {bs es : List Ent} (h : es.map (·.1) = bs.map (·.1)) (a l : Int) : (atP es a l).isSome = (atP bs a l).isSome := by
  have q : ∀ xs : List Ent, (atP xs a l).isSome = (xs.map (·.1)).any fun b => decide (b.2.1 = a ∧ b.2.2 = l) := fun xs => by
    unfold atP
    rw [find_any, List.any_map]
    rfl
  rw [q, q, h]
theorem atW_same {bs es : List Ent} (h : es.map (·.1) = bs.map (·.1)) (t : Str) : (atW es t).isSome = (atW bs t).isSome := by
  have q : ∀ xs : List Ent, (atW xs t).isSome = (xs.map (·.1)).any fun b => decide (b.1 = t) := fun xs => by
    unfold atW
    rw [find_any, List.any_map]
    rfl
  rw [q, q, h]
def dSpot (e : Ent) : PyData := .tuple [.int e.1.2.1, .int e.1.2.2]
theorem dp_spots {K : PySem.W.Frag} {H : Hp} : ∀ {es : List Ent}, (∀ e ∈ es, H e.2 = some (.tup [.int e.1.2.1, .int e.1.2.2])) → DpAll K H (es.map fun e => V.ref e.2) (es.map dSpot)
  | [], _ => .nil
  | e :: r, h => .cons (.tup (.inl (.inl (h e List.mem_cons_self))) (.cons (.int _) (.cons (.int _) .nil))) (dp_spots fun x hx => h x (List.mem_cons_of_mem _ hx))
theorem spots_lay : ∀ es : List Ent, PyData.canLayAll0 (es.map dSpot) = true ∧ PyData.depthAll (es.map dSpot) ≤ 1
  | [] => ⟨rfl, by decide⟩
  | e :: r => by
    have z := spots_lay r
    refine ⟨?_, ?_⟩
    · show (PyData.canLay0 (dSpot e) && PyData.canLayAll0 (r.map dSpot)) = true
      rw [z.1]
      rfl
    · show max (PyData.depth (dSpot e)) (PyData.depthAll (r.map dSpot)) ≤ 1
      exact Nat.max_le.mpr ⟨Nat.le_refl _, z.2⟩
theorem spots_shaped (es : List Ent) : SeqAt.shaped (.list (es.map dSpot)) = true := by
  have z := spots_lay es
  unfold SeqAt.shaped
  have h2 : PyData.depth (.list (es.map dSpot)) ≤ 64 := by
    show PyData.depthAll (es.map dSpot) + 1 ≤ 64
    omega
  have h1 : PyData.canLay0 (.list (es.map dSpot)) = true := z.1
  rw [h1, decide_eq_true h2]
  rfl
theorem spots_any (es : List Ent) (a l : Int) : ((es.map dSpot).any fun z => PyData.eqv z (.tuple [.int a, .int l])) = (atP es a l).isSome := by
  unfold atP
  rw [find_any, List.any_map]
  congr 1
  funext e
  show ((e.1.2.1 == a) && ((e.1.2.2 == l) && true)) = decide (e.1.2.1 = a ∧ e.1.2.2 = l)
  rw [Bool.and_true, Bool.eq_iff_iff]
  simp
theorem okP_of {a l : Int} (h1 : 1 ≤ a) (h2 : a ≤ 40) (h3 : 1 ≤ l) (h4 : l ≤ 40) : okP a l = true := by
  unfold okP
  rw [decide_eq_true h1, decide_eq_true h2, decide_eq_true h3, decide_eq_true h4]
  rfl
theorem BookAt.put {C : Addr} {H : Hp} {p d1 d2 d : Addr} {bs : List Ent} {o : HO} {kvs : List (Key × V)} (b : BookAt C H p d1 d2 bs) (hd : H d = some (.dK kvs)) (ne : d2 ≠ d) : BookAt C (upd H d o) p d1 d2 bs := by
  obtain ⟨dx, h⟩ := b.ob
  refine ⟨⟨dx, ?_⟩, ?_, ?_, fun e he => ?_⟩
  · rw [upd_ne (ne_of h hd (by intro z; cases z))]
    exact h
  · rw [upd_ne (ne_of b.pl hd (by intro z; cases z))]
    exact b.pl
  · rw [upd_ne ne]
    exact b.wd
  · have q := b.tu e he
    rw [upd_ne (ne_of q hd (by intro z; cases z))]
    exact q
theorem DictAt.kpE {H H' : Hp} {d d1 d2 : Addr} {es : List Ent} {kvs : List (List Key × V)} {kws : List (Key × V)} (x : DictAt H d es) (h1 : H d1 = some (.dT kvs)) (h2 : H d2 = some (.dK kws)) (ne : d2 ≠ d) (k : KpE [d1, d2] H H') : DictAt H' d es := by
  refine ⟨k.same _ _ rfl ?_ x.wd, fun e he => k.same _ _ rfl ?_ (x.tu e he)⟩
  · intro m
    rcases List.mem_cons.mp m with m | m
    · have z := x.wd
      rw [m, h1] at z
      cases z
    · exact ne (List.mem_singleton.mp m).symm
  · intro m
    have q := x.tu e he
    rcases List.mem_cons.mp m with m | m
    · rw [m, h1] at q
      cases q
    · rw [List.mem_singleton.mp m, h2] at q
      cases q
theorem kvW_at {es : List Ent} {i : Nat} {k : Key} {v : V} (h : (kvW es)[i]? = some (k, v)) : ∃ e, es[i]? = some e ∧ k = Sum.inr e.1.1 ∧ v = V.ref e.2 := by
  unfold kvW at h
  rw [List.getElem?_map] at h
  cases e : es[i]? with
  | none =>
    rw [e] at h
    cases h
  | some b =>
    rw [e] at h
    have z := Option.some.inj h
    rw [Prod.mk.injEq] at z
    exact ⟨b, rfl, z.1.symm, z.2.symm⟩
def sp_l_book (K : PySem.W.Frag) (P C : Addr) : Sp := fun vs H Q _ => ∃ (a : Addr) (ns : List Int) (j : Nat), vs = [.ref a, .int (j : Int)] ∧ SqL K H a (ns.map V.int) ∧ j ≤ 1000 ∧ GxR.TabG H P ∧
  ∀ (x p d1 d2 dw : Addr) (bs es : List Ent) (H' : Hp), Kp H H' → H p = none → H d1 = none → H d2 = none → H dw = none → d2 ≠ dw → BookAt C H' p d1 d2 bs → DictAt H' dw es → es.map (·.1) = bs.map (·.1) → GoodB bs → OwnW es → bs.length ≤ 9 → SqT K H' x [.ref p, .ref dw] → Q (.ref x) H'
theorem ok_l_book (T : Txt K mg) (TB : GxR.TabB base mg T.c_tab T.P_tab) : FnOk P w K mg base CX0 6 T.f_l_book T.d_l_book ["_law_script", "_law_at"] (sp_l_book K T.P_tab T.a_Phrasebook) := by
  refine T.F_l_book.ok sc_l_book (fun vs H Q E h => ?_) (fun cdv A outer s H vs Q E hr h => ?_)
  · obtain ⟨a, ns, j, rfl, _⟩ := h
    rfl
  · obtain ⟨a, ns, j, rfl, hS, hj, hT, k⟩ := h
    have hu := hu_of hr
    refine ⟨_, (pss_cons (ps_set (i := 2) sc_l_book.nd rfl (by first | exact Or.inl rfl | exact Or.inr rfl) (pe_make0 T.K_Phrasebook (ok_p_Phrasebook_init T) (hr.mono (by decide)) rfl T.g_Phrasebook T.b_p_Phrasebook_init .nil pass0))
      (pss_cons (ps_set (i := 3) sc_l_book.nd rfl (by first | exact Or.inl rfl | exact Or.inr rfl) pe_dnewK)
      (pss_cons (ps_for PassesOwn.never rfl (pi_range1 (by rfl) T.m_range (pa_cons (pe_op op_add pe_int (pe_op op_mod (pe_call (ok_l_cell T) (hr.mono (by decide)) rfl T.g_l_cell T.F_l_cell.kp T.b_l_cell .nil pass0 (pa_cons (pv 0) (pa_cons (pv 1) pa_nil))) pe_int)) pa_nil)) (pg_name (i := 4) sc_l_book.nd rfl (by first | exact Or.inl rfl | exact Or.inr rfl))
      (pss_cons (ps_set (i := 5) sc_l_book.nd rfl (by first | exact Or.inl rfl | exact Or.inr rfl) (pe_call (ok_l_row T) (hr.mono (by decide)) rfl T.g_l_row T.F_l_row.kp T.b_l_row .nil pass0 (pa_cons (pe_op op_add (pe_call (ok_l_cell T) (hr.mono (by decide)) rfl T.g_l_cell T.F_l_cell.kp T.b_l_cell .nil pass0 (pa_cons (pv 0) (pa_cons (pe_op op_add (pv 1) pe_int) pa_nil))) (pe_op op_mul pe_int (pv 4))) (pa_cons pe_int (pa_cons pe_int pa_nil)))))
      (pss_cons (ps_set (i := 6) sc_l_book.nd rfl (by first | exact Or.inl rfl | exact Or.inr rfl) (pe_call (ok_l_word T) (hr.mono (by decide)) rfl T.g_l_word T.F_l_word.kp T.b_l_word .nil pass0 (pa_cons (pe_ix ix_list (pv 5) pe_int (fun _ _ => rfl)) pa_nil)))
      (pss_cons (ps_set (i := 7) sc_l_book.nd rfl (by first | exact Or.inl rfl | exact Or.inr rfl) (pe_tup (pa_cons (pe_op op_add pe_int (pe_op op_mod (pe_ix ix_list (pv 5) pe_int (fun _ _ => rfl)) pe_int)) (pa_cons (pe_op op_add pe_int (pe_op op_mod (pe_ix ix_list (pv 5) pe_int (fun _ _ => rfl)) pe_int)) pa_nil))))
      (pss_cons (ps_if (pt_cmpR op_eq (pe_op op_mod (pe_op op_fdiv (pe_ix ix_list (pv 5) pe_int (fun _ _ => rfl)) pe_int) pe_int) pe_int (nomark _))
      (pss_one (ps_set (i := 7) sc_l_book.nd rfl (by first | exact Or.inl rfl | exact Or.inr rfl) (pe_tup (pa_cons (pe_op op_add pe_int (pe_op op_mod (pe_op op_fdiv (pe_ix ix_list (pv 5) pe_int (fun _ _ => rfl)) pe_int) pe_int)) (pa_cons (pe_op op_add pe_int (pe_op op_mod (pe_op op_fdiv (pe_ix ix_list (pv 5) pe_int (fun _ _ => rfl)) pe_int) pe_int)) pa_nil)))))
      pss_nil)
      (pss_one (ps_if (PW.pt (pw_and (pt_cmp (pc_dnotin hu (pv 6) (pv 3))) (pw_and1 (pt_cmpR (op_notInD (hu65 hr)) (pv 7) (pe_lock (pe_lc (own := [("_law_one", 8)]) (g := gName 8) (tt := tYes) (by rfl) sc_l_book.nd (pi_keys (pv 3)) (blkOk_by (own := [("_law_one", 8)]) (N := ["_law_script", "_law_at", "_law_book_here", "_law_words", "_law_k", "_law_nums", "_law_word_here", "_law_spot", "_law_one"]) (sc := defScope s_l_book) (by decide +kernel)) (fun _ _ _ _ _ => (pg_name (i := 8) sc_l_book.nd rfl (by first | exact Or.inl rfl | exact Or.inr rfl))) (fun _ _ _ _ _ => pts_nil) (fun _ _ _ _ _ => (pe_dget hu (pv 3) (pv 8) (fun _ _ => rfl))))) rfl))))
      (pss_cons (ps_dput hu (pv 3) (pv 6) (pv 7) rfl)
      (pss_one (ps_expr (pe_meth (pv 2) T.cl_Phrasebook T.M_p_Phrasebook_enter (ok_p_Phrasebook_enter T TB) (hr.mono (by decide)) T.b_p_Phrasebook_enter .nil passL (pa_cons (pe_ix ix_tup (pv 7) pe_int (fun _ _ => rfl)) (pa_cons (pe_ix ix_tup (pv 7) pe_int (fun _ _ => rfl)) (pa_cons (pv 6) pa_nil)))))))
      pss_nil)))))))
      (pss_one (ps_ret (pe_tup (pa_cons (pv 2) (pa_cons (pv 3) pa_nil)))))))), ?_⟩
    intro x dx nx ndx ne
    have k0 : Kp H (upd (upd H dx (.own x)) x (.ins T.a_Phrasebook dx [])) := (Kp.new ndx).trans (.new (by rw [upd_ne ne.symm]; exact nx))
    refine ⟨x, dx, rfl, upd_same, fun d1 d2 H1 f1 f2 B1 e1 => ⟨rfl, ?_⟩⟩
    have k1 : Kp H H1 := kp_made nx ndx ne e1
    have g1 : H d1 = none := k0.free _ f1
    have g2 : H d2 = none := k0.free _ f2
    intro dw ndw
    have gw : H dw = none := k1.free _ ndw
    have new : d2 ≠ dw := ne_of_none B1.wd ndw
    generalize h_H2 : upd H1 dw _ = H2
    have k_H2 : Kp H1 H2 := by rw [← h_H2]; exact .new ndw
    have q_H2 := (congrFun h_H2 dw).symm.trans upd_same
    clear h_H2
    have z0 : 0 ≤ cellV ns j % 9 := Int.emod_nonneg _ (by decide)
    have z1 : cellV ns j % 9 < 9 := Int.emod_lt_of_pos _ (by decide)
    refine ⟨_, rfl, _, rfl, a, ns, j, rfl, (k1.trans k_H2).sqL hS, by omega, _, _, rfl, rfl, (by show (0 : Int) < 9; decide), _, _, rfl, rfl, (1 : Int) + cellV ns j % 9, rfl, by omega, by omega, ?_⟩
    refine for_range (lo := 0) (n := ((1 : Int) + cellV ns j % 9).toNat) (fun i σ H' => ∃ (bs es : List Ent) (y4 y5 y6 y7 y8 : Option V), σ = [some (.ref a), some (.int (j : Int)), some (.ref x), some (.ref dw), y4, y5, y6, y7, y8] ∧ Kp H H' ∧ BookAt T.a_Phrasebook H' x d1 d2 bs ∧ DictAt H' dw es ∧ es.map (·.1) = bs.map (·.1) ∧ GoodB bs ∧ OwnW es ∧ bs.length ≤ i)
      ⟨[], [], none, none, none, none, none, rfl, k1.trans k_H2, B1.kp k_H2, ⟨q_H2, by simp⟩, rfl, ⟨by simp, by simp⟩, (by intro e he; cases he), Nat.le_refl _⟩ ?_ ?_
    · rintro i σ H' hi ⟨bs, es, y4, y5, y6, y7, y8, rfl, kp, hBk, hDi, hes, hG, hO, hbl⟩
      refine ⟨_, rfl, _, rfl, _, _, rfl, rfl, a, ns, j + 1, rfl, kp.sqL hS, by omega, _, rfl, _, _, rfl, rfl, .inl ⟨by decide, by decide⟩, _, _, rfl, rfl, _, _, _, rfl, by decide, by decide, by decide, by decide, fun nums p1 H3 n1 k3 q1 ⟨hl, hb⟩ => ?_⟩
      have h0 : 0 < nums.length := by omega
      have h1 : 1 < nums.length := by omega
      have h2 : 2 < nums.length := by omega
      refine ⟨_, rfl, p1, _, _, _, rfl, rfl, .inl (.inl q1), at_int (j := 0) h0, nums[0], rfl, fun t H4 ht k4 => ?_⟩
      have q4 := k4.same _ _ rfl q1
      refine ⟨_, rfl, p1, _, _, _, rfl, rfl, .inl (.inl q4), at_int (j := 1) h1, _, _, rfl, rfl, (by show (0 : Int) < 3; decide), _, _, rfl, rfl, _, rfl, p1, _, _, _, rfl, rfl, .inl (.inl q4), at_int (j := 2) h2, _, _, rfl, rfl, (by show (0 : Int) < 40; decide), _, _, rfl, rfl, szl (by show 2 ≤ 100000; decide), fun u nu => ?_⟩
      generalize h_H5 : upd H4 u _ = H5
      have k_H5 : Kp H4 H5 := by rw [← h_H5]; exact .new nu
      have q_H5 := (congrFun h_H5 u).symm.trans upd_same
      clear h_H5
      have q5 := k_H5.same _ _ rfl q4
      have k5 := (k3.trans k4).trans k_H5
      have tl : t.length ≤ 1000 := by
        have z := (isW_len ht).2
        omega
      refine ⟨_, rfl, p1, _, _, _, rfl, rfl, .inl (.inl q5), at_int (j := 1) h1, _, _, rfl, rfl, ⟨by decide, by decide⟩, _, _, rfl, rfl, (by show (0 : Int) < 4; decide), rfl, _, rfl, iteD (fun c1 => ?_) (fun c1 => ?_)⟩
      · refine ⟨_, rfl, p1, _, _, _, rfl, rfl, .inl (.inl q5), at_int (j := 1) h1, _, _, rfl, rfl, ⟨by decide, by decide⟩, _, _, rfl, rfl, (by show (0 : Int) < 40; decide), _, _, rfl, rfl, _, rfl, p1, _, _, _, rfl, rfl, .inl (.inl q5), at_int (j := 2) h2, _, _, rfl, rfl, ⟨by decide, by decide⟩, _, _, rfl, rfl, (by show (0 : Int) < 40; decide), _, _, rfl, rfl, szl (by show 2 ≤ 100000; decide), fun u2 nu2 => ?_⟩
        generalize h_H6 : upd H5 u2 _ = H6
        have k_H6 : Kp H5 H6 := by rw [← h_H6]; exact .new nu2
        have q_H6 := (congrFun h_H6 u2).symm.trans upd_same
        clear h_H6
        have k6 := k5.trans k_H6
        have okp : okP ((1 : Int) + nums[1] / 12 % 40) ((1 : Int) + nums[2] / 40 % 40) = true := okP_of (by have := Int.emod_nonneg (nums[1] / 12) (b := 40) (by decide); omega) (by have := Int.emod_lt_of_pos (nums[1] / 12) (b := 40) (by decide); omega) (by have := Int.emod_nonneg (nums[2] / 40) (b := 40) (by decide); omega) (by have := Int.emod_lt_of_pos (nums[2] / 40) (b := 40) (by decide); omega)
        have WU := hDi.kp k6
        have BU := hBk.kp k6
        cases ew : atW es t with
        | some e0 =>
          refine ⟨_, rfl, _, rfl, dw, _, rfl, DGet.k (k := Sum.inr t) WU.wd, _, rfl, iteFo (by rw [valW, ew]; rfl) (iteF ?_)⟩
          exact ⟨bs, es, _, _, _, _, _, rfl, kp.trans k6, BU, WU, hes, hG, hO, by omega⟩
        | none =>
          refine ⟨_, rfl, _, rfl, dw, _, rfl, DGet.k (k := Sum.inr t) WU.wd, _, rfl, iteTo (by rw [valW, ew]; rfl) ?_⟩
          refine ⟨_, rfl, dw, _, WU.wd, trivial, fun od => ?_⟩
          refine ⟨_, rfl, dw, od, rfl, .inl ⟨kvW es, upd_same, fun D hD => ?_⟩⟩
          have hel : es.length = bs.length := by
            have z := congrArg List.length hes
            rw [List.length_map, List.length_map] at z
            exact z
          refine lc_it (walk_keys (d := dw) (o := od) (kvs := kvW es)) (fun i H' => Kp (upd H6 dw (.frz od (.dK (kvW es)))) H' ∧ H' D = some (.lst ((es.take i).map fun e => V.ref e.2))) ⟨Kp.new hD, upd_same⟩ (fun i H' _ ⟨kk, _⟩ => kk.same _ _ rfl upd_same) (fun i x H7 H8 hi2 ⟨kk, hl7⟩ ⟨e8, ky, v, hkv, hx⟩ => ?_) (fun H7 ⟨kk, hl7⟩ => ?_)
          · subst e8
            subst hx
            obtain ⟨e, he, rfl, rfl⟩ := kvW_at hkv
            refine ⟨rfl, ?_⟩
            refine ⟨_, rfl, _, rfl, dw, _, rfl, .inl ⟨kvW es, Sum.inr e.1.1, .inr ⟨od, kk.same _ _ rfl upd_same⟩, rfl, (by rw [valW, hO e (List.mem_of_getElem? he)]; rfl)⟩, _, hl7, szt (by rw [List.length_map, List.length_take]; omega), kk.mut hD, ?_⟩
            rw [upd_same, take_snoc he, List.map_append]
            rfl
          · have ekl : (kvW es).length = es.length := by unfold kvW; rw [List.length_map]
            rw [ekl, List.take_length] at hl7
            refine ⟨kk.same _ _ rfl upd_same, ?_⟩
            have ku := Kp.unlock WU.wd rfl kk
            have nDw : D ≠ dw := fun z => by
              rw [z, upd_same] at hD
              cases hD
            have hD9 : upd H7 dw (.dK (kvW es)) D = some (.lst (es.map fun e => V.ref e.2)) := by
              rw [upd_ne nDw]
              exact hl7
            generalize upd H7 dw (.dK (kvW es)) = H9 at ku hD9 ⊢
            have W9 := WU.kp ku
            have B9 := BU.kp ku
            have u9 : H9 u2 = some (.tup [.int ((1 : Int) + nums[1] / 12 % 40), .int ((1 : Int) + nums[2] / 40 % 40)]) := ku.same _ _ rfl q_H6
            refine ⟨.tuple [.int ((1 : Int) + nums[1] / 12 % 40), .int ((1 : Int) + nums[2] / 40 % 40)], es.map dSpot, .tup (.inl (.inl u9)) (.cons (.int _) (.cons (.int _) .nil)), .lst (.inl (.inl hD9)) (dp_spots W9.tu), rfl, spots_shaped es, _, rfl, ?_⟩
            rw [spots_any, atP_same hes]
            cases ep : atP bs ((1 : Int) + nums[1] / 12 % 40) ((1 : Int) + nums[2] / 40 % 40) with
            | some b0 =>
              exact iteFo rfl ⟨bs, es, _, _, _, _, _, rfl, kp.trans (k6.trans ku), B9, W9, hes, hG, hO, by omega⟩
            | none =>
              refine iteTo rfl ?_
              refine ⟨_, rfl, _, rfl, _, rfl, dw, _, rfl, DPut.k (k := Sum.inr t) W9.wd (szt (by rw [ekl]; omega)), ?_⟩
              have eW : putK (kvW es) (Sum.inr t) (V.ref u2) = kvW (es ++ [((t, ((1 : Int) + nums[1] / 12 % 40), ((1 : Int) + nums[2] / 40 % 40)), u2)]) := by
                rw [putK_new _ (by rw [valW, ew]; rfl)]
                unfold kvW
                rw [List.map_append]
                rfl
              rw [eW]
              have B10 := B9.put (o := .dK (kvW (es ++ [((t, ((1 : Int) + nums[1] / 12 % 40), ((1 : Int) + nums[2] / 40 % 40)), u2)]))) W9.wd new
              have k10 : Kp H (upd H9 dw (.dK (kvW (es ++ [((t, ((1 : Int) + nums[1] / 12 % 40), ((1 : Int) + nums[2] / 40 % 40)), u2)])))) := (kp.trans (k6.trans ku)).mut gw
              have nuw : u2 ≠ dw := ne_of u9 W9.wd (by intro z; cases z)
              have u10 : upd H9 dw (.dK (kvW (es ++ [((t, ((1 : Int) + nums[1] / 12 % 40), ((1 : Int) + nums[2] / 40 % 40)), u2)]))) u2 = some (.tup [.int ((1 : Int) + nums[1] / 12 % 40), .int ((1 : Int) + nums[2] / 40 % 40)]) := by
                rw [upd_ne nuw]
                exact u9
              have D10 : DictAt (upd H9 dw (.dK (kvW (es ++ [((t, ((1 : Int) + nums[1] / 12 % 40), ((1 : Int) + nums[2] / 40 % 40)), u2)])))) dw (es ++ [((t, ((1 : Int) + nums[1] / 12 % 40), ((1 : Int) + nums[2] / 40 % 40)), u2)]) := by
                refine ⟨upd_same, fun e he => ?_⟩
                rcases List.mem_append.mp he with he | he
                · have q := W9.tu e he
                  rw [upd_ne (ne_of q W9.wd (by intro z; cases z))]
                  exact q
                · rw [List.mem_singleton.mp he]
                  exact u10
              obtain ⟨dx1, hx1⟩ := B10.ob
              refine ⟨_, rfl, x, dx1, _, rfl, hx1, flds_no _ _ (by decide +kernel) (by decide +kernel), _, rfl, u2, _, _, _, rfl, rfl, .inl (.inl u10), rfl, _, rfl, u2, _, _, _, rfl, rfl, .inl (.inl u10), rfl, _, rfl, x, d1, d2, bs, ((1 : Int) + nums[1] / 12 % 40), ((1 : Int) + nums[2] / 40 % 40), t, rfl, B10, by omega, tl, k10.tab _ hT, fun _ u3 H11 e11 B11 => ?_, fun y hy => ?_⟩
              · refine ⟨bs ++ [((t, ((1 : Int) + nums[1] / 12 % 40), ((1 : Int) + nums[2] / 40 % 40)), u3)], es ++ [((t, ((1 : Int) + nums[1] / 12 % 40), ((1 : Int) + nums[2] / 40 % 40)), u2)], _, _, _, _, _, rfl, KpE.kp k10 e11 ?_, B11, D10.kpE B10.pl B10.wd new e11, ?_, hG.snoc ht okp ep, hO.snoc ew, ?_⟩
                · intro b hb
                  rcases List.mem_cons.mp hb with hb | hb
                  · rw [hb]
                    exact g1
                  · rw [List.mem_singleton.mp hb]
                    exact g2
                · rw [List.map_append, List.map_append, hes]
                  rfl
                · rw [List.length_append]
                  show bs.length + 1 ≤ i + 1
                  omega
              · exfalso
                have z := atW_same hes t
                rw [ew] at z
                unfold enterV at hy
                rw [if_neg (by rw [okp]; decide), if_neg (by rw [ht]; decide), ep, if_neg (by decide), if_neg (by rw [← z]; decide)] at hy
                cases hy
      · have okp : okP ((1 : Int) + nums[1] % 3) ((1 : Int) + nums[2] % 40) = true := okP_of (by have := Int.emod_nonneg nums[1] (b := 3) (by decide); omega) (by have := Int.emod_lt_of_pos nums[1] (b := 3) (by decide); omega) (by have := Int.emod_nonneg nums[2] (b := 40) (by decide); omega) (by have := Int.emod_lt_of_pos nums[2] (b := 40) (by decide); omega)
        have WU := hDi.kp k5
        have BU := hBk.kp k5
        cases ew : atW es t with
        | some e0 =>
          refine ⟨_, rfl, _, rfl, dw, _, rfl, DGet.k (k := Sum.inr t) WU.wd, _, rfl, iteFo (by rw [valW, ew]; rfl) (iteF ?_)⟩
          exact ⟨bs, es, _, _, _, _, _, rfl, kp.trans k5, BU, WU, hes, hG, hO, by omega⟩
        | none =>
          refine ⟨_, rfl, _, rfl, dw, _, rfl, DGet.k (k := Sum.inr t) WU.wd, _, rfl, iteTo (by rw [valW, ew]; rfl) ?_⟩
          refine ⟨_, rfl, dw, _, WU.wd, trivial, fun od => ?_⟩
          refine ⟨_, rfl, dw, od, rfl, .inl ⟨kvW es, upd_same, fun D hD => ?_⟩⟩
          have hel : es.length = bs.length := by
            have z := congrArg List.length hes
            rw [List.length_map, List.length_map] at z
            exact z
          refine lc_it (walk_keys (d := dw) (o := od) (kvs := kvW es)) (fun i H' => Kp (upd H5 dw (.frz od (.dK (kvW es)))) H' ∧ H' D = some (.lst ((es.take i).map fun e => V.ref e.2))) ⟨Kp.new hD, upd_same⟩ (fun i H' _ ⟨kk, _⟩ => kk.same _ _ rfl upd_same) (fun i x H7 H8 hi2 ⟨kk, hl7⟩ ⟨e8, ky, v, hkv, hx⟩ => ?_) (fun H7 ⟨kk, hl7⟩ => ?_)
          · subst e8
            subst hx
            obtain ⟨e, he, rfl, rfl⟩ := kvW_at hkv
            refine ⟨rfl, ?_⟩
            refine ⟨_, rfl, _, rfl, dw, _, rfl, .inl ⟨kvW es, Sum.inr e.1.1, .inr ⟨od, kk.same _ _ rfl upd_same⟩, rfl, (by rw [valW, hO e (List.mem_of_getElem? he)]; rfl)⟩, _, hl7, szt (by rw [List.length_map, List.length_take]; omega), kk.mut hD, ?_⟩
            rw [upd_same, take_snoc he, List.map_append]
            rfl
          · have ekl : (kvW es).length = es.length := by unfold kvW; rw [List.length_map]
            rw [ekl, List.take_length] at hl7
            refine ⟨kk.same _ _ rfl upd_same, ?_⟩
            have ku := Kp.unlock WU.wd rfl kk
            have nDw : D ≠ dw := fun z => by
              rw [z, upd_same] at hD
              cases hD
            have hD9 : upd H7 dw (.dK (kvW es)) D = some (.lst (es.map fun e => V.ref e.2)) := by
              rw [upd_ne nDw]
              exact hl7
            generalize upd H7 dw (.dK (kvW es)) = H9 at ku hD9 ⊢
            have W9 := WU.kp ku
            have B9 := BU.kp ku
            have u9 : H9 u = some (.tup [.int ((1 : Int) + nums[1] % 3), .int ((1 : Int) + nums[2] % 40)]) := ku.same _ _ rfl q_H5
            refine ⟨.tuple [.int ((1 : Int) + nums[1] % 3), .int ((1 : Int) + nums[2] % 40)], es.map dSpot, .tup (.inl (.inl u9)) (.cons (.int _) (.cons (.int _) .nil)), .lst (.inl (.inl hD9)) (dp_spots W9.tu), rfl, spots_shaped es, _, rfl, ?_⟩
            rw [spots_any, atP_same hes]
            cases ep : atP bs ((1 : Int) + nums[1] % 3) ((1 : Int) + nums[2] % 40) with
            | some b0 =>
              exact iteFo rfl ⟨bs, es, _, _, _, _, _, rfl, kp.trans (k5.trans ku), B9, W9, hes, hG, hO, by omega⟩
            | none =>
              refine iteTo rfl ?_
              refine ⟨_, rfl, _, rfl, _, rfl, dw, _, rfl, DPut.k (k := Sum.inr t) W9.wd (szt (by rw [ekl]; omega)), ?_⟩
              have eW : putK (kvW es) (Sum.inr t) (V.ref u) = kvW (es ++ [((t, ((1 : Int) + nums[1] % 3), ((1 : Int) + nums[2] % 40)), u)]) := by
                rw [putK_new _ (by rw [valW, ew]; rfl)]
                unfold kvW
                rw [List.map_append]
                rfl
              rw [eW]
              have B10 := B9.put (o := .dK (kvW (es ++ [((t, ((1 : Int) + nums[1] % 3), ((1 : Int) + nums[2] % 40)), u)]))) W9.wd new
              have k10 : Kp H (upd H9 dw (.dK (kvW (es ++ [((t, ((1 : Int) + nums[1] % 3), ((1 : Int) + nums[2] % 40)), u)])))) := (kp.trans (k5.trans ku)).mut gw
              have nuw : u ≠ dw := ne_of u9 W9.wd (by intro z; cases z)
              have u10 : upd H9 dw (.dK (kvW (es ++ [((t, ((1 : Int) + nums[1] % 3), ((1 : Int) + nums[2] % 40)), u)]))) u = some (.tup [.int ((1 : Int) + nums[1] % 3), .int ((1 : Int) + nums[2] % 40)]) := by
                rw [upd_ne nuw]
                exact u9
              have D10 : DictAt (upd H9 dw (.dK (kvW (es ++ [((t, ((1 : Int) + nums[1] % 3), ((1 : Int) + nums[2] % 40)), u)])))) dw (es ++ [((t, ((1 : Int) + nums[1] % 3), ((1 : Int) + nums[2] % 40)), u)]) := by
                refine ⟨upd_same, fun e he => ?_⟩
                rcases List.mem_append.mp he with he | he
                · have q := W9.tu e he
                  rw [upd_ne (ne_of q W9.wd (by intro z; cases z))]
                  exact q
                · rw [List.mem_singleton.mp he]
                  exact u10
              obtain ⟨dx1, hx1⟩ := B10.ob
              refine ⟨_, rfl, x, dx1, _, rfl, hx1, flds_no _ _ (by decide +kernel) (by decide +kernel), _, rfl, u, _, _, _, rfl, rfl, .inl (.inl u10), rfl, _, rfl, u, _, _, _, rfl, rfl, .inl (.inl u10), rfl, _, rfl, x, d1, d2, bs, ((1 : Int) + nums[1] % 3), ((1 : Int) + nums[2] % 40), t, rfl, B10, by omega, tl, k10.tab _ hT, fun _ u3 H11 e11 B11 => ?_, fun y hy => ?_⟩
              · refine ⟨bs ++ [((t, ((1 : Int) + nums[1] % 3), ((1 : Int) + nums[2] % 40)), u3)], es ++ [((t, ((1 : Int) + nums[1] % 3), ((1 : Int) + nums[2] % 40)), u)], _, _, _, _, _, rfl, KpE.kp k10 e11 ?_, B11, D10.kpE B10.pl B10.wd new e11, ?_, hG.snoc ht okp ep, hO.snoc ew, ?_⟩
                · intro b hb
                  rcases List.mem_cons.mp hb with hb | hb
                  · rw [hb]
                    exact g1
                  · rw [List.mem_singleton.mp hb]
                    exact g2
                · rw [List.map_append, List.map_append, hes]
                  rfl
                · rw [List.length_append]
                  show bs.length + 1 ≤ i + 1
                  omega
              · exfalso
                have z := atW_same hes t
                rw [ew] at z
                unfold enterV at hy
                rw [if_neg (by rw [okp]; decide), if_neg (by rw [ht]; decide), ep, if_neg (by decide), if_neg (by rw [← z]; decide)] at hy
                cases hy
    · rintro σ H' ⟨bs, es, y4, y5, y6, y7, y8, rfl, kp, hBk, hDi, hes, hG, hO, hbl⟩
      refine ⟨_, rfl, _, rfl, szl (by show 2 ≤ 100000; decide), fun u nu => ?_⟩
      generalize h_H3 : upd H' u _ = H3
      have k_H3 : Kp H' H3 := by rw [← h_H3]; exact .new nu
      have q_H3 := (congrFun h_H3 u).symm.trans upd_same
      clear h_H3
      exact k u x d1 d2 dw bs es H3 (kp.trans k_H3) nx g1 g2 gw new (hBk.kp k_H3) (hDi.kp k_H3) hes hG hO (by omega) (.inl (.inl q_H3))
/-! ### _law_some_words -/
theorem at_strs_mod {ys : List Str} {m : Int} (h : (0 : Int) < ((ys.map V.str).length : Int)) : ∃ y ∈ ys, atI (ys.map V.str) (m % ((ys.map V.str).length : Int)) = some (.str y) := by
  rw [List.length_map] at h ⊢
  have h0 : 0 ≤ m % (ys.length : Int) := Int.emod_nonneg _ (by omega)
  have h1 : m % (ys.length : Int) < (ys.length : Int) := Int.emod_lt_of_pos _ h
  have hj : (m % (ys.length : Int)).toNat < ys.length := by omega
  refine ⟨ys[(m % (ys.length : Int)).toNat], List.getElem_mem _, ?_⟩
  have e := atI_nat (xs := ys.map V.str) (j := (m % (ys.length : Int)).toNat) (v := .str ys[(m % (ys.length : Int)).toNat]) (by rw [List.getElem?_map, List.getElem?_eq_getElem hj]; rfl)
  rw [Int.toNat_of_nonneg h0] at e
  exact e
def sp_l_some_words (K : PySem.W.Frag) : Sp := fun vs H Q _ => ∃ (dw : Addr) (es : List Ent) (c most : Int), vs = [.ref dw, .int c, .int most] ∧ DictAt H dw es ∧ es.length < 64 ∧ (∀ e ∈ es, isW e.1.1 = true) ∧ 0 ≤ most ∧ most ≤ 1000 ∧
  ∀ (ws : List Str) (r : Addr) (H' : Hp), (∀ t ∈ ws, isW t = true) → ws.length ≤ 41 → H r = none → Kp H H' → H' r = some (.lst (ws.map V.str)) → Q (.ref r) H'
theorem ok_l_some_words (T : Txt K mg) : FnOk P w K mg base CX0 3 T.f_l_some_words T.d_l_some_words ["_law_words", "_law_cell_here", "_law_most"] (sp_l_some_words K) := by
  refine T.F_l_some_words.ok sc_l_some_words (fun vs H Q E h => ?_) (fun cdv A outer s H vs Q E hr h => ?_)
  · obtain ⟨dw, es, c, most, rfl, _⟩ := h
    rfl
  · obtain ⟨dw, es, c, most, rfl, hD, hel, hew, hm0, hm1, k⟩ := h
    refine ⟨_, (pss_cons (ps_set (i := 3) sc_l_some_words.nd rfl (by first | exact Or.inl rfl | exact Or.inr rfl) (pe_call (ok_l_row T) (hr.mono (by decide)) rfl T.g_l_row T.F_l_row.kp T.b_l_row .nil pass0 (pa_cons (pv 1) (pa_cons pe_int (pa_cons pe_int pa_nil)))))
      (pss_cons (ps_set (i := 4) sc_l_some_words.nd rfl (by first | exact Or.inl rfl | exact Or.inr rfl) (pe_callB (call_sortedD rfl) (by rfl) T.m_sorted PyProof.Rows.boot_sorted (pa_cons (pv 0) pa_nil)))
      (pss_cons (ps_set (i := 5) sc_l_some_words.nd rfl (by first | exact Or.inl rfl | exact Or.inr rfl) (pe_lst pa_nil))
      (pss_cons (ps_for PassesOwn.never rfl (pi_list (pe_slice sl_list (pv 3) (po_some pe_int) (po_some (pe_op op_add pe_int (pe_op op_mod (pe_ix ix_list (pv 3) pe_int (fun _ _ => rfl)) (pe_op op_add (pv 2) pe_int)))))) (pg_name (i := 6) sc_l_some_words.nd rfl (by first | exact Or.inl rfl | exact Or.inr rfl))
      (pss_cons (ps_set (i := 7) sc_l_some_words.nd rfl (by first | exact Or.inl rfl | exact Or.inr rfl) (pe_call (ok_l_word T) (hr.mono (by decide)) rfl T.g_l_word T.F_l_word.kp T.b_l_word .nil pass0 (pa_cons (pe_op op_add (pe_op op_mul (pv 6) pe_int) (pe_ix ix_list (pv 3) pe_int (fun _ _ => rfl))) pa_nil)))
      (pss_cons (ps_if (PW.pt (pw_and (pt_cmpR op_gt (pe_op op_mod (pv 6) pe_int) pe_int (nomark _)) (pw_and1 (pt_cmpR op_gt (pe_callB call_len_seq (by rfl) T.m_len PySem.boot_len (pa_cons (pv 4) pa_nil)) pe_int (nomark _)))))
      (pss_one (ps_set (i := 7) sc_l_some_words.nd rfl (by first | exact Or.inl rfl | exact Or.inr rfl) (pe_ix ix_list (pv 4) (pe_op op_mod (pe_op op_fdiv (pv 6) pe_int) (pe_callB call_len_seq (by rfl) T.m_len PySem.boot_len (pa_cons (pv 4) pa_nil))) (fun _ _ => rfl))))
      pss_nil)
      (pss_one (ps_expr (pe_bm PySem.F.plainAttrs_list PySem.F.slot_list_append PySem.F.type_list_append mt_append (pv 5) (pa_cons (pv 7) pa_nil)))))))
      (pss_one (ps_ret (pv 5))))))), ?_⟩
    refine ⟨_, rfl, _, _, _, rfl, by decide, by decide, by decide, by decide, fun nums p1 H1 n1 k1 q1 ⟨hl, hb⟩ => ?_⟩
    have h0 : 0 < nums.length := by omega
    have D1 := hD.kp k1
    refine ⟨_, rfl, dw, _, es.map fun e => e.1.1, rfl, .inl D1.wd, (by unfold kvW; rw [List.map_map, List.map_map]; rfl), by rw [List.length_map]; exact hel, fun ys p2 hperm _ n2 => ?_⟩
    generalize h_H2 : upd H1 p2 _ = H2
    have k_H2 : Kp H1 H2 := by rw [← h_H2]; exact .new n2
    have q_H2 := (congrFun h_H2 p2).symm.trans upd_same
    clear h_H2
    have hyw : ∀ y ∈ ys, isW y = true := fun y hy => by
      obtain ⟨e, he, rfl⟩ := List.mem_map.mp (hperm.mem_iff.mp hy)
      exact hew e he
    have hyl : ys.length ≤ 64 := by
      have z := hperm.length_eq
      rw [List.length_map] at z
      omega
    refine ⟨Nat.zero_le _, fun r nr => ?_⟩
    generalize h_H3 : upd H2 r _ = H3
    have k_H3 : Kp H2 H3 := by rw [← h_H3]; exact .new nr
    have q_H3 := (congrFun h_H3 r).symm.trans upd_same
    clear h_H3
    have q3 := k_H3.same _ _ rfl (k_H2.same _ _ rfl q1)
    refine ⟨_, rfl, _, rfl, _, rfl, p1, _, _, _, rfl, rfl, .inl (.inl q3), at_int (j := 0) h0, _, rfl, _, _, rfl, rfl, _, _, rfl, rfl, (by show (0 : Int) < most + 1; omega), _, _, rfl, rfl, _, rfl, p1, _, rfl, .inl (.inl q3), fun p4 n4 => ?_⟩
    obtain ⟨ms, em, hms, hml⟩ := cutV_map (lo := some 1) (hi := some ((1 : Int) + nums[0] % (most + 1))) (ns := nums)
    generalize h_H4 : upd H3 p4 _ = H4
    have k_H4 : Kp H3 H4 := by rw [← h_H4]; exact .new n4
    have q_H4 := (congrFun h_H4 p4).symm.trans upd_same
    clear h_H4
    have q4 : H4 p4 = some (.lst (ms.map V.int)) := by rw [← em]; exact q_H4
    have k4 := ((k1.trans k_H2).trans k_H3).trans k_H4
    have r4 := k_H4.same _ _ rfl q_H3
    have y4 := k_H4.same _ _ rfl (k_H3.same _ _ rfl q_H2)
    have c4 := k_H4.same _ _ rfl q3
    have nr0 : H r = none := k1.free _ (k_H2.free _ nr)
    have n41 : p4 ≠ r := fun z => by
      rw [z, q_H3] at n4
      cases n4
    have nyr : p2 ≠ r := fun z => by
      rw [z] at q_H2
      rw [q_H2] at nr
      cases nr
    have n1r : p1 ≠ r := fun z => by
      rw [← z, k_H2.same _ _ rfl q1] at nr
      cases nr
    refine ⟨p4, rfl, ⟨_, .inl (.inl q4)⟩, for_list (K := K) (a := p4) (xs := ms.map V.int) (fun i σ H' => ∃ (ws : List Str) (y6 y7 : Option V), σ = [some (.ref dw), some (.int c), some (.int most), some (.ref p1), some (.ref p2), some (.ref r), y6, y7] ∧ Kp H H' ∧ H' p4 = some (.lst (ms.map V.int)) ∧ H' p2 = some (.lst (ys.map V.str)) ∧ H' p1 = some (.lst (nums.map V.int)) ∧ H' r = some (.lst (ws.map V.str)) ∧ ws.length = i ∧ ∀ t ∈ ws, isW t = true)
      ⟨[], none, none, rfl, k4, q4, y4, c4, r4, rfl, by simp⟩ (fun i σ H' _ ⟨_, _, _, _, _, h, _⟩ => .inl (.inl h)) ?_ ?_⟩
    · rintro i x σ H' hi ⟨ws, y6, y7, rfl, kp, hp4, hp2, hp1, hr', hwl, hww⟩
      obtain ⟨z, _, rfl, hz⟩ := mem_ints hi
      have hil : i < ms.length := (List.getElem?_eq_some_iff.mp hz).1
      refine ⟨_, rfl, _, _, rfl, rfl, .inr ⟨by decide, by decide⟩, _, rfl, p1, _, _, _, rfl, rfl, .inl (.inl hp1), at_int (j := 0) h0, _, _, rfl, rfl, _, rfl, fun t H5 ht k5 => ?_⟩
      have r5 := k5.same _ _ rfl hr'
      have y5 := k5.same _ _ rfl hp2
      refine ⟨_, rfl, _, _, rfl, rfl, (by show (0 : Int) < 3; decide), _, _, rfl, rfl, _, rfl, iteD (fun c1 => ?_) (fun c1 => iteF ?_)⟩
      · refine ⟨_, rfl, p2, _, rfl, .inl (.inl (.inl y5)), _, _, rfl, rfl, _, rfl, iteD (fun c2 => ?_) (fun c2 => ?_)⟩
        · obtain ⟨y, hy, hat⟩ := at_strs_mod (ys := ys) (m := z / 3) c2
          refine ⟨_, rfl, _, rfl, _, _, rfl, rfl, ⟨by decide, by decide⟩, _, rfl, p2, _, rfl, .inl (.inl (.inl y5)), _, _, rfl, rfl, c2, p2, _, _, _, rfl, rfl, .inl (.inl y5), hat, ?_⟩
          refine ⟨_, rfl, .inl ⟨rfl, _, SqL.of r5⟩, _, rfl, r, _, _, rfl, rfl, r5, szt (by rw [List.length_map]; omega), ?_⟩
          refine ⟨ws ++ [y], _, _, rfl, (kp.trans k5).mut nr0, ?_, ?_, ?_, ?_, by rw [List.length_append, hwl]; rfl, fun v hv => ?_⟩
          · rw [upd_ne n41]
            exact k5.same _ _ rfl hp4
          · rw [upd_ne nyr]
            exact y5
          · rw [upd_ne n1r]
            exact k5.same _ _ rfl hp1
          · rw [upd_same, List.map_append]
            rfl
          · rcases List.mem_append.mp hv with hv | hv
            · exact hww v hv
            · rw [List.mem_singleton.mp hv]
              exact hyw y hy
        · refine ⟨_, rfl, .inl ⟨rfl, _, SqL.of r5⟩, _, rfl, r, _, _, rfl, rfl, r5, szt (by rw [List.length_map]; omega), ?_⟩
          refine ⟨ws ++ [t], _, _, rfl, (kp.trans k5).mut nr0, ?_, ?_, ?_, ?_, by rw [List.length_append, hwl]; rfl, fun v hv => ?_⟩
          · rw [upd_ne n41]
            exact k5.same _ _ rfl hp4
          · rw [upd_ne nyr]
            exact y5
          · rw [upd_ne n1r]
            exact k5.same _ _ rfl hp1
          · rw [upd_same, List.map_append]
            rfl
          · rcases List.mem_append.mp hv with hv | hv
            · exact hww v hv
            · rw [List.mem_singleton.mp hv]
              exact ht
      · refine ⟨_, rfl, .inl ⟨rfl, _, SqL.of r5⟩, _, rfl, r, _, _, rfl, rfl, r5, szt (by rw [List.length_map]; omega), ?_⟩
        refine ⟨ws ++ [t], _, _, rfl, (kp.trans k5).mut nr0, ?_, ?_, ?_, ?_, by rw [List.length_append, hwl]; rfl, fun v hv => ?_⟩
        · rw [upd_ne n41]
          exact k5.same _ _ rfl hp4
        · rw [upd_ne nyr]
          exact y5
        · rw [upd_ne n1r]
          exact k5.same _ _ rfl hp1
        · rw [upd_same, List.map_append]
          rfl
        · rcases List.mem_append.mp hv with hv | hv
          · exact hww v hv
          · rw [List.mem_singleton.mp hv]
            exact ht
    · rintro σ H' ⟨ws, y6, y7, rfl, kp, hp4, hp2, hp1, hr', hwl, hww⟩
      rw [List.length_map] at hwl
      exact ⟨_, rfl, k ws r H' hww (by omega) nr0 kp hr'⟩
/-! ### _law_signs_of -/
def sp_l_signs_of (K : PySem.W.Frag) : Sp := fun vs H Q _ => ∃ (dw a : Addr) (es : List Ent) (ws : List Str), vs = [.ref dw, .ref a] ∧ DictAt H dw es ∧ SqL K H a (ws.map V.str) ∧ ws.length ≤ 1000 ∧ (∀ t ∈ ws, isW t = true) ∧
  ∀ (r : Addr) (H' : Hp), H r = none → Kp H H' → H' r = some (.lst ((signsV es ws).map V.int)) → Q (.ref r) H'
theorem ok_l_signs_of (T : Txt K mg) : FnOk P w K mg base CX0 1 T.f_l_signs_of T.d_l_signs_of ["_law_words", "_law_some"] (sp_l_signs_of K) := by
  refine T.F_l_signs_of.ok sc_l_signs_of (fun vs H Q E h => ?_) (fun cdv A outer s H vs Q E hr h => ?_)
  · obtain ⟨dw, a, es, ws, rfl, _⟩ := h
    rfl
  · obtain ⟨dw, a, es, ws, rfl, hD, hS, hl, hw, k⟩ := h
    have hu := hu_of hr
    refine ⟨_, (pss_cons (ps_set (i := 2) sc_l_signs_of.nd rfl (by first | exact Or.inl rfl | exact Or.inr rfl) (pe_lst pa_nil))
      (pss_cons (ps_for PassesOwn.never rfl (pi_list (pv 1)) (pg_name (i := 3) sc_l_signs_of.nd rfl (by first | exact Or.inl rfl | exact Or.inr rfl))
      (pss_one (ps_if (pt_cmp (pc_din hu (pv 3) (pv 0)))
      (pss_one (ps_expr (pe_bm PySem.F.plainAttrs_list PySem.F.slot_list_extend PySem.F.type_list_extend mt_extend (pv 2) (pa_cons (pe_lst (pa_cons (pe_ix ix_seq (pe_dget hu (pv 0) (pv 3) (fun _ _ => rfl)) pe_int (fun _ _ => rfl)) (pa_cons (pe_ix ix_seq (pe_dget hu (pv 0) (pv 3) (fun _ _ => rfl)) pe_int (fun _ _ => rfl)) pa_nil))) pa_nil))))
      (pss_cons (ps_expr (pe_bm PySem.F.plainAttrs_list PySem.F.slot_list_extend PySem.F.type_list_extend mt_extend (pv 2) (pa_cons (pe_lc (own := [("_law_letter", 4)]) (g := gName 4) (tt := tYes) (by rfl) sc_l_signs_of.nd (pi_str (pv 3)) (blkOk_by (own := [("_law_letter", 4)]) (N := ["_law_words", "_law_some", "_law_signs_here", "_law_word_here", "_law_letter"]) (sc := defScope s_l_signs_of) (by decide +kernel)) (fun _ _ _ _ _ => (pg_name (i := 4) sc_l_signs_of.nd rfl (by first | exact Or.inl rfl | exact Or.inr rfl))) (fun _ _ _ _ _ => pts_nil) (fun _ _ _ _ _ => (pe_op op_add pe_int (tbmK K rfl (pe_bm PySem.F.plainAttrs_str PySem.F.slot_str_index PySem.F.type_str_index mt_sindex pe_str (pa_cons (pv 4) pa_nil)))))) pa_nil)))
      (pss_one (ps_expr (pe_bm PySem.F.plainAttrs_list PySem.F.slot_list_append PySem.F.type_list_append mt_append (pv 2) (pa_cons pe_int pa_nil))))))))
      (pss_one (ps_ret (pv 2))))), ?_⟩
    refine ⟨Nat.zero_le _, fun r nr => ?_⟩
    generalize h_H1 : upd H r _ = H1
    have k_H1 : Kp H H1 := by rw [← h_H1]; exact .new nr
    have q_H1 := (congrFun h_H1 r).symm.trans upd_same
    clear h_H1
    refine ⟨_, rfl, a, rfl, ⟨_, k_H1.sqL hS⟩, for_list (K := K) (a := a) (xs := ws.map V.str) (fun i σ H' => ∃ (y3 y4 : Option V), σ = [some (.ref dw), some (.ref a), some (.ref r), y3, y4] ∧ Kp H H' ∧ H' r = some (.lst ((signsV es (ws.take i)).map V.int)))
      ⟨none, none, rfl, k_H1, q_H1⟩ (fun i σ H' _ ⟨_, _, _, kp, _⟩ => kp.sqL hS) ?_ ?_⟩
    · rintro i x σ H' hi ⟨y3, y4, rfl, kp, hr'⟩
      obtain ⟨t, ht, rfl, hti⟩ := mem_strs hi
      have hil : i < ws.length := (List.getElem?_eq_some_iff.mp hti).1
      have D' := hD.kp kp
      have c := hw t ht
      have hlen : (signsV es (ws.take i)).length ≤ 13000 := by
        have z := signsV_len (bs := es) (ws := ws.take i) fun u hu => hw u (List.mem_of_mem_take hu)
        rw [List.length_take] at z
        omega
      have hsn : signsV es (ws.take (i + 1)) = signsV es (ws.take i) ++ signs1 es t := by rw [take_snoc hti, signsV_snoc]
      refine ⟨_, rfl, _, rfl, dw, _, rfl, DGet.k (k := Sum.inr t) D'.wd, _, rfl, ?_⟩
      cases e : atW es t with
      | some b =>
        have hs1 : signs1 es t = [b.1.2.1, b.1.2.2] := by unfold signs1; rw [e]
        have hb : b ∈ es := List.mem_of_find?_eq_some e
        have tb := D'.tu b hb
        have dg : DGet H' dw (kV (Sum.inr t)) (some (.ref b.2)) := .inl ⟨kvW es, Sum.inr t, .inl D'.wd, rfl, (by rw [valW, e]; rfl)⟩
        refine iteTo (by rw [valW, e]; rfl) ?_
        refine ⟨_, rfl, .inl ⟨rfl, _, SqL.of hr'⟩, _, rfl, _, rfl, dw, _, rfl, dg, .inr (.inl ⟨b.2, _, _, _, rfl, rfl, .inl (.inl tb), rfl, _, rfl, _, rfl, dw, _, rfl, dg, .inr (.inl ⟨b.2, _, _, _, rfl, rfl, .inl (.inl tb), rfl, szl (by show 2 ≤ 100000; decide), fun q nq => ?_⟩)⟩)⟩
        generalize h_H2 : upd H' q _ = H2
        have k_H2 : Kp H' H2 := by rw [← h_H2]; exact .new nq
        have q_H2 := (congrFun h_H2 q).symm.trans upd_same
        clear h_H2
        refine ⟨r, q, _, _, rfl, rfl, k_H2.same _ _ rfl hr', q_H2, szl (by rw [List.length_map]; show _ + 2 ≤ 100000; omega), ?_⟩
        refine ⟨_, _, rfl, (kp.trans k_H2).mut nr, ?_⟩
        rw [upd_same, hsn, hs1, List.map_append]
        rfl
      | none =>
        have hs1 : signs1 es t = letS t ++ [67] := by unfold signs1; rw [e]
        refine iteFo (by rw [valW, e]; rfl) ?_
        have hl12 := (isW_len c).2
        have et : t.length = t.cps.toList.length := by simp [Str.length]
        have esz : t.cps.size = t.cps.toList.length := by simp
        refine ⟨_, rfl, .inl ⟨rfl, _, SqL.of hr'⟩, _, rfl, t, rfl, fun D hD2 => ?_⟩
        refine lc_it (walk_str (z := t)) (fun j H'' => Kp H' H'' ∧ H'' D = some (.lst (((t.cps.toList.take j).map let1).map V.int))) ⟨Kp.new hD2, upd_same⟩ (fun _ _ _ _ => trivial) (fun j x H3 H4 hj ⟨k3, hl3⟩ ⟨e1, c1, hc, hx⟩ => ?_) (fun H3 ⟨k3, hl3⟩ => ?_)
        · subst e1
          subst hx
          have hc2 : t.cps.toList[j]? = some c1 := by rw [Array.getElem?_toList]; exact hc
          obtain ⟨b1, b2⟩ := isW_signs c c1 (List.mem_of_getElem? hc2)
          obtain ⟨rest, e⟩ := abc_ix (c1 - 97) (by omega)
          rw [show 97 + (c1 - 97) = c1 by omega] at e
          refine ⟨rfl, ?_⟩
          refine ⟨rfl, _, rfl, abc, _, c1 - 97, rest, rfl, rfl, e, _, _, rfl, rfl, _, hl3, szt (by rw [List.length_map, List.length_map, List.length_take]; omega), k3.mut hD2, ?_⟩
          rw [upd_same, take_snoc hc2, List.map_append, List.map_append]
          rfl
        · rw [esz, List.take_length] at hl3
          have hr3 := k3.same _ _ rfl hr'
          refine ⟨r, D, _, _, rfl, rfl, hr3, hl3, szl (by rw [List.length_map, List.length_map, List.length_map]; omega), ?_⟩
          refine ⟨_, rfl, .inl ⟨rfl, _, SqL.of upd_same⟩, r, _, _, rfl, rfl, upd_same, szt (by rw [List.length_append, List.length_map, List.length_map, List.length_map]; omega), ?_⟩
          refine ⟨_, _, rfl, ((kp.trans k3).mut nr).mut nr, ?_⟩
          rw [upd_same, hsn, hs1]
          unfold letS
          rw [List.map_append, List.map_append]
          simp only [List.append_assoc]
          rfl
    · rintro σ H' ⟨y3, y4, rfl, kp, hr'⟩
      rw [List.length_map, List.take_length] at hr'
      exact ⟨_, rfl, k r H' nr kp hr'⟩
/-! ### _law_signs: signs by one cell -/
def sp_l_signs : Sp := fun vs H Q _ => ∃ c most : Int, vs = [.int c, .int most] ∧ 0 ≤ most ∧ most ≤ 1000 ∧
  ∀ (xs : List Int) (r : Addr) (H' : Hp), xs.length ≤ 61 → (∀ x ∈ xs, 1 ≤ x ∧ x ≤ 94) → H r = none → Kp H H' → H' r = some (.lst (xs.map V.int)) → Q (.ref r) H'
theorem at_6 (n : Int) : ∃ z : Int, (1 ≤ z ∧ z ≤ 94) ∧ atI [V.int 41, V.int 42, V.int 67, V.int 68, V.int 1, V.int 2] (n % 6) = some (.int z) := by
  have h0 : 0 ≤ n % 6 := Int.emod_nonneg _ (by decide)
  have h1 : n % 6 < 6 := Int.emod_lt_of_pos _ (by decide)
  generalize n % 6 = m at h0 h1
  have hm : m = 0 ∨ m = 1 ∨ m = 2 ∨ m = 3 ∨ m = 4 ∨ m = 5 := by omega
  rcases hm with rfl | rfl | rfl | rfl | rfl | rfl
  · exact ⟨41, by omega, rfl⟩
  · exact ⟨42, by omega, rfl⟩
  · exact ⟨67, by omega, rfl⟩
  · exact ⟨68, by omega, rfl⟩
  · exact ⟨1, by omega, rfl⟩
  · exact ⟨2, by omega, rfl⟩
theorem ok_l_signs (T : Txt K mg) : FnOk P w K mg base CX0 2 T.f_l_signs T.d_l_signs ["_law_cell_here", "_law_most"] sp_l_signs := by
  refine T.F_l_signs.ok sc_l_signs (fun vs H Q E h => ?_) (fun cdv A outer s H vs Q E hr h => ?_)
  · obtain ⟨c, most, rfl, _⟩ := h
    rfl
  · obtain ⟨c, most, rfl, hm0, hm1, k⟩ := h
    refine ⟨_, (pss_cons (ps_set (i := 2) sc_l_signs.nd rfl (by first | exact Or.inl rfl | exact Or.inr rfl) (pe_call (ok_l_row T) (hr.mono (by decide)) rfl T.g_l_row T.F_l_row.kp T.b_l_row .nil pass0 (pa_cons (pv 0) (pa_cons pe_int (pa_cons (pe_op op_mul pe_int pe_int) pa_nil)))))
      (pss_cons (ps_set (i := 3) sc_l_signs.nd rfl (by first | exact Or.inl rfl | exact Or.inr rfl) (pe_op op_mod (pe_ix ix_list (pv 2) pe_int (fun _ _ => rfl)) (pe_op op_add (pv 1) pe_int)))
      (pss_cons (ps_set (i := 4) sc_l_signs.nd rfl (by first | exact Or.inl rfl | exact Or.inr rfl) (pe_op op_mod (pe_op op_fdiv (pe_ix ix_list (pv 2) pe_int (fun _ _ => rfl)) pe_int) pe_int))
      (pss_cons (ps_set (i := 5) sc_l_signs.nd rfl (by first | exact Or.inl rfl | exact Or.inr rfl) (pe_lst pa_nil))
      (pss_cons (ps_for PassesOwn.never rfl (pi_list (pe_slice sl_list (pv 2) (po_some pe_int) (po_some (pe_op op_add pe_int (pv 3))))) (pg_name (i := 6) sc_l_signs.nd rfl (by first | exact Or.inl rfl | exact Or.inr rfl))
      (pss_cons (ps_set (i := 7) sc_l_signs.nd rfl (by first | exact Or.inl rfl | exact Or.inr rfl) (pe_op op_add pe_int (pe_op op_mod (pv 6) pe_int)))
      (pss_cons (ps_if (PW.pt (pw_and (pt_cmpR op_eq (pv 4) pe_int (nomark _)) (pw_and1 (pt_cmpR op_gt (pe_op op_mod (pe_op op_fdiv (pv 6) pe_int) pe_int) pe_int (nomark _)))))
      (pss_one (ps_set (i := 7) sc_l_signs.nd rfl (by first | exact Or.inl rfl | exact Or.inr rfl) (pe_ix ix_tup (pe_tup (pa_cons pe_int (pa_cons pe_int (pa_cons pe_int (pa_cons pe_int (pa_cons pe_int (pa_cons pe_int pa_nil))))))) (pe_op op_mod (pv 6) pe_int) (fun _ _ => rfl))))
      pss_nil)
      (pss_cons (ps_if (PW.pt (pw_and (pt_cmpR op_eq (pv 4) pe_int (nomark _)) (pw_and1 (pt_cmpR op_eq (pe_op op_mod (pe_op op_fdiv (pv 6) pe_int) pe_int) pe_int (nomark _)))))
      (pss_one (ps_set (i := 7) sc_l_signs.nd rfl (by first | exact Or.inl rfl | exact Or.inr rfl) pe_int))
      pss_nil)
      (pss_cons (ps_if (pt_cmpR op_eq (pv 4) pe_int (nomark _))
      (pss_one (ps_set (i := 7) sc_l_signs.nd rfl (by first | exact Or.inl rfl | exact Or.inr rfl) (pe_op op_add pe_int (pe_op op_mod (pv 6) pe_int))))
      pss_nil)
      (pss_one (ps_expr (pe_bm PySem.F.plainAttrs_list PySem.F.slot_list_append PySem.F.type_list_append mt_append (pv 5) (pa_cons (pv 7) pa_nil)))))))))
      (pss_one (ps_ret (pv 5)))))))), ?_⟩
    refine ⟨_, rfl, _, _, rfl, rfl, .inl ⟨by decide, by decide⟩, _, _, _, rfl, by decide, by decide, by decide, by decide, fun nums p1 H1 n1 k1 q1 ⟨hl, hb⟩ => ?_⟩
    have h0 : 0 < nums.length := by omega
    refine ⟨_, rfl, p1, _, _, _, rfl, rfl, .inl (.inl q1), at_int (j := 0) h0, _, rfl, _, _, rfl, rfl, _, _, rfl, rfl, (by show (0 : Int) < most + 1; omega), ?_⟩
    refine ⟨_, rfl, p1, _, _, _, rfl, rfl, .inl (.inl q1), at_int (j := 0) h0, _, _, rfl, rfl, ⟨by decide, by decide⟩, _, _, rfl, rfl, (by show (0 : Int) < 5; decide), ?_⟩
    refine ⟨Nat.zero_le _, fun r nr => ?_⟩
    generalize h_H3 : upd H1 r _ = H3
    have k_H3 : Kp H1 H3 := by rw [← h_H3]; exact .new nr
    have q_H3 := (congrFun h_H3 r).symm.trans upd_same
    clear h_H3
    have q3 := k_H3.same _ _ rfl q1
    refine ⟨_, rfl, _, rfl, _, rfl, _, _, rfl, rfl, _, rfl, p1, _, rfl, .inl (.inl q3), fun p4 n4 => ?_⟩
    obtain ⟨ms, em, hms, hml⟩ := cutV_map (lo := some 1) (hi := some ((1 : Int) + nums[0] % (most + 1))) (ns := nums)
    generalize h_H4 : upd H3 p4 _ = H4
    have k_H4 : Kp H3 H4 := by rw [← h_H4]; exact .new n4
    have q_H4 := (congrFun h_H4 p4).symm.trans upd_same
    clear h_H4
    have q4 : H4 p4 = some (.lst (ms.map V.int)) := by rw [← em]; exact q_H4
    have k4 := (k1.trans k_H3).trans k_H4
    have r4 := k_H4.same _ _ rfl q_H3
    have nr0 : H r = none := k1.free _ nr
    have n4r : p4 ≠ r := fun z => by
      rw [z, q_H3] at n4
      cases n4
    refine ⟨p4, rfl, ⟨_, .inl (.inl q4)⟩, for_list (K := K) (a := p4) (xs := ms.map V.int) (fun i σ H' => ∃ (xs : List Int) (y6 y7 : Option V), σ = [some (.int c), some (.int most), some (.ref p1), some (.int (nums[0] % (most + 1))), some (.int (nums[0] / 94 % 5)), some (.ref r), y6, y7] ∧ Kp H H' ∧ H' p4 = some (.lst (ms.map V.int)) ∧ H' r = some (.lst (xs.map V.int)) ∧ xs.length = i ∧ ∀ x ∈ xs, 1 ≤ x ∧ x ≤ 94)
      ⟨[], none, none, rfl, k4, q4, r4, rfl, by simp⟩ (fun i σ H' _ ⟨_, _, _, _, _, h, _⟩ => .inl (.inl h)) ?_ ?_⟩
    · rintro i x σ H' hi ⟨xs, y6, y7, rfl, kp, hp4, hr', hxl, hxb⟩
      obtain ⟨z, _, rfl, hz⟩ := mem_ints hi
      have hil : i < ms.length := (List.getElem?_eq_some_iff.mp hz).1
      have e94 := Int.emod_nonneg z (b := 94) (by decide)
      have f94 := Int.emod_lt_of_pos z (b := 94) (by decide)
      have e28 := Int.emod_nonneg z (b := 28) (by decide)
      have f28 := Int.emod_lt_of_pos z (b := 28) (by decide)
      have b94 : 1 ≤ (1 : Int) + z % 94 ∧ (1 : Int) + z % 94 ≤ 94 := by omega
      have b28 : 1 ≤ (41 : Int) + z % 28 ∧ (41 : Int) + z % 28 ≤ 94 := by omega
      have b68 : 1 ≤ (68 : Int) ∧ (68 : Int) ≤ 94 := by omega
      have fin : ∀ (u : Int) (Hx : Hp) (y6 y7 : Option V), Kp H' Hx → (1 ≤ u ∧ u ≤ 94) → ∃ (xs' : List Int) (y6' y7' : Option V), [some (.int c), some (.int most), some (.ref p1), some (.int (nums[0] % (most + 1))), some (.int (nums[0] / 94 % 5)), some (.ref r), y6, y7] = [some (.int c), some (.int most), some (.ref p1), some (.int (nums[0] % (most + 1))), some (.int (nums[0] / 94 % 5)), some (.ref r), y6', y7'] ∧ Kp H (upd Hx r (.lst (xs.map V.int ++ [.int u]))) ∧ upd Hx r (.lst (xs.map V.int ++ [.int u])) p4 = some (.lst (ms.map V.int)) ∧ upd Hx r (.lst (xs.map V.int ++ [.int u])) r = some (.lst (xs'.map V.int)) ∧ xs'.length = i + 1 ∧ ∀ x ∈ xs', 1 ≤ x ∧ x ≤ 94 := by
        intro u Hx y6 y7 kx bu
        refine ⟨xs ++ [u], y6, y7, rfl, (kp.trans kx).mut nr0, ?_, ?_, by rw [List.length_append, hxl]; rfl, fun v hv => ?_⟩
        · rw [upd_ne n4r]
          exact kx.same _ _ rfl hp4
        · rw [upd_same, List.map_append]
          rfl
        · rcases List.mem_append.mp hv with hv | hv
          · exact hxb v hv
          · rw [List.mem_singleton.mp hv]
            exact bu
      refine ⟨_, rfl, _, _, rfl, rfl, (by show (0 : Int) < 94; decide), _, _, rfl, rfl, ?_⟩
      refine ⟨_, rfl, rfl, _, rfl, iteD (fun c1 => ?_) (fun c1 => iteF ?_)⟩
      · refine ⟨_, rfl, _, _, rfl, rfl, ⟨by decide, by decide⟩, _, _, rfl, rfl, (by show (0 : Int) < 3; decide), _, _, rfl, rfl, _, rfl, iteD (fun c1 => ?_) (fun c1 => ?_)⟩
        · refine ⟨szl (by show 6 ≤ 100000; decide), fun p6 n6 => ?_⟩
          generalize h_H6 : upd H' p6 _ = H6
          have k_H6 : Kp H' H6 := by rw [← h_H6]; exact .new n6
          have q_H6 := (congrFun h_H6 p6).symm.trans upd_same
          clear h_H6
          obtain ⟨z6, b6, h6⟩ := at_6 z
          refine ⟨_, rfl, _, _, rfl, rfl, (by show (0 : Int) < 6; decide), p6, _, _, _, rfl, rfl, .inl (.inl q_H6), h6, ?_⟩
          refine ⟨_, rfl, rfl, _, rfl, iteD (fun c2 => ?_) (fun c2 => iteF ?_)⟩
          · refine ⟨_, rfl, _, _, rfl, rfl, ⟨by decide, by decide⟩, _, _, rfl, rfl, (by show (0 : Int) < 4; decide), rfl, _, rfl, iteD (fun c2 => ?_) (fun c2 => ?_)⟩
            · refine ⟨_, rfl, rfl, _, rfl, iteD (fun c3 => ?_) (fun c3 => ?_)⟩
              · refine ⟨_, rfl, _, _, rfl, rfl, (by show (0 : Int) < 28; decide), _, _, rfl, rfl, ?_⟩
                have hrL := (k_H6).same _ _ rfl hr'
                refine ⟨_, rfl, .inl ⟨rfl, _, SqL.of hrL⟩, _, rfl, r, _, _, rfl, rfl, hrL, szt (by rw [List.length_map]; omega), ?_⟩
                exact fin ((41 : Int) + z % 28) H6 _ _ (k_H6) b28
              · have hrL := (k_H6).same _ _ rfl hr'
                refine ⟨_, rfl, .inl ⟨rfl, _, SqL.of hrL⟩, _, rfl, r, _, _, rfl, rfl, hrL, szt (by rw [List.length_map]; omega), ?_⟩
                exact fin (68) H6 _ _ (k_H6) b68
            · refine ⟨_, rfl, rfl, _, rfl, iteD (fun c3 => ?_) (fun c3 => ?_)⟩
              · refine ⟨_, rfl, _, _, rfl, rfl, (by show (0 : Int) < 28; decide), _, _, rfl, rfl, ?_⟩
                have hrL := (k_H6).same _ _ rfl hr'
                refine ⟨_, rfl, .inl ⟨rfl, _, SqL.of hrL⟩, _, rfl, r, _, _, rfl, rfl, hrL, szt (by rw [List.length_map]; omega), ?_⟩
                exact fin ((41 : Int) + z % 28) H6 _ _ (k_H6) b28
              · have hrL := (k_H6).same _ _ rfl hr'
                refine ⟨_, rfl, .inl ⟨rfl, _, SqL.of hrL⟩, _, rfl, r, _, _, rfl, rfl, hrL, szt (by rw [List.length_map]; omega), ?_⟩
                exact fin (z6) H6 _ _ (k_H6) b6
          · refine ⟨_, rfl, rfl, _, rfl, iteD (fun c3 => ?_) (fun c3 => ?_)⟩
            · refine ⟨_, rfl, _, _, rfl, rfl, (by show (0 : Int) < 28; decide), _, _, rfl, rfl, ?_⟩
              have hrL := (k_H6).same _ _ rfl hr'
              refine ⟨_, rfl, .inl ⟨rfl, _, SqL.of hrL⟩, _, rfl, r, _, _, rfl, rfl, hrL, szt (by rw [List.length_map]; omega), ?_⟩
              exact fin ((41 : Int) + z % 28) H6 _ _ (k_H6) b28
            · have hrL := (k_H6).same _ _ rfl hr'
              refine ⟨_, rfl, .inl ⟨rfl, _, SqL.of hrL⟩, _, rfl, r, _, _, rfl, rfl, hrL, szt (by rw [List.length_map]; omega), ?_⟩
              exact fin (z6) H6 _ _ (k_H6) b6
        · refine ⟨_, rfl, rfl, _, rfl, iteD (fun c2 => ?_) (fun c2 => iteF ?_)⟩
          · refine ⟨_, rfl, _, _, rfl, rfl, ⟨by decide, by decide⟩, _, _, rfl, rfl, (by show (0 : Int) < 4; decide), rfl, _, rfl, iteD (fun c2 => ?_) (fun c2 => ?_)⟩
            · refine ⟨_, rfl, rfl, _, rfl, iteD (fun c3 => ?_) (fun c3 => ?_)⟩
              · refine ⟨_, rfl, _, _, rfl, rfl, (by show (0 : Int) < 28; decide), _, _, rfl, rfl, ?_⟩
                have hrL := (Kp.refl H').same _ _ rfl hr'
                refine ⟨_, rfl, .inl ⟨rfl, _, SqL.of hrL⟩, _, rfl, r, _, _, rfl, rfl, hrL, szt (by rw [List.length_map]; omega), ?_⟩
                exact fin ((41 : Int) + z % 28) H' _ _ (Kp.refl H') b28
              · have hrL := (Kp.refl H').same _ _ rfl hr'
                refine ⟨_, rfl, .inl ⟨rfl, _, SqL.of hrL⟩, _, rfl, r, _, _, rfl, rfl, hrL, szt (by rw [List.length_map]; omega), ?_⟩
                exact fin (68) H' _ _ (Kp.refl H') b68
            · refine ⟨_, rfl, rfl, _, rfl, iteD (fun c3 => ?_) (fun c3 => ?_)⟩
              · refine ⟨_, rfl, _, _, rfl, rfl, (by show (0 : Int) < 28; decide), _, _, rfl, rfl, ?_⟩
                have hrL := (Kp.refl H').same _ _ rfl hr'
                refine ⟨_, rfl, .inl ⟨rfl, _, SqL.of hrL⟩, _, rfl, r, _, _, rfl, rfl, hrL, szt (by rw [List.length_map]; omega), ?_⟩
                exact fin ((41 : Int) + z % 28) H' _ _ (Kp.refl H') b28
              · have hrL := (Kp.refl H').same _ _ rfl hr'
                refine ⟨_, rfl, .inl ⟨rfl, _, SqL.of hrL⟩, _, rfl, r, _, _, rfl, rfl, hrL, szt (by rw [List.length_map]; omega), ?_⟩
                exact fin ((1 : Int) + z % 94) H' _ _ (Kp.refl H') b94
          · refine ⟨_, rfl, rfl, _, rfl, iteD (fun c3 => ?_) (fun c3 => ?_)⟩
            · refine ⟨_, rfl, _, _, rfl, rfl, (by show (0 : Int) < 28; decide), _, _, rfl, rfl, ?_⟩
              have hrL := (Kp.refl H').same _ _ rfl hr'
              refine ⟨_, rfl, .inl ⟨rfl, _, SqL.of hrL⟩, _, rfl, r, _, _, rfl, rfl, hrL, szt (by rw [List.length_map]; omega), ?_⟩
              exact fin ((41 : Int) + z % 28) H' _ _ (Kp.refl H') b28
            · have hrL := (Kp.refl H').same _ _ rfl hr'
              refine ⟨_, rfl, .inl ⟨rfl, _, SqL.of hrL⟩, _, rfl, r, _, _, rfl, rfl, hrL, szt (by rw [List.length_map]; omega), ?_⟩
              exact fin ((1 : Int) + z % 94) H' _ _ (Kp.refl H') b94
      · refine ⟨_, rfl, rfl, _, rfl, iteD (fun c2 => ?_) (fun c2 => iteF ?_)⟩
        · refine ⟨_, rfl, _, _, rfl, rfl, ⟨by decide, by decide⟩, _, _, rfl, rfl, (by show (0 : Int) < 4; decide), rfl, _, rfl, iteD (fun c2 => ?_) (fun c2 => ?_)⟩
          · refine ⟨_, rfl, rfl, _, rfl, iteD (fun c3 => ?_) (fun c3 => ?_)⟩
            · refine ⟨_, rfl, _, _, rfl, rfl, (by show (0 : Int) < 28; decide), _, _, rfl, rfl, ?_⟩
              have hrL := (Kp.refl H').same _ _ rfl hr'
              refine ⟨_, rfl, .inl ⟨rfl, _, SqL.of hrL⟩, _, rfl, r, _, _, rfl, rfl, hrL, szt (by rw [List.length_map]; omega), ?_⟩
              exact fin ((41 : Int) + z % 28) H' _ _ (Kp.refl H') b28
            · have hrL := (Kp.refl H').same _ _ rfl hr'
              refine ⟨_, rfl, .inl ⟨rfl, _, SqL.of hrL⟩, _, rfl, r, _, _, rfl, rfl, hrL, szt (by rw [List.length_map]; omega), ?_⟩
              exact fin (68) H' _ _ (Kp.refl H') b68
          · refine ⟨_, rfl, rfl, _, rfl, iteD (fun c3 => ?_) (fun c3 => ?_)⟩
            · refine ⟨_, rfl, _, _, rfl, rfl, (by show (0 : Int) < 28; decide), _, _, rfl, rfl, ?_⟩
              have hrL := (Kp.refl H').same _ _ rfl hr'
              refine ⟨_, rfl, .inl ⟨rfl, _, SqL.of hrL⟩, _, rfl, r, _, _, rfl, rfl, hrL, szt (by rw [List.length_map]; omega), ?_⟩
              exact fin ((41 : Int) + z % 28) H' _ _ (Kp.refl H') b28
            · have hrL := (Kp.refl H').same _ _ rfl hr'
              refine ⟨_, rfl, .inl ⟨rfl, _, SqL.of hrL⟩, _, rfl, r, _, _, rfl, rfl, hrL, szt (by rw [List.length_map]; omega), ?_⟩
              exact fin ((1 : Int) + z % 94) H' _ _ (Kp.refl H') b94
        · refine ⟨_, rfl, rfl, _, rfl, iteD (fun c3 => ?_) (fun c3 => ?_)⟩
          · refine ⟨_, rfl, _, _, rfl, rfl, (by show (0 : Int) < 28; decide), _, _, rfl, rfl, ?_⟩
            have hrL := (Kp.refl H').same _ _ rfl hr'
            refine ⟨_, rfl, .inl ⟨rfl, _, SqL.of hrL⟩, _, rfl, r, _, _, rfl, rfl, hrL, szt (by rw [List.length_map]; omega), ?_⟩
            exact fin ((41 : Int) + z % 28) H' _ _ (Kp.refl H') b28
          · have hrL := (Kp.refl H').same _ _ rfl hr'
            refine ⟨_, rfl, .inl ⟨rfl, _, SqL.of hrL⟩, _, rfl, r, _, _, rfl, rfl, hrL, szt (by rw [List.length_map]; omega), ?_⟩
            exact fin ((1 : Int) + z % 94) H' _ _ (Kp.refl H') b94
    · rintro σ H' ⟨xs, y6, y7, rfl, kp, hp4, hr', hxl, hxb⟩
      rw [List.length_map] at hxl
      exact ⟨_, rfl, k xs r H' (by omega) hxb nr0 kp hr'⟩
/-! ### _law_bent: signs changed, left out, put in -/
theorem cut_to {ns : List Int} (i : Nat) : cutV (ns.map V.int) none (some (i : Int)) = (ns.take i).map V.int := by
  unfold cutV
  rw [List.length_map]
  have e1 : HT.sIx ns.length 0 none = 0 := rfl
  rw [e1, HT.sIx_nat, List.drop_zero, Nat.sub_zero, List.map_take]
  by_cases h : i ≤ ns.length
  · rw [Nat.min_eq_left h]
  · rw [Nat.min_eq_right (by omega), List.take_of_length_le (by rw [List.length_map]; exact Nat.le_refl _), List.take_of_length_le (by rw [List.length_map]; omega)]
theorem cut_from {ns : List Int} (i : Nat) : cutV (ns.map V.int) (some (i : Int)) none = (ns.drop i).map V.int := by
  unfold cutV
  rw [List.length_map]
  have e2 : HT.sIx ns.length ns.length none = ns.length := rfl
  rw [e2, HT.sIx_nat, List.map_drop]
  by_cases h : i ≤ ns.length
  · rw [Nat.min_eq_left h, List.take_of_length_le (by rw [List.length_drop, List.length_map]; exact Nat.le_refl _)]
  · rw [Nat.min_eq_right (by omega), Nat.sub_self, List.take_zero, List.drop_of_length_le (by rw [List.length_map]; omega)]
theorem at_5 (n m : Int) : ∃ z : Int, (1 ≤ z ∧ z ≤ 94) ∧ atI [V.int ((1 : Int) + n % 94), V.int 67, V.int 68, V.int 41, V.int ((1 : Int) + n % 40)] (m % 5) = some (.int z) := by
  have e94 := Int.emod_nonneg n (b := 94) (by decide)
  have f94 := Int.emod_lt_of_pos n (b := 94) (by decide)
  have e40 := Int.emod_nonneg n (b := 40) (by decide)
  have f40 := Int.emod_lt_of_pos n (b := 40) (by decide)
  have h0 : 0 ≤ m % 5 := Int.emod_nonneg _ (by decide)
  have h1 : m % 5 < 5 := Int.emod_lt_of_pos _ (by decide)
  generalize m % 5 = j at h0 h1
  have hm : j = 0 ∨ j = 1 ∨ j = 2 ∨ j = 3 ∨ j = 4 := by omega
  rcases hm with rfl | rfl | rfl | rfl | rfl
  · exact ⟨(1 : Int) + n % 94, by omega, rfl⟩
  · exact ⟨67, by omega, rfl⟩
  · exact ⟨68, by omega, rfl⟩
  · exact ⟨41, by omega, rfl⟩
  · exact ⟨(1 : Int) + n % 40, by omega, rfl⟩
def sp_l_bent (K : PySem.W.Frag) : Sp := fun vs H Q _ => ∃ (a : Addr) (xs : List Int) (c : Int), vs = [.ref a, .int c] ∧ SqL K H a (xs.map V.int) ∧ xs.length ≤ 900 ∧ (∀ x ∈ xs, 1 ≤ x ∧ x ≤ 94) ∧
  ∀ (ys : List Int) (r : Addr) (H' : Hp), ys.length ≤ xs.length + 2 → (∀ y ∈ ys, 1 ≤ y ∧ y ≤ 94) → Kp H H' → SqL K H' r (ys.map V.int) → Q (.ref r) H'
theorem ok_l_bent (T : Txt K mg) : FnOk P w K mg base CX0 2 T.f_l_bent T.d_l_bent ["_law_signs_here", "_law_cell_here"] (sp_l_bent K) := by
  refine T.F_l_bent.ok sc_l_bent (fun vs H Q E h => ?_) (fun cdv A outer s H vs Q E hr h => ?_)
  · obtain ⟨a, xs, c, rfl, _⟩ := h
    rfl
  · obtain ⟨a, xs, c, rfl, hS, hl, hb, k⟩ := h
    refine ⟨_, (pss_cons (ps_set (i := 2) sc_l_bent.nd rfl (by first | exact Or.inl rfl | exact Or.inr rfl) (pe_call (ok_l_row T) (hr.mono (by decide)) rfl T.g_l_row T.F_l_row.kp T.b_l_row .nil pass0 (pa_cons (pv 1) (pa_cons pe_int (pa_cons (pe_op op_mul pe_int pe_int) pa_nil)))))
      (pss_cons (ps_for PassesOwn.never rfl (pi_range1 (by rfl) T.m_range (pa_cons (pe_op op_mod (pe_ix ix_list (pv 2) pe_int (fun _ _ => rfl)) pe_int) pa_nil)) (pg_name (i := 3) sc_l_bent.nd rfl (by first | exact Or.inl rfl | exact Or.inr rfl))
      (pss_cons (ps_set (i := 4) sc_l_bent.nd rfl (by first | exact Or.inl rfl | exact Or.inr rfl) (pe_op op_mod (pe_ix ix_list (pv 2) (pe_op op_add pe_int (pv 3)) (fun _ _ => rfl)) (pe_op op_add (pe_callB call_len_seq (by rfl) T.m_len PySem.boot_len (pa_cons (pv 0) pa_nil)) pe_int)))
      (pss_cons (ps_set (i := 5) sc_l_bent.nd rfl (by first | exact Or.inl rfl | exact Or.inr rfl) (pe_op op_mod (pe_ix ix_list (pv 2) (pe_op op_add pe_int (pv 3)) (fun _ _ => rfl)) pe_int))
      (pss_cons (ps_set (i := 6) sc_l_bent.nd rfl (by first | exact Or.inl rfl | exact Or.inr rfl) (pe_ix ix_tup (pe_tup (pa_cons (pe_op op_add pe_int (pe_op op_mod (pe_ix ix_list (pv 2) (pe_op op_add pe_int (pv 3)) (fun _ _ => rfl)) pe_int)) (pa_cons pe_int (pa_cons pe_int (pa_cons pe_int (pa_cons (pe_op op_add pe_int (pe_op op_mod (pe_ix ix_list (pv 2) (pe_op op_add pe_int (pv 3)) (fun _ _ => rfl)) pe_int)) pa_nil)))))) (pe_op op_mod (pe_op op_fdiv (pe_ix ix_list (pv 2) (pe_op op_add pe_int (pv 3)) (fun _ _ => rfl)) pe_int) pe_int) (fun _ _ => rfl)))
      (pss_one (ps_set (i := 0) sc_l_bent.nd rfl (by first | exact Or.inl rfl | exact Or.inr rfl) (pe_op op_cat (pe_op op_cat (pe_slice sl_list (pv 0) po_none (po_some (pv 4))) (pe_ifExp (pt_cmpR op_eq (pv 5) pe_int (nomark _)) (pe_lst pa_nil) (pe_lst (pa_cons (pv 6) pa_nil)))) (pe_slice sl_list (pv 0) (po_some (pe_op op_add (pv 4) (pe_callTy call_int1 (by rfl) T.m_int (by decide +kernel) (pa_cons (pe_cmpR op_lt (pv 5) pe_int (nomark _)) pa_nil)))) po_none))))))))
      (pss_one (ps_ret (pv 0))))), ?_⟩
    refine ⟨_, rfl, _, _, rfl, rfl, .inl ⟨by decide, by decide⟩, _, _, _, rfl, by decide, by decide, by decide, by decide, fun nums p1 H1 n1 k1 q1 ⟨hnl, hnb⟩ => ?_⟩
    have hnl : (nums.length : Int) = 7 := hnl
    have h0 : 0 < nums.length := by omega
    have z0 := Int.emod_nonneg nums[0] (b := 3) (by decide)
    have z1 := Int.emod_lt_of_pos nums[0] (b := 3) (by decide)
    refine ⟨_, rfl, p1, _, _, _, rfl, rfl, .inl (.inl q1), at_int (j := 0) h0, _, _, rfl, rfl, (by show (0 : Int) < 3; decide), nums[0] % 3, rfl, by omega, by omega, ?_⟩
    refine for_range (lo := 0) (n := (nums[0] % 3).toNat) (fun i σ H' => ∃ (ys : List Int) (r : Addr) (y3 y4 y5 y6 : Option V), σ = [some (.ref r), some (.int c), some (.ref p1), y3, y4, y5, y6] ∧ Kp H H' ∧ H' p1 = some (.lst (nums.map V.int)) ∧ SqL K H' r (ys.map V.int) ∧ ys.length ≤ xs.length + i ∧ (∀ y ∈ ys, 1 ≤ y ∧ y ≤ 94))
      ⟨xs, a, none, none, none, none, rfl, k1, q1, k1.sqL hS, by omega, hb⟩ ?_ ?_
    · rintro i σ H' hi ⟨ys, r, y3, y4, y5, y6, rfl, kp, hp1, hr', hyl, hyb⟩
      have nat_at : ∀ j : Nat, j + i < 7 → ∃ v, atI (nums.map V.int) ((j : Int) + (0 + (i : Int))) = some (.int v) := fun j hj => by
        have e : (j : Int) + (0 + (i : Int)) = ((j + i : Nat) : Int) := by omega
        exact ⟨nums[j + i], by rw [e]; exact at_int (by omega)⟩
      obtain ⟨v1, a1⟩ := nat_at 1 (by omega)
      obtain ⟨v3, a3⟩ := nat_at 3 (by omega)
      obtain ⟨v5, a5⟩ := nat_at 5 (by omega)
      have hlen : ((ys.map V.int).length : Int) = (ys.length : Int) := by rw [List.length_map]
      obtain ⟨m, hm, hml⟩ : ∃ m : Nat, v1 % (((ys.map V.int).length : Int) + 1) = (m : Int) ∧ m ≤ ys.length := by
        rw [hlen]
        have z0 := Int.emod_nonneg v1 (b := (ys.length : Int) + 1) (by omega)
        have z1 := Int.emod_lt_of_pos v1 (b := (ys.length : Int) + 1) (by omega)
        exact ⟨(v1 % ((ys.length : Int) + 1)).toNat, by omega, by omega⟩
      refine ⟨_, rfl, _, rfl, _, _, rfl, rfl, p1, _, _, _, rfl, rfl, .inl (.inl hp1), a1, _, rfl, r, _, rfl, .inl hr', _, _, rfl, rfl, _, _, rfl, rfl, (by show (0 : Int) < ((ys.map V.int).length : Int) + 1; omega), ?_⟩
      refine ⟨_, rfl, _, rfl, _, _, rfl, rfl, p1, _, _, _, rfl, rfl, .inl (.inl hp1), a3, _, _, rfl, rfl, (by show (0 : Int) < 3; decide), ?_⟩
      refine ⟨_, rfl, _, rfl, _, _, rfl, rfl, p1, _, _, _, rfl, rfl, .inl (.inl hp1), a5, _, _, rfl, rfl, (by show (0 : Int) < 94; decide), _, _, rfl, rfl, _, rfl, _, rfl, _, _, rfl, rfl, p1, _, _, _, rfl, rfl, .inl (.inl hp1), a5, _, _, rfl, rfl, (by show (0 : Int) < 40; decide), _, _, rfl, rfl, szl (by show 5 ≤ 100000; decide), fun p6 n6 => ?_⟩
      generalize h_H6 : upd H' p6 _ = H6
      have k_H6 : Kp H' H6 := by rw [← h_H6]; exact .new n6
      have q_H6 := (congrFun h_H6 p6).symm.trans upd_same
      clear h_H6
      have hp6 := k_H6.same _ _ rfl hp1
      obtain ⟨z, bz, hz⟩ := at_5 v5 (v5 / 94)
      refine ⟨_, rfl, _, rfl, _, _, rfl, rfl, p1, _, _, _, rfl, rfl, .inl (.inl hp6), a5, _, _, rfl, rfl, ⟨by decide, by decide⟩, _, _, rfl, rfl, (by show (0 : Int) < 5; decide), p6, _, _, _, rfl, rfl, .inl (.inl q_H6), hz, ?_⟩
      have hr6 := k_H6.sqL hr'
      refine ⟨_, rfl, _, rfl, (m : Int), (by show V.int (v1 % _) = V.int m; rw [hm]), r, _, rfl, hr6, fun p7 n7 => ?_⟩
      generalize h_H7 : upd H6 p7 _ = H7
      have k_H7 : Kp H6 H7 := by rw [← h_H7]; exact .new n7
      have q_H7 := (congrFun h_H7 p7).symm.trans upd_same
      clear h_H7
      have q7 : H7 p7 = some (.lst ((ys.take m).map V.int)) := by rw [← cut_to]; exact q_H7
      refine ⟨_, rfl, rfl, _, rfl, iteD (fun cw => ?_) (fun cw => ?_)⟩
      · refine ⟨Nat.zero_le _, fun p8 n8 => ?_⟩
        generalize h_H8 : upd H7 p8 _ = H8
        have k_H8 : Kp H7 H8 := by rw [← h_H8]; exact .new n8
        have q_H8 := (congrFun h_H8 p8).symm.trans upd_same
        clear h_H8
        refine ⟨p7, p8, _, _, rfl, rfl, k_H8.same _ _ rfl q7, q_H8, szl (by rw [List.length_map, List.length_take]; show _ + 0 ≤ 100000; omega), fun p9 n9 => ?_⟩
        generalize h_H9 : upd H8 p9 _ = H9
        have k_H9 : Kp H8 H9 := by rw [← h_H9]; exact .new n9
        have q_H9 := (congrFun h_H9 p9).symm.trans upd_same
        clear h_H9
        have k69 := (k_H7.trans k_H8).trans k_H9
        have hr9 := k69.sqL hr6
        obtain ⟨o, ho, ho1⟩ : ∃ o : Nat, (m : Int) + (if decide (v3 % 3 < 2) = true then 1 else 0) = ((m + o : Nat) : Int) ∧ o ≤ 1 := by
          by_cases c : v3 % 3 < 2
          · exact ⟨1, by rw [decide_eq_true c]; rfl, by omega⟩
          · exact ⟨0, by rw [decide_eq_false c]; rfl, by omega⟩
        refine ⟨_, rfl, _, rfl, _, rfl, _, _, rfl, rfl, .inr ⟨_, rfl, _, _, rfl, rfl, ((m + o : Nat) : Int), (by show V.int (v1 % _ + _) = _; rw [hm, ← ho]), r, _, rfl, hr9, fun pa na => ?_⟩⟩
        generalize h_Ha : upd H9 pa _ = Ha
        have k_Ha : Kp H9 Ha := by rw [← h_Ha]; exact .new na
        have q_Ha := (congrFun h_Ha pa).symm.trans upd_same
        clear h_Ha
        have qa : Ha pa = some (.lst ((ys.drop (m + o)).map V.int)) := by rw [← cut_from]; exact q_Ha
        refine ⟨p9, pa, _, _, rfl, rfl, k_Ha.same _ _ rfl q_H9, qa, szl (by rw [List.length_append, List.length_map, List.length_map, List.length_take, List.length_drop]; show _ + 0 + _ ≤ 100000; omega), fun pb nb => ?_⟩
        generalize h_Hb : upd Ha pb _ = Hb
        have k_Hb : Kp Ha Hb := by rw [← h_Hb]; exact .new nb
        have q_Hb := (congrFun h_Hb pb).symm.trans upd_same
        clear h_Hb
        have kb := ((k_H6.trans k69).trans k_Ha).trans k_Hb
        refine ⟨ys.take m ++ [] ++ ys.drop (m + o), pb, _, _, _, _, rfl, kp.trans kb, kb.same _ _ rfl hp1, .inl (.inl ?_), ?_, fun y hy => ?_⟩
        · rw [q_Hb, List.map_append, List.map_append]
          rfl
        · rw [List.length_append, List.length_append, List.length_take, List.length_drop]
          show min m ys.length + 0 + (ys.length - (m + o)) ≤ _
          omega
        · rcases List.mem_append.mp hy with hy | hy
          · rcases List.mem_append.mp hy with hy | hy
            · exact hyb y (List.mem_of_mem_take hy)
            · cases hy
          · exact hyb y (List.mem_of_mem_drop hy)
      · refine ⟨_, rfl, szl (by show 1 ≤ 100000; decide), fun p8 n8 => ?_⟩
        generalize h_H8 : upd H7 p8 _ = H8
        have k_H8 : Kp H7 H8 := by rw [← h_H8]; exact .new n8
        have q_H8 := (congrFun h_H8 p8).symm.trans upd_same
        clear h_H8
        refine ⟨p7, p8, _, _, rfl, rfl, k_H8.same _ _ rfl q7, q_H8, szl (by rw [List.length_map, List.length_take]; show _ + 1 ≤ 100000; omega), fun p9 n9 => ?_⟩
        generalize h_H9 : upd H8 p9 _ = H9
        have k_H9 : Kp H8 H9 := by rw [← h_H9]; exact .new n9
        have q_H9 := (congrFun h_H9 p9).symm.trans upd_same
        clear h_H9
        have k69 := (k_H7.trans k_H8).trans k_H9
        have hr9 := k69.sqL hr6
        obtain ⟨o, ho, ho1⟩ : ∃ o : Nat, (m : Int) + (if decide (v3 % 3 < 2) = true then 1 else 0) = ((m + o : Nat) : Int) ∧ o ≤ 1 := by
          by_cases c : v3 % 3 < 2
          · exact ⟨1, by rw [decide_eq_true c]; rfl, by omega⟩
          · exact ⟨0, by rw [decide_eq_false c]; rfl, by omega⟩
        refine ⟨_, rfl, _, rfl, _, rfl, _, _, rfl, rfl, .inr ⟨_, rfl, _, _, rfl, rfl, ((m + o : Nat) : Int), (by show V.int (v1 % _ + _) = _; rw [hm, ← ho]), r, _, rfl, hr9, fun pa na => ?_⟩⟩
        generalize h_Ha : upd H9 pa _ = Ha
        have k_Ha : Kp H9 Ha := by rw [← h_Ha]; exact .new na
        have q_Ha := (congrFun h_Ha pa).symm.trans upd_same
        clear h_Ha
        have qa : Ha pa = some (.lst ((ys.drop (m + o)).map V.int)) := by rw [← cut_from]; exact q_Ha
        refine ⟨p9, pa, _, _, rfl, rfl, k_Ha.same _ _ rfl q_H9, qa, szl (by rw [List.length_append, List.length_map, List.length_map, List.length_take, List.length_drop]; show _ + 1 + _ ≤ 100000; omega), fun pb nb => ?_⟩
        generalize h_Hb : upd Ha pb _ = Hb
        have k_Hb : Kp Ha Hb := by rw [← h_Hb]; exact .new nb
        have q_Hb := (congrFun h_Hb pb).symm.trans upd_same
        clear h_Hb
        have kb := ((k_H6.trans k69).trans k_Ha).trans k_Hb
        refine ⟨ys.take m ++ [z] ++ ys.drop (m + o), pb, _, _, _, _, rfl, kp.trans kb, kb.same _ _ rfl hp1, .inl (.inl ?_), ?_, fun y hy => ?_⟩
        · rw [q_Hb, List.map_append, List.map_append]
          rfl
        · rw [List.length_append, List.length_append, List.length_take, List.length_drop]
          show min m ys.length + 1 + (ys.length - (m + o)) ≤ _
          omega
        · rcases List.mem_append.mp hy with hy | hy
          · rcases List.mem_append.mp hy with hy | hy
            · exact hyb y (List.mem_of_mem_take hy)
            · rw [List.mem_singleton.mp hy]
              exact bz
          · exact hyb y (List.mem_of_mem_drop hy)
    · rintro σ H' ⟨ys, r, y3, y4, y5, y6, rfl, kp, hp1, hr', hyl, hyb⟩
      exact ⟨_, rfl, k ys r H' (by omega) hyb kp hr'⟩
/-! ### what is told -/
def dOut : Sum Nat (List Str) → PyData
  | .inl i => .tuple [.str "", .int (i : Int)]
  | .inr ws => dS ws
theorem dp_dS {K : PySem.W.Frag} {H : Hp} {a : Addr} {ws : List Str} (h : SqL K H a (ws.map V.str)) : Dp K H (.ref a) (dS ws) := .lst h (dp_strs ws)
def sp_l_told (K : PySem.W.Frag) (C PS : Addr) : Sp := fun vs H Q _ => ∃ (p d1 d2 a : Addr) (bs : List Ent) (xs : List Int), vs = [.ref p, .ref a] ∧ BookAt C H p d1 d2 bs ∧ SqL K H a (xs.map V.int) ∧ xs.length ≤ 1000 ∧ (∀ x ∈ xs, 1 ≤ x ∧ x ≤ 94) ∧ GxR.TabG H PS ∧
  ∀ (v : V) (H' : Hp), Kp H H' → Dp K H' v (dOut (wordsV bs xs)) → (∀ q, v = .ref q → H q = none) → (∀ ws, wordsV bs xs = .inr ws → ∃ q, v = .ref q ∧ H' q = some (.lst (ws.map V.str))) → Q v H'
theorem ok_l_told (T : Txt K mg) (TBS : GxR.TabB base mg T.c_tabS T.P_tabS) : FnOk P w K mg base CX0 8 T.f_l_told T.d_l_told ["_law_book_here", "_law_signs_here"] (sp_l_told K T.a_Phrasebook T.P_tabS) := by
  refine T.F_l_told.ok sc_l_told (fun vs H Q E h => ?_) (fun cdv A outer s H vs Q E hr h => ?_)
  · obtain ⟨p, d1, d2, a, bs, xs, rfl, _⟩ := h
    rfl
  · obtain ⟨p, d1, d2, a, bs, xs, rfl, hB, hS, hl, hb, tg, k⟩ := h
    refine ⟨_, (pss_cons (ps_set (i := 2) sc_l_told.nd rfl (by first | exact Or.inl rfl | exact Or.inr rfl) pe_non)
      (pss_cons (ps_try_as (i := 3) rfl rfl sc_l_told.nd rfl rfl ⟨rfl, by decide, Or.inl T.g_MastError⟩ takes0
      (fun W pn xe tk _ => (pss_one (ps_set (i := 2) sc_l_told.nd rfl (by first | exact Or.inl rfl | exact Or.inr rfl) (pe_callS (ok_p_words_of T TBS) (hr.mono (by decide)) rfl T.g_p_words_of T.F_p_words_of.kp T.b_p_words_of (fun σ => passAt tk σ) (pa_cons (pv 0) (pa_cons (pv 1) pa_nil))))))
      (fun a oe cls d pn hz hf => (pss_one (ps_if (PW.pt (pw_and (pt_val (pe_callB (call_isX K rfl hz hf) (by rfl) T.m_isinstance (by decide +kernel) (pa_cons (pv 3) (pa_cons (pe_glob (v := .ref T.a_BadSigns) rfl T.g_BadSigns rfl) pa_nil)))) (pw_and1 (pt_val (pe_callB (call_isX K rfl hz hf) (by rfl) T.m_isinstance (by decide +kernel) (pa_cons (pv 3) (pa_cons (pe_bltn (v := .ty "ValueError") (by rfl) T.m_ValueError (by decide +kernel) rfl) pa_nil)))))))
      (pss_one (ps_set (i := 2) sc_l_told.nd rfl (by first | exact Or.inl rfl | exact Or.inr rfl) (pe_tup (pa_cons pe_str (pa_cons (pe_xf ⟨T.ga_BadSigns, T.gg_BadSigns, T.b_BadSigns, T.h_BadSigns⟩ T.nf_BadSigns_at hz hf (pv 3)) pa_nil)))))
      pss_nil))))
      (pss_one (ps_ret (pv 2))))), ?_⟩
    refine ⟨_, rfl, _, rfl, p, d1, d2, a, bs, xs, rfl, hB, hS, hl, hb, tg, fun ws he r H1 nr k1 hr1 => ?_, fun i he d H1 nd k1 hd => ?_⟩
    · refine ⟨_, rfl, k _ _ k1 ?_ (fun q e => by cases e; exact nr) (fun ws' e => by rw [he] at e; cases e; exact ⟨r, rfl, hr1⟩)⟩
      rw [he]
      exact dp_dS (.inl (.inl hr1))
    · have xc : ExcC K T.a_BadSigns := ⟨T.ga_BadSigns, T.gg_BadSigns, T.b_BadSigns, T.h_BadSigns, T.cl_BadSigns, T.oc_get, T.oc_tak, T.mo_BadSigns⟩
      refine ⟨true, PySem.W.exm_ref T.b_MastError T.h_MastError T.t_MastError T.s_BadSigns_MastError, fun _ e ne => ?_, fun q => Bool.noConfusion q⟩
      refine ⟨_, rfl, _, _, _, true, rfl, .inr ⟨d, _, rfl, hd⟩, xc, rfl, .own _, kit_sub T.i_BadSigns T.t_BadSigns T.s_BadSigns_BadSigns, _, rfl, iteTo rfl ?_⟩
      refine ⟨_, rfl, _, _, _, true, rfl, .inr ⟨d, _, rfl, hd⟩, xc, rfl, .ty _, kit_ve T.v_BadSigns, _, rfl, iteTo rfl ?_⟩
      refine ⟨_, rfl, rfl, rfl, d, _, _, rfl, hd, rfl, szl (by show 2 ≤ 100000; decide), fun u nu => ?_⟩
      refine ⟨_, rfl, k _ _ (k1.trans (.new nu)) ?_ (fun q e => by cases e; exact k1.free _ nu) (fun ws e => by rw [he] at e; cases e)⟩
      rw [he]
      exact .tup (.inl (.inl upd_same)) (.cons (.str _) (.cons (.int _) .nil))
/-! ### _law_read_word -/
def dKept (p : Int × Nat) : PyData := .tuple [.int p.1, .int (p.2 : Int)]
/-- what is read from here on: a word and the number of signs that it took, or a place -/
def readOne (bs : List Ent) (n : Nat) (l : List (Int × Nat)) : Sum Nat (Str × Nat) := match l with
  | [] => .inl n
  | q :: r => if q.1 ≤ 40 then match r with
      | [] => .inl n
      | q2 :: _ => if q2.1 ≤ 40 then match atP bs q.1 q2.1 with
          | some b => .inr (b.1.1, 2)
          | none => .inl q2.2
        else .inl q2.2
    else if isLet q.1 = true then match spellGo n (q :: r) [] with
      | .inl i => .inl i
      | .inr (cs, _) => .inr (⟨cs.toArray⟩, cs.length + 1)
    else .inl q.2
def dOne (at' : Nat) : Sum Nat (Str × Nat) → PyData
  | .inl i => .tuple [.str "", .int (i : Int)]
  | .inr (t, k) => .tuple [.str t, .int ((at' + k : Nat) : Int)]
def sgsV (ps : List (Int × Nat)) : List Int := ps.map (fun p => p.1) ++ [0]
def ensV (ps : List (Int × Nat)) (n : Nat) : List Int := ps.map (fun p => (p.2 : Int)) ++ [(n : Int)]
theorem sg_at {ps : List (Int × Nat)} {j : Nat} {q : Int × Nat} (h : ps[j]? = some q) : atI ((sgsV ps).map V.int) (j : Int) = some (.int q.1) := by
  have hj : j < ps.length := (List.getElem?_eq_some_iff.mp h).1
  refine atI_nat ?_
  unfold sgsV
  rw [List.getElem?_map, List.getElem?_append_left (by rw [List.length_map]; exact hj), List.getElem?_map, h]
  rfl
theorem sg_end {ps : List (Int × Nat)} : atI ((sgsV ps).map V.int) (ps.length : Int) = some (.int 0) := by
  refine atI_nat ?_
  unfold sgsV
  rw [List.getElem?_map, List.getElem?_append_right (by rw [List.length_map]; exact Nat.le_refl _), List.length_map, Nat.sub_self]
  rfl
theorem en_at {ps : List (Int × Nat)} {n j : Nat} {q : Int × Nat} (h : ps[j]? = some q) : atI ((ensV ps n).map V.int) (j : Int) = some (.int (q.2 : Int)) := by
  have hj : j < ps.length := (List.getElem?_eq_some_iff.mp h).1
  refine atI_nat ?_
  unfold ensV
  rw [List.getElem?_map, List.getElem?_append_left (by rw [List.length_map]; exact hj), List.getElem?_map, h]
  rfl
theorem en_end {ps : List (Int × Nat)} {n : Nat} : atI ((ensV ps n).map V.int) (ps.length : Int) = some (.int (n : Int)) := by
  refine atI_nat ?_
  unfold ensV
  rw [List.getElem?_map, List.getElem?_append_right (by rw [List.length_map]; exact Nat.le_refl _), List.length_map, Nat.sub_self]
  rfl
theorem kept_at {K : PySem.W.Frag} {H : Hp} {ws : List V} {ps : List (Int × Nat)} {i : Nat} {x : V} (h : DpAll K H ws (ps.map dKept)) (hi : ws[i]? = some x) : ∃ q, ps[i]? = some q ∧ ∃ t, x = .ref t ∧ SqT K H t [.int q.1, .int (q.2 : Int)] := by
  have hl := DpAll.len h
  rw [List.length_map] at hl
  have hj : i < ps.length := by
    have z := (List.getElem?_eq_some_iff.mp hi).1
    omega
  refine ⟨ps[i], List.getElem?_eq_getElem hj, ?_⟩
  obtain ⟨v, hv, dv⟩ := DpAll.get (i := i) (d := dKept ps[i]) h (by rw [List.getElem?_map, List.getElem?_eq_getElem hj]; rfl)
  rw [hi] at hv
  cases hv
  cases dv with
  | tup hs ha =>
    cases ha with | cons h1 ha =>
    cases ha with | cons h2 ha =>
    cases ha
    cases h1
    cases h2
    exact ⟨_, rfl, hs⟩
theorem ro_end {bs : List Ent} {n : Nat} {q : Int × Nat} (h : q.1 ≤ 40) : readOne bs n [q] = .inl n := by
  show (if q.1 ≤ 40 then _ else _) = _
  rw [if_pos h]
theorem ro_off {bs : List Ent} {n : Nat} {q q2 : Int × Nat} {r : List (Int × Nat)} (h : q.1 ≤ 40) (h2 : ¬ q2.1 ≤ 40) : readOne bs n (q :: q2 :: r) = .inl q2.2 := by
  show (if q.1 ≤ 40 then (if q2.1 ≤ 40 then _ else _) else _) = _
  rw [if_pos h, if_neg h2]
theorem ro_none {bs : List Ent} {n : Nat} {q q2 : Int × Nat} {r : List (Int × Nat)} (h : q.1 ≤ 40) (h2 : q2.1 ≤ 40) (e : atP bs q.1 q2.1 = none) : readOne bs n (q :: q2 :: r) = .inl q2.2 := by
  show (if q.1 ≤ 40 then (if q2.1 ≤ 40 then (match atP bs q.1 q2.1 with | some b => Sum.inr (b.1.1, 2) | none => .inl q2.2) else _) else _) = _
  rw [if_pos h, if_pos h2, e]
theorem ro_some {bs : List Ent} {n : Nat} {q q2 : Int × Nat} {r : List (Int × Nat)} {b : Ent} (h : q.1 ≤ 40) (h2 : q2.1 ≤ 40) (e : atP bs q.1 q2.1 = some b) : readOne bs n (q :: q2 :: r) = .inr (b.1.1, 2) := by
  show (if q.1 ≤ 40 then (if q2.1 ≤ 40 then (match atP bs q.1 q2.1 with | some b => Sum.inr (b.1.1, 2) | none => .inl q2.2) else _) else _) = _
  rw [if_pos h, if_pos h2, e]
def hereF (a l : Int) (e : Ent) : Bool := decide (e.1.2.1 = a ∧ e.1.2.2 = l)
theorem here_head {es : List Ent} {a l : Int} : (es.filter (hereF a l)).head? = atP es a l := by
  unfold atP
  rw [List.head?_filter]
  rfl
theorem ro_let {bs : List Ent} {n : Nat} {q : Int × Nat} {r : List (Int × Nat)} (h : ¬ q.1 ≤ 40) : readOne bs n (q :: r) = if isLet q.1 = true then (match spellGo n (q :: r) [] with | .inl i => .inl i | .inr (cs, _) => .inr (⟨cs.toArray⟩, cs.length + 1)) else .inl q.2 := by
  show (if q.1 ≤ 40 then _ else (if isLet q.1 = true then _ else _)) = _
  rw [if_neg h]
/-- the sign and the place at j, told by what is left from there -/
def sgD (l : List (Int × Nat)) : Int := match l with
  | [] => 0
  | q :: _ => q.1
def enD (n : Nat) (l : List (Int × Nat)) : Nat := match l with
  | [] => n
  | q :: _ => q.2
theorem sg_any {ps : List (Int × Nat)} {b : Nat} (h : b ≤ ps.length) : atI ((sgsV ps).map V.int) (b : Int) = some (.int (sgD (ps.drop b))) := by
  by_cases e : b < ps.length
  · rw [sg_at (List.getElem?_eq_getElem e), List.drop_eq_getElem_cons e]
    rfl
  · have e2 : b = ps.length := by omega
    subst e2
    rw [sg_end, List.drop_length]
    rfl
theorem en_any {ps : List (Int × Nat)} {n b : Nat} (h : b ≤ ps.length) : atI ((ensV ps n).map V.int) (b : Int) = some (.int (enD n (ps.drop b) : Int)) := by
  by_cases e : b < ps.length
  · rw [en_at (List.getElem?_eq_getElem e), List.drop_eq_getElem_cons e]
    rfl
  · have e2 : b = ps.length := by omega
    subst e2
    rw [en_end, List.drop_length]
    rfl
theorem spell_exit {n : Nat} {l : List (Int × Nat)} {cs : List Nat} (h : ¬ (isLet (sgD l) = true ∧ cs.length < 12)) : (sgD l = 67 → ∃ r, spellGo n l cs = .inr (cs, r)) ∧ (sgD l ≠ 67 → spellGo n l cs = .inl (enD n l)) := by
  cases l with
  | nil =>
    refine ⟨fun z => ?_, fun _ => rfl⟩
    have z : (0 : Int) = 67 := z
    omega
  | cons q r =>
    have h : ¬ (isLet q.1 = true ∧ cs.length < 12) := h
    have e : spellGo n (q :: r) cs = if q.1 = 67 then .inr (cs, r) else .inl q.2 := by
      show (if isLet q.1 = true ∧ cs.length < 12 then _ else _) = _
      rw [if_neg h]
    refine ⟨fun z => ⟨r, ?_⟩, fun z => ?_⟩
    · have z : q.1 = 67 := z
      rw [e, if_pos z]
    · have z : ¬ q.1 = 67 := z
      rw [e, if_neg z]
      rfl
theorem spell_step {n : Nat} {l : List (Int × Nat)} {cs : List Nat} (h : isLet (sgD l) = true ∧ cs.length < 12) : spellGo n l cs = spellGo n (l.drop 1) (cs ++ [97 + (sgD l - 41).toNat]) := by
  cases l with
  | nil =>
    have z := h.1
    cases z
  | cons q r =>
    have h : isLet q.1 = true ∧ cs.length < 12 := h
    show (if isLet q.1 = true ∧ cs.length < 12 then spellGo n r (cs ++ [97 + (q.1 - 41).toNat]) else _) = _
    rw [if_pos h]
    rfl
theorem word_no {cs : List Nat} (h : cs ≠ []) : decide (V.str ⟨cs.toArray⟩ = V.str "") = false := decide_eq_false fun z => by
  have e := V.str.inj z
  have e2 : cs = (Str.ofString "").cps.toList := by
    have y := congrArg (fun s : Str => s.cps.toList) e
    simpa using y
  have e3 : (Str.ofString "").cps.toList = [] := by decide +kernel
  rw [e3] at e2
  exact h e2
def sp_l_read_word (K : PySem.W.Frag) : Sp := fun vs H Q _ => ∃ (a dw : Addr) (ws : List V) (ps : List (Int × Nat)) (es : List Ent) (at' n : Nat), vs = [.ref a, .int (at' : Int), .ref dw, .int (n : Int)] ∧ SqL K H a ws ∧ DpAll K H ws (ps.map dKept) ∧ DictAt H dw es ∧ OwnW es ∧ es.length ≤ 1000 ∧ ps.length ≤ 1000 ∧ at' < ps.length ∧ (∀ p ∈ ps, 1 ≤ p.1 ∧ p.1 ≤ 94) ∧
  ∀ (v : V) (H' : Hp), Kp H H' → Dp K H' v (dOne at' (readOne es n (ps.drop at'))) → Q v H'
theorem ok_l_read_word (T : Txt K mg) : FnOk P w K mg base CX0 1 T.f_l_read_word T.d_l_read_word ["_law_kept", "_law_at", "_law_words", "_law_many"] (sp_l_read_word K) := by
  refine T.F_l_read_word.ok sc_l_read_word (fun vs H Q E h => ?_) (fun cdv A outer s H vs Q E hr h => ?_)
  · obtain ⟨a, dw, ws, ps, es, at', n, rfl, _⟩ := h
    rfl
  · obtain ⟨a, dw, ws, ps, es, at', n, rfl, hS, hW, hDi, hO, hel, hpl, hat, hsg, k⟩ := h
    have hu := hu_of hr
    refine ⟨_, (pss_cons (ps_set (i := 4) sc_l_read_word.nd rfl (by first | exact Or.inl rfl | exact Or.inr rfl) (pe_op op_cat (pe_lc (own := [("_law_pair", 5)]) (g := gName 5) (tt := tYes) (by rfl) sc_l_read_word.nd (pi_list (pv 0)) (blkOk_by (own := [("_law_pair", 5)]) (N := ["_law_kept", "_law_at", "_law_words", "_law_many", "_law_ends", "_law_pair", "_law_signs_here", "_law_there", "_law_word_here"]) (sc := defScope s_l_read_word) (by decide +kernel)) (fun _ _ _ _ _ => (pg_name (i := 5) sc_l_read_word.nd rfl (by first | exact Or.inl rfl | exact Or.inr rfl))) (fun _ _ _ _ _ => pts_nil) (fun _ _ _ _ _ => (pe_ix (ix_tupK K rfl) (pv 5) pe_int (fun _ _ => rfl)))) (pe_lst (pa_cons (pv 3) pa_nil))))
      (pss_cons (ps_set (i := 6) sc_l_read_word.nd rfl (by first | exact Or.inl rfl | exact Or.inr rfl) (pe_op op_cat (pe_lc (own := [("_law_pair", 5)]) (g := gName 5) (tt := tYes) (by rfl) sc_l_read_word.nd (pi_list (pv 0)) (blkOk_by (own := [("_law_pair", 5)]) (N := ["_law_kept", "_law_at", "_law_words", "_law_many", "_law_ends", "_law_pair", "_law_signs_here", "_law_there", "_law_word_here"]) (sc := defScope s_l_read_word) (by decide +kernel)) (fun _ _ _ _ _ => (pg_name (i := 5) sc_l_read_word.nd rfl (by first | exact Or.inl rfl | exact Or.inr rfl))) (fun _ _ _ _ _ => pts_nil) (fun _ _ _ _ _ => (pe_ix (ix_tupK K rfl) (pv 5) pe_int (fun _ _ => rfl)))) (pe_lst (pa_cons pe_int pa_nil))))
      (pss_cons (ps_if (pt_cmpR op_le (pe_ix ix_list (pv 6) (pv 1) (fun _ _ => rfl)) pe_int (nomark _))
      (pss_cons (ps_if (pt_not (pt_chain op_le op_le pe_int (pe_ix ix_list (pv 6) (pe_op op_add (pv 1) pe_int) (fun _ _ => rfl)) pe_int))
      (pss_one (ps_ret (pe_tup (pa_cons pe_str (pa_cons (pe_ix ix_list (pv 4) (pe_op op_add (pv 1) pe_int) (fun _ _ => rfl)) pa_nil)))))
      pss_nil)
      (pss_cons (ps_lock (ps_setLc (i := 7) (own := [("_law_word_here", 8)]) (g := gName 8) (by rfl) sc_l_read_word.nd rfl rfl (sw_true rfl rfl rfl (by decide +kernel)) (pi_keys (pv 2)) (blkOk_by (own := [("_law_word_here", 8)]) (N := ["_law_kept", "_law_at", "_law_words", "_law_many", "_law_ends", "_law_pair", "_law_signs_here", "_law_there", "_law_word_here"]) (sc := defScope s_l_read_word) (by decide +kernel)) (fun _ _ _ _ _ => (pg_name (i := 8) sc_l_read_word.nd rfl (by first | exact Or.inl rfl | exact Or.inr rfl))) (fun _ _ _ _ _ => (pts_one (pt_cmpR (op_eqDK K rfl hr.units) (pe_dget hu (pv 2) (pv 8) (fun _ _ => rfl)) (pe_tup (pa_cons (pe_ix (ix_listK K rfl) (pv 6) (pv 1) (fun _ _ => rfl)) (pa_cons (pe_ix (ix_listK K rfl) (pv 6) (pe_op op_add (pv 1) pe_int) (fun _ _ => rfl)) pa_nil))) (nomark _)))) (fun _ _ _ _ _ => (pv 8))))
      (pss_cons (ps_if (pt_cmpR op_eq (pe_callB call_len_seq (by rfl) T.m_len PySem.boot_len (pa_cons (pv 7) pa_nil)) pe_int (nomark _))
      (pss_one (ps_ret (pe_tup (pa_cons pe_str (pa_cons (pe_ix ix_list (pv 4) (pe_op op_add (pv 1) pe_int) (fun _ _ => rfl)) pa_nil)))))
      pss_nil)
      (pss_one (ps_ret (pe_tup (pa_cons (pe_ix ix_list (pv 7) pe_int (fun _ _ => rfl)) (pa_cons (pe_op op_add (pv 1) pe_int) pa_nil))))))))
      pss_nil)
      (pss_cons (ps_set (i := 8) sc_l_read_word.nd rfl (by first | exact Or.inl rfl | exact Or.inr rfl) pe_str)
      (pss_cons (ps_while PassesOwn.never (PW.pt (pw_and (pt_chain op_le op_le pe_int (pe_ix ix_list (pv 6) (pv 1) (fun _ _ => rfl)) pe_int) (pw_and1 (pt_cmpR op_lt (pe_callB call_len_str (by rfl) T.m_len PySem.boot_len (pa_cons (pv 8) pa_nil)) pe_int (nomark _)))))
      (pss_cons (ps_set (i := 8) sc_l_read_word.nd rfl (by first | exact Or.inl rfl | exact Or.inr rfl) (pe_op op_add_str (pv 8) (pe_ix ix_str pe_str (pe_op op_sub (pe_ix ix_list (pv 6) (pv 1) (fun _ _ => rfl)) pe_int) (fun _ _ => rfl))))
      (pss_one (ps_aug (i := 1) sc_l_read_word.nd rfl (by first | exact Or.inl rfl | exact Or.inr rfl) pe_int ip_add))))
      (pss_cons (ps_if (PW.pt (pw_or (pt_cmpR op_ne (pe_ix ix_list (pv 6) (pv 1) (fun _ _ => rfl)) pe_int (nomark _)) (pw_or1 (pt_cmpR op_eq (pv 8) pe_str (nomark _)))))
      (pss_one (ps_ret (pe_tup (pa_cons pe_str (pa_cons (pe_ix ix_list (pv 4) (pv 1) (fun _ _ => rfl)) pa_nil)))))
      pss_nil)
      (pss_one (ps_ret (pe_tup (pa_cons (pv 8) (pa_cons (pe_op op_add (pv 1) pe_int) pa_nil))))))))))), ?_⟩
    have hwl : ws.length = ps.length := by
      have z := DpAll.len hW
      rw [List.length_map] at z
      exact z
    refine ⟨_, rfl, a, rfl, ⟨_, hS⟩, fun D hD => ?_⟩
    refine lc_list (K := K) (a := a) (xs := ws) (fun i H' => Kp H H' ∧ H' D = some (.lst (((ps.take i).map (fun p => (p.2 : Int))).map V.int))) ⟨Kp.new hD, upd_same⟩ (fun i H' _ ⟨kp, _⟩ => kp.sqL hS) (fun i x H' hi ⟨kp, hl0⟩ => ?_) (fun H1 ⟨kH1, qD⟩ => ?_)
    · obtain ⟨q, hq, t, rfl, st⟩ := kept_at (hW) hi
      have hil : i < ps.length := (List.getElem?_eq_some_iff.mp hq).1
      refine ⟨rfl, _, rfl, t, _, _, _, rfl, rfl, kp.sqT st, rfl, _, hl0, szt (by rw [List.length_map, List.length_map, List.length_take]; omega), kp.mut hD, ?_⟩
      rw [upd_same, take_snoc hq, List.map_append, List.map_append]
      rfl
    rw [hwl, List.take_length] at qD
    refine ⟨_, rfl, szl (by show 1 ≤ 100000; decide), fun p2 n2 => ?_⟩
    generalize h_H2 : upd H1 p2 _ = H2
    have k_H2 : Kp H1 H2 := by rw [← h_H2]; exact .new n2
    have q_H2 := (congrFun h_H2 p2).symm.trans upd_same
    clear h_H2
    refine ⟨D, p2, _, _, rfl, rfl, k_H2.same _ _ rfl qD, q_H2, szl (by rw [List.length_map, List.length_map]; show _ + 1 ≤ 100000; omega), fun en nen => ?_⟩
    generalize h_H3 : upd H2 en _ = H3
    have k_H3 : Kp H2 H3 := by rw [← h_H3]; exact .new nen
    have q_H3 := (congrFun h_H3 en).symm.trans upd_same
    clear h_H3
    have k3 : Kp H H3 := (kH1.trans k_H2).trans k_H3
    have e3 : H3 en = some (.lst ((ensV ps n).map V.int)) := by
      rw [q_H3]
      unfold ensV
      rw [List.map_append]
      rfl
    refine ⟨_, rfl, a, rfl, ⟨_, (k3.sqL hS)⟩, fun D2 hD2 => ?_⟩
    refine lc_list (K := K) (a := a) (xs := ws) (fun i H' => Kp H3 H' ∧ H' D2 = some (.lst (((ps.take i).map (fun p => p.1)).map V.int))) ⟨Kp.new hD2, upd_same⟩ (fun i H' _ ⟨kp, _⟩ => kp.sqL (k3.sqL hS)) (fun i x H' hi ⟨kp, hl0⟩ => ?_) (fun H4 ⟨kH4, qD2⟩ => ?_)
    · obtain ⟨q, hq, t, rfl, st⟩ := kept_at (k3.dpAll hW) hi
      have hil : i < ps.length := (List.getElem?_eq_some_iff.mp hq).1
      refine ⟨rfl, _, rfl, t, _, _, _, rfl, rfl, kp.sqT st, rfl, _, hl0, szt (by rw [List.length_map, List.length_map, List.length_take]; omega), kp.mut hD2, ?_⟩
      rw [upd_same, take_snoc hq, List.map_append, List.map_append]
      rfl
    rw [hwl, List.take_length] at qD2
    refine ⟨szl (by show 1 ≤ 100000; decide), fun p5 n5 => ?_⟩
    generalize h_H5 : upd H4 p5 _ = H5
    have k_H5 : Kp H4 H5 := by rw [← h_H5]; exact .new n5
    have q_H5 := (congrFun h_H5 p5).symm.trans upd_same
    clear h_H5
    refine ⟨D2, p5, _, _, rfl, rfl, k_H5.same _ _ rfl qD2, q_H5, szl (by rw [List.length_map, List.length_map]; show _ + 1 ≤ 100000; omega), fun sg nsg => ?_⟩
    generalize h_H6 : upd H5 sg _ = H6
    have k_H6 : Kp H5 H6 := by rw [← h_H6]; exact .new nsg
    have q_H6 := (congrFun h_H6 sg).symm.trans upd_same
    clear h_H6
    have k36 : Kp H3 H6 := (kH4.trans k_H5).trans k_H6
    have s6 : H6 sg = some (.lst ((sgsV ps).map V.int)) := by
      rw [q_H6]
      unfold sgsV
      rw [List.map_append]
      rfl
    have e6 := k36.same _ _ rfl e3
    have k6 := k3.trans k36
    have D6 := hDi.kp k6
    obtain ⟨q, hq⟩ : ∃ q, ps[at']? = some q := ⟨_, List.getElem?_eq_getElem hat⟩
    have hdrop : ps.drop at' = q :: ps.drop (at' + 1) := by
      obtain ⟨hi, eq⟩ := List.getElem?_eq_some_iff.mp hq
      rw [List.drop_eq_getElem_cons hi, eq]
    rw [hdrop] at k
    refine ⟨_, rfl, _, rfl, sg, _, _, _, rfl, rfl, .inl (.inl s6), sg_at hq, _, _, rfl, rfl, _, rfl, iteD (fun c => ?_) (fun c => ?_)⟩
    · by_cases hn : at' + 1 < ps.length
      · obtain ⟨q2, hq2⟩ : ∃ q2, ps[at' + 1]? = some q2 := ⟨_, List.getElem?_eq_getElem hn⟩
        have hdrop2 : ps.drop (at' + 1) = q2 :: ps.drop (at' + 1 + 1) := by
          obtain ⟨hi, eq⟩ := List.getElem?_eq_some_iff.mp hq2
          rw [List.drop_eq_getElem_cons hi, eq]
        rw [hdrop2] at k
        have hb2 := hsg q2 (List.mem_of_getElem? hq2)
        refine ⟨_, rfl, _, rfl, _, _, rfl, rfl, sg, _, _, _, rfl, rfl, .inl (.inl s6), sg_at (j := at' + 1) hq2, _, _, rfl, rfl, _, rfl, iteTo (decide_eq_true hb2.1) ⟨_, _, rfl, rfl, _, rfl, ?_⟩⟩
        by_cases c2 : q2.1 ≤ 40
        · refine iteFo (by rw [decide_eq_true c2]; rfl) ?_
          refine ⟨dw, _, D6.wd, trivial, fun od => ?_⟩
          refine ⟨_, rfl, dw, od, rfl, .inl ⟨kvW es, upd_same, fun D3 hD3 => ?_⟩⟩
          have nsd : sg ≠ dw := ne_of s6 D6.wd (by intro z; cases z)
          have s6L : upd H6 dw (.frz od (.dK (kvW es))) sg = some (.lst ((sgsV ps).map V.int)) := by
            rw [upd_ne nsd]
            exact s6
          refine lc_it (walk_keys (d := dw) (o := od) (kvs := kvW es)) (fun i H' => Kp (upd H6 dw (.frz od (.dK (kvW es)))) H' ∧ H' D3 = some (.lst (((es.take i).filter (hereF q.1 q2.1)).map fun e => V.str e.1.1))) ⟨Kp.new hD3, upd_same⟩ (fun i H' _ ⟨kk, _⟩ => kk.same _ _ rfl upd_same) (fun i x H7 H8 hi2 ⟨kk, hl7⟩ ⟨e8, ky, v, hkv, hx⟩ => ?_) (fun H7 ⟨kk, hl7⟩ => ?_)
          · subst e8
            subst hx
            obtain ⟨e, he, rfl, rfl⟩ := kvW_at hkv
            have hil : i < es.length := (List.getElem?_eq_some_iff.mp he).1
            have te : H8 e.2 = some (.tup [.int e.1.2.1, .int e.1.2.2]) := by
              have z := D6.tu e (List.mem_of_getElem? he)
              exact kk.same _ _ rfl (by rw [upd_ne (ne_of z D6.wd (by intro z; cases z))]; exact z)
            have s8 := kk.same _ _ rfl s6L
            refine ⟨rfl, ?_⟩
            refine ⟨_, rfl, _, rfl, dw, _, rfl, .inl ⟨kvW es, Sum.inr e.1.1, .inr ⟨od, kk.same _ _ rfl upd_same⟩, rfl, (by rw [valW, hO e (List.mem_of_getElem? he)]; rfl)⟩, _, rfl, _, rfl, sg, _, _, _, rfl, rfl, .inl (.inl s8), sg_at hq, _, rfl, _, rfl, _, _, rfl, rfl, sg, _, _, _, rfl, rfl, .inl (.inl s8), sg_at (j := at' + 1) hq2, szl (by show 2 ≤ 100000; decide), fun u nu => ?_⟩
            generalize h_H9 : upd H8 u _ = H9
            have k_H9 : Kp H8 H9 := by rw [← h_H9]; exact .new nu
            have q_H9 := (congrFun h_H9 u).symm.trans upd_same
            clear h_H9
            have hl9 := k_H9.same _ _ rfl hl7
            have tk : (es.take (i + 1)).filter (hereF q.1 q2.1) = (es.take i).filter (hereF q.1 q2.1) ++ [e].filter (hereF q.1 q2.1) := by rw [take_snoc he, List.filter_append]
            refine ⟨.tuple [.int e.1.2.1, .int e.1.2.2], .tuple [.int q.1, .int q2.1], .tup (.inl (.inl (k_H9.same _ _ rfl te))) (.cons (.int _) (.cons (.int _) .nil)), .tup (.inl (.inl q_H9)) (.cons (.int _) (.cons (.int _) .nil)), rfl, rfl, _, rfl, ?_⟩
            have ev : PyData.eqv (.tuple [.int e.1.2.1, .int e.1.2.2]) (.tuple [.int q.1, .int q2.1]) = hereF q.1 q2.1 e := by
              show ((e.1.2.1 == q.1) && ((e.1.2.2 == q2.1) && true)) = decide (e.1.2.1 = q.1 ∧ e.1.2.2 = q2.1)
              rw [Bool.and_true, Bool.eq_iff_iff]
              simp
            rw [ev]
            refine iteB (fun cf => ?_) (fun cf => ?_)
            · refine ⟨_, rfl, _, hl9, szt (by rw [List.length_map]; have z := List.length_filter_le (hereF q.1 q2.1) (es.take i); rw [List.length_take] at z; omega), (kk.trans k_H9).mut hD3, ?_⟩
              rw [upd_same, tk, List.filter_cons_of_pos cf, List.map_append]
              rfl
            · refine ⟨kk.trans k_H9, ?_⟩
              rw [tk, List.filter_cons_of_neg (by rw [cf]; decide)]
              show H9 D3 = some (.lst ((((es.take i).filter _) ++ []).map _))
              rw [List.append_nil]
              exact hl9
          · have ekl : (kvW es).length = es.length := by unfold kvW; rw [List.length_map]
            rw [ekl, List.take_length] at hl7
            refine ⟨kk.same _ _ rfl upd_same, ?_⟩
            have ku := Kp.unlock D6.wd rfl kk
            have nDw : D3 ≠ dw := fun z => by
              rw [z, upd_same] at hD3
              cases hD3
            have h9 : upd H7 dw (.dK (kvW es)) D3 = some (.lst ((es.filter (hereF q.1 q2.1)).map fun e => V.str e.1.1)) := by
              rw [upd_ne nDw]
              exact hl7
            generalize upd H7 dw (.dK (kvW es)) = H9 at ku h9 ⊢
            have hh := here_head (es := es) (a := q.1) (l := q2.1)
            have k9 := k6.trans ku
            have e9 := ku.same _ _ rfl e6
            cases ef : es.filter (hereF q.1 q2.1) with
            | nil =>
              rw [ef] at h9 hh
              rw [ro_none c c2 hh.symm] at k
              refine ⟨_, rfl, D3, _, rfl, .inl (.inl (.inl h9)), rfl, _, rfl, iteTo rfl ?_⟩
              refine ⟨_, rfl, _, rfl, _, _, rfl, rfl, en, _, _, _, rfl, rfl, .inl (.inl e9), en_at (j := at' + 1) hq2, szl (by show 2 ≤ 100000; decide), fun u nu => ?_⟩
              exact k _ _ (k9.trans (.new nu)) (.tup (.inl (.inl upd_same)) (.cons (.str _) (.cons (.int _) .nil)))
            | cons b bt =>
              rw [ef] at h9 hh
              rw [ro_some c c2 hh.symm] at k
              refine ⟨_, rfl, D3, _, rfl, .inl (.inl (.inl h9)), rfl, _, rfl, iteFo ?_ ?_⟩
              · exact decide_eq_false fun z => by
                  have y := V.int.inj z
                  rw [List.length_map, List.length_cons] at y
                  omega
              · refine ⟨_, rfl, D3, _, _, _, rfl, rfl, .inl (.inl h9), atI_nat (j := 0) rfl, _, rfl, _, _, rfl, rfl, szl (by show 2 ≤ 100000; decide), fun u nu => ?_⟩
                exact k _ _ (k9.trans (.new nu)) (.tup (.inl (.inl upd_same)) (.cons (.str _) (.cons (.int _) .nil)))
        · refine iteTo (by rw [decide_eq_false c2]; rfl) ?_
          rw [ro_off c c2] at k
          refine ⟨_, rfl, _, rfl, _, _, rfl, rfl, en, _, _, _, rfl, rfl, .inl (.inl e6), en_at (j := at' + 1) hq2, szl (by show 2 ≤ 100000; decide), fun u nu => ?_⟩
          exact k _ _ (k6.trans (.new nu)) (.tup (.inl (.inl upd_same)) (.cons (.str _) (.cons (.int _) .nil)))
      · have e1 : at' + 1 = ps.length := by omega
        have hdrop2 : ps.drop (at' + 1) = [] := by rw [e1, List.drop_length]
        rw [hdrop2, ro_end c] at k
        have se := sg_end (ps := ps)
        have ee := en_end (ps := ps) (n := n)
        rw [← e1] at se ee
        refine ⟨_, rfl, _, rfl, _, _, rfl, rfl, sg, _, _, _, rfl, rfl, .inl (.inl s6), se, _, _, rfl, rfl, _, rfl, iteFo rfl ⟨_, rfl, iteT ?_⟩⟩
        refine ⟨_, rfl, _, rfl, _, _, rfl, rfl, en, _, _, _, rfl, rfl, .inl (.inl e6), ee, szl (by show 2 ≤ 100000; decide), fun u nu => ?_⟩
        exact k _ _ (k6.trans (.new nu)) (.tup (.inl (.inl upd_same)) (.cons (.str _) (.cons (.int _) .nil)))
    · rw [ro_let c] at k
      have e0 : enD n (ps.drop at') = q.2 := by rw [hdrop]; rfl
      have g0 : sgD (ps.drop at') = q.1 := by rw [hdrop]; rfl
      refine ⟨fun m σ H' => H' = H6 ∧ ∃ (b : Nat) (cs : List Nat) (y5 y7 : Option V), σ = [some (.ref a), some (.int (b : Int)), some (.ref dw), some (.int (n : Int)), some (.ref en), y5, some (.ref sg), y7, some (.str ⟨cs.toArray⟩)] ∧ b = at' + cs.length ∧ b ≤ ps.length ∧ m = ps.length - b ∧ cs.length ≤ 12 ∧ spellGo n (ps.drop b) cs = spellGo n (ps.drop at') [] ∧ (cs ≠ [] → isLet q.1 = true),
        ⟨_, rfl, at', [], _, _, rfl, rfl, by omega, rfl, by simp, rfl, fun z => absurd rfl z⟩, ?_⟩
      rintro m σ H' ⟨rfl, b, cs, y5, y7, rfl, hbe, hbl, rfl, hcs, hg, hne⟩
      have sa := sg_any hbl
      have ea := en_any (n := n) hbl
      refine ⟨_, rfl, _, rfl, sg, _, _, _, rfl, rfl, .inl (.inl s6), sa, _, _, rfl, rfl, _, rfl, ?_⟩
      by_cases c41 : 41 ≤ sgD (ps.drop b)
      · refine iteTo (decide_eq_true c41) ⟨_, _, rfl, rfl, _, rfl, ?_⟩
        by_cases c66 : sgD (ps.drop b) ≤ 66
        · have il : isLet (sgD (ps.drop b)) = true := by
            unfold isLet
            rw [decide_eq_true (show 40 < sgD (ps.drop b) by omega), decide_eq_true c66]
            rfl
          refine iteTo (decide_eq_true c66) ?_
          have elen : (⟨cs.toArray⟩ : Str).length = cs.length := List.size_toArray
          refine ⟨_, rfl, _, rfl, szl (by rw [elen]; omega), _, _, rfl, rfl, _, rfl, iteD (fun c12 => ?_) (fun c12 => ?_)⟩
          · have c12 : cs.length < 12 := by
              have z : ((⟨cs.toArray⟩ : Str).length : Int) < 12 := c12
              rw [elen] at z
              omega
            have hlt : b < ps.length := by
              by_cases e : b < ps.length
              · exact e
              · exfalso
                have e2 : b = ps.length := by omega
                rw [e2, List.drop_length] at c41
                have z : (41 : Int) ≤ 0 := c41
                omega
            obtain ⟨j, hj, hj2⟩ : ∃ j : Nat, sgD (ps.drop b) = 41 + (j : Int) ∧ j < 26 := ⟨(sgD (ps.drop b) - 41).toNat, by omega, by omega⟩
            have ej : (sgD (ps.drop b) - 41).toNat = j := by omega
            refine ⟨_, fun σ' H'' w => w, ?_⟩
            refine ⟨_, rfl, _, rfl, _, rfl, sg, _, _, _, rfl, rfl, .inl (.inl s6), sa, _, _, rfl, rfl, abc, _, 97 + j, rfl, rfl, (by rw [abc_len]; decide), (by rw [show sgD (ps.drop b) - 41 = (j : Int) by omega]; exact abc_at hj2), _, _, rfl, rfl, szl (by rw [elen]; show _ + 1 ≤ 100000; omega), ?_⟩
            rw [str_snoc]
            refine ⟨_, rfl, _, _, rfl, rfl, ps.length - (b + 1), by omega, rfl, b + 1, cs ++ [97 + j], _, _, rfl, by rw [List.length_append, List.length_singleton]; omega, by omega, rfl, by rw [List.length_append, List.length_singleton]; omega, ?_, fun _ => ?_⟩
            · rw [← hg, spell_step ⟨il, c12⟩, ej, List.drop_drop]
            · by_cases ec : cs = []
              · have eb : b = at' := by rw [hbe, ec]; rfl
                rw [← g0, ← eb]
                exact il
              · exact hne ec
          · have nl : ¬ (isLet (sgD (ps.drop b)) = true ∧ cs.length < 12) := fun z => c12 (by show ((⟨cs.toArray⟩ : Str).length : Int) < 12; rw [elen]; omega)
            have hx := spell_exit (n := n) (l := ps.drop b) (cs := cs) nl
            refine ⟨_, rfl, _, rfl, sg, _, _, _, rfl, rfl, .inl (.inl s6), sa, rfl, _, rfl, ?_⟩
            by_cases e7 : sgD (ps.drop b) = 67
            · refine iteFo (by rw [e7]; decide +kernel) ⟨_, rfl, rfl, _, rfl, ?_⟩
              by_cases ec : cs = []
              · refine iteTo (by rw [ec]; decide +kernel) ?_
                refine ⟨_, rfl, _, rfl, en, _, _, _, rfl, rfl, .inl (.inl e6), ea, szl (by show 2 ≤ 100000; decide), fun u nu => ?_⟩
                have eb : b = at' := by rw [hbe, ec]; rfl
                rw [eb] at e7 ⊢
                rw [if_neg (by rw [g0] at e7; rw [e7]; decide), ← e0] at k
                exact k _ _ (k6.trans (.new nu)) (.tup (.inl (.inl upd_same)) (.cons (.str _) (.cons (.int _) .nil)))
              · refine iteFo (word_no ec) ?_
                obtain ⟨r9, h9⟩ := hx.1 e7
                rw [if_pos (hne ec), ← hdrop, ← hg, h9] at k
                refine ⟨_, rfl, _, rfl, _, _, rfl, rfl, szl (by show 2 ≤ 100000; decide), fun u nu => ?_⟩
                refine k _ _ (k6.trans (.new nu)) (.tup (.inl (.inl upd_same)) (.cons (.str _) (.cons ?_ .nil)))
                have ez : ((b : Int) + 1) = ((at' + (cs.length + 1) : Nat) : Int) := by omega
                show Dp K _ (.int ((b : Int) + 1)) (.int ((at' + (cs.length + 1) : Nat) : Int))
                rw [ez]
                exact .int _
            · refine iteTo (by rw [decide_eq_false (fun z => e7 (V.int.inj z))]; rfl) ?_
              refine ⟨_, rfl, _, rfl, en, _, _, _, rfl, rfl, .inl (.inl e6), ea, szl (by show 2 ≤ 100000; decide), fun u nu => ?_⟩
              have hx2 := hx.2 e7
              by_cases ec : cs = []
              · have eb : b = at' := by rw [hbe, ec]; rfl
                have nl0 : ¬ isLet q.1 = true := fun z => nl ⟨by rw [eb, g0]; exact z, by rw [ec]; decide⟩
                rw [eb]
                rw [if_neg nl0, ← e0] at k
                exact k _ _ (k6.trans (.new nu)) (.tup (.inl (.inl upd_same)) (.cons (.str _) (.cons (.int _) .nil)))
              · rw [if_pos (hne ec), ← hdrop, ← hg, hx2] at k
                exact k _ _ (k6.trans (.new nu)) (.tup (.inl (.inl upd_same)) (.cons (.str _) (.cons (.int _) .nil)))
        · have nl : ¬ (isLet (sgD (ps.drop b)) = true ∧ cs.length < 12) := fun z => by
            have y := z.1
            unfold isLet at y
            rw [decide_eq_false c66, Bool.and_false] at y
            cases y
          refine iteFo (decide_eq_false c66) (iteF ?_)
          have hx := spell_exit (n := n) (l := ps.drop b) (cs := cs) nl
          refine ⟨_, rfl, _, rfl, sg, _, _, _, rfl, rfl, .inl (.inl s6), sa, rfl, _, rfl, ?_⟩
          by_cases e7 : sgD (ps.drop b) = 67
          · refine iteFo (by rw [e7]; decide +kernel) ⟨_, rfl, rfl, _, rfl, ?_⟩
            by_cases ec : cs = []
            · refine iteTo (by rw [ec]; decide +kernel) ?_
              refine ⟨_, rfl, _, rfl, en, _, _, _, rfl, rfl, .inl (.inl e6), ea, szl (by show 2 ≤ 100000; decide), fun u nu => ?_⟩
              have eb : b = at' := by rw [hbe, ec]; rfl
              rw [eb] at e7 ⊢
              rw [if_neg (by rw [g0] at e7; rw [e7]; decide), ← e0] at k
              exact k _ _ (k6.trans (.new nu)) (.tup (.inl (.inl upd_same)) (.cons (.str _) (.cons (.int _) .nil)))
            · refine iteFo (word_no ec) ?_
              obtain ⟨r9, h9⟩ := hx.1 e7
              rw [if_pos (hne ec), ← hdrop, ← hg, h9] at k
              refine ⟨_, rfl, _, rfl, _, _, rfl, rfl, szl (by show 2 ≤ 100000; decide), fun u nu => ?_⟩
              refine k _ _ (k6.trans (.new nu)) (.tup (.inl (.inl upd_same)) (.cons (.str _) (.cons ?_ .nil)))
              have ez : ((b : Int) + 1) = ((at' + (cs.length + 1) : Nat) : Int) := by omega
              show Dp K _ (.int ((b : Int) + 1)) (.int ((at' + (cs.length + 1) : Nat) : Int))
              rw [ez]
              exact .int _
          · refine iteTo (by rw [decide_eq_false (fun z => e7 (V.int.inj z))]; rfl) ?_
            refine ⟨_, rfl, _, rfl, en, _, _, _, rfl, rfl, .inl (.inl e6), ea, szl (by show 2 ≤ 100000; decide), fun u nu => ?_⟩
            have hx2 := hx.2 e7
            by_cases ec : cs = []
            · have eb : b = at' := by rw [hbe, ec]; rfl
              have nl0 : ¬ isLet q.1 = true := fun z => nl ⟨by rw [eb, g0]; exact z, by rw [ec]; decide⟩
              rw [eb]
              rw [if_neg nl0, ← e0] at k
              exact k _ _ (k6.trans (.new nu)) (.tup (.inl (.inl upd_same)) (.cons (.str _) (.cons (.int _) .nil)))
            · rw [if_pos (hne ec), ← hdrop, ← hg, hx2] at k
              exact k _ _ (k6.trans (.new nu)) (.tup (.inl (.inl upd_same)) (.cons (.str _) (.cons (.int _) .nil)))
      · have nl : ¬ (isLet (sgD (ps.drop b)) = true ∧ cs.length < 12) := fun z => by
          have y := z.1
          unfold isLet at y
          rw [decide_eq_false (show ¬ 40 < sgD (ps.drop b) by omega), Bool.false_and] at y
          cases y
        refine iteFo (decide_eq_false c41) ⟨_, rfl, iteF (iteF ?_)⟩
        have hx := spell_exit (n := n) (l := ps.drop b) (cs := cs) nl
        refine ⟨_, rfl, _, rfl, sg, _, _, _, rfl, rfl, .inl (.inl s6), sa, rfl, _, rfl, ?_⟩
        by_cases e7 : sgD (ps.drop b) = 67
        · refine iteFo (by rw [e7]; decide +kernel) ⟨_, rfl, rfl, _, rfl, ?_⟩
          by_cases ec : cs = []
          · refine iteTo (by rw [ec]; decide +kernel) ?_
            refine ⟨_, rfl, _, rfl, en, _, _, _, rfl, rfl, .inl (.inl e6), ea, szl (by show 2 ≤ 100000; decide), fun u nu => ?_⟩
            have eb : b = at' := by rw [hbe, ec]; rfl
            rw [eb] at e7 ⊢
            rw [if_neg (by rw [g0] at e7; rw [e7]; decide), ← e0] at k
            exact k _ _ (k6.trans (.new nu)) (.tup (.inl (.inl upd_same)) (.cons (.str _) (.cons (.int _) .nil)))
          · refine iteFo (word_no ec) ?_
            obtain ⟨r9, h9⟩ := hx.1 e7
            rw [if_pos (hne ec), ← hdrop, ← hg, h9] at k
            refine ⟨_, rfl, _, rfl, _, _, rfl, rfl, szl (by show 2 ≤ 100000; decide), fun u nu => ?_⟩
            refine k _ _ (k6.trans (.new nu)) (.tup (.inl (.inl upd_same)) (.cons (.str _) (.cons ?_ .nil)))
            have ez : ((b : Int) + 1) = ((at' + (cs.length + 1) : Nat) : Int) := by omega
            show Dp K _ (.int ((b : Int) + 1)) (.int ((at' + (cs.length + 1) : Nat) : Int))
            rw [ez]
            exact .int _
        · refine iteTo (by rw [decide_eq_false (fun z => e7 (V.int.inj z))]; rfl) ?_
          refine ⟨_, rfl, _, rfl, en, _, _, _, rfl, rfl, .inl (.inl e6), ea, szl (by show 2 ≤ 100000; decide), fun u nu => ?_⟩
          have hx2 := hx.2 e7
          by_cases ec : cs = []
          · have eb : b = at' := by rw [hbe, ec]; rfl
            have nl0 : ¬ isLet q.1 = true := fun z => nl ⟨by rw [eb, g0]; exact z, by rw [ec]; decide⟩
            rw [eb]
            rw [if_neg nl0, ← e0] at k
            exact k _ _ (k6.trans (.new nu)) (.tup (.inl (.inl upd_same)) (.cons (.str _) (.cons (.int _) .nil)))
          · rw [if_pos (hne ec), ← hdrop, ← hg, hx2] at k
            exact k _ _ (k6.trans (.new nu)) (.tup (.inl (.inl upd_same)) (.cons (.str _) (.cons (.int _) .nil)))
/-! ### _law_read -/
theorem cut_last (ws : List V) : cutV ws none (some (-1)) = ws.dropLast := by
  unfold cutV
  rw [HT.sIx_none]
  have e : HT.sIx ws.length ws.length (some (-1)) = ws.length - 1 := by
    show (if (-1 : Int) < 0 then ((-1 : Int) + (ws.length : Int)).toNat else min (-1 : Int).toNat ws.length) = _
    rw [if_pos (by decide)]
    omega
  rw [e, List.drop_zero, Nat.sub_zero, List.dropLast_eq_take]
theorem read_one {bs : List Ent} {n f : Nat} {q : Int × Nat} {r : List (Int × Nat)} {acc : List Str} : readGo bs n (f + 1) (q :: r) acc = match readOne bs n (q :: r) with
    | .inl i => .inl i
    | .inr (t, k) => readGo bs n f ((q :: r).drop k) (acc ++ [t]) := by
  by_cases c : q.1 ≤ 40
  · cases r with
    | nil =>
      rw [ro_end c]
      unfold readGo
      rw [if_pos c]
    | cons q2 r2 =>
      by_cases c2 : q2.1 ≤ 40
      · cases e : atP bs q.1 q2.1 with
        | none =>
          rw [ro_none c c2 e]
          unfold readGo
          simp only [if_pos c, if_pos c2, e]
        | some b =>
          rw [ro_some c c2 e]
          conv => lhs; unfold readGo
          simp only [if_pos c, if_pos c2, e]
          rfl
      · rw [ro_off c c2]
        unfold readGo
        simp only [if_pos c, if_neg c2]
  · rw [ro_let c]
    conv => lhs; unfold readGo
    rw [if_neg c]
    by_cases il : isLet q.1 = true
    · rw [if_pos il, if_pos il]
      cases e : spellGo n (q :: r) [] with
      | inl i => rfl
      | inr z =>
        obtain ⟨cs, r'⟩ := z
        obtain ⟨_, _, z3⟩ := spell_rest e
        rw [List.length_nil, Nat.sub_zero] at z3
        show readGo bs n f r' (acc ++ [⟨cs.toArray⟩]) = readGo bs n f ((q :: r).drop (cs.length + 1)) (acc ++ [⟨cs.toArray⟩])
        rw [← z3]
    · rw [if_neg il, if_neg il]
theorem text_no {t : Str} (h : 1 ≤ t.length) : decide (V.str t = V.str "") = false := decide_eq_false fun z => by
  have e : t.length = (Str.ofString "").length := congrArg Str.length (V.str.inj z)
  have e2 : (Str.ofString "").length = 0 := by decide +kernel
  omega
theorem one_word {bs : List Ent} {n : Nat} {l : List (Int × Nat)} {t : Str} {k : Nat} (hw : ∀ b ∈ bs, isW b.1.1 = true) (h : readOne bs n l = .inr (t, k)) : 1 ≤ k ∧ k ≤ l.length ∧ decide (V.str t = V.str "") = false := by
  cases l with
  | nil => cases h
  | cons q r =>
    by_cases c : q.1 ≤ 40
    · cases r with
      | nil =>
        rw [ro_end c] at h
        cases h
      | cons q2 r2 =>
        by_cases c2 : q2.1 ≤ 40
        · cases e : atP bs q.1 q2.1 with
          | none =>
            rw [ro_none c c2 e] at h
            cases h
          | some b =>
            rw [ro_some c c2 e] at h
            cases h
            have hb : b ∈ bs := List.mem_of_find?_eq_some e
            exact ⟨by omega, by rw [List.length_cons, List.length_cons]; omega, text_no (isW_len (hw b hb)).1⟩
        · rw [ro_off c c2] at h
          cases h
    · rw [ro_let c] at h
      by_cases il : isLet q.1 = true
      · rw [if_pos il] at h
        cases e : spellGo n (q :: r) [] with
        | inl i =>
          rw [e] at h
          cases h
        | inr z =>
          obtain ⟨cs, r'⟩ := z
          rw [e] at h
          cases h
          obtain ⟨_, z2, _⟩ := spell_rest e
          rw [List.length_nil, Nat.sub_zero] at z2
          have e1 : spellGo n (q :: r) [] = spellGo n r ([] ++ [97 + (q.1 - 41).toNat]) := by
            show (if isLet q.1 = true ∧ ([] : List Nat).length < 12 then _ else _) = _
            rw [if_pos ⟨il, by decide⟩]
          rw [e1] at e
          obtain ⟨y1, _, _⟩ := spell_rest e
          have y2 : 1 ≤ cs.length := y1
          have elen : (⟨cs.toArray⟩ : Str).length = cs.length := List.size_toArray
          exact ⟨by omega, z2, text_no (by rw [elen]; exact y2)⟩
      · rw [if_neg il] at h
        cases h
theorem sqT_mut {K : PySem.W.Frag} {H : Hp} {p u : Addr} {o : HO} {zs xs : List V} (hp : H p = some (.lst zs)) (h : SqT K H u xs) : SqT K (upd H p o) u xs := by
  rcases h with (h | ⟨ob, h⟩) | h
  · exact .inl (.inl (by rw [upd_ne (ne_of h hp (by intro z; cases z))]; exact h))
  · exact .inl (.inr ⟨ob, by rw [upd_ne (ne_of h hp (by intro z; cases z))]; exact h⟩)
  · exact .inr h
theorem nl_kept {ps : List (Int × Nat)} : ∀ d ∈ ps.map dKept, Nl d := fun d hd => nl_pairs (ps := ps) d hd
def sp_l_read (K : PySem.W.Frag) : Sp := fun vs H Q _ => ∃ (dw a : Addr) (es : List Ent) (xs : List Int), vs = [.ref dw, .ref a] ∧ DictAt H dw es ∧ OwnW es ∧ es.length ≤ 1000 ∧ (∀ b ∈ es, isW b.1.1 = true) ∧ SqL K H a (xs.map V.int) ∧ xs.length ≤ 1000 ∧ (∀ x ∈ xs, 1 ≤ x ∧ x ≤ 94) ∧
  ∀ (v : V) (H' : Hp), Kp H H' → Dp K H' v (dOut (wordsV es xs)) → Q v H'
theorem ok_l_read (T : Txt K mg) : FnOk P w K mg base CX0 2 T.f_l_read T.d_l_read ["_law_words", "_law_signs_here"] (sp_l_read K) := by
  refine T.F_l_read.ok sc_l_read (fun vs H Q E h => ?_) (fun cdv A outer s H vs Q E hr h => ?_)
  · obtain ⟨dw, a, es, xs, rfl, _⟩ := h
    rfl
  · obtain ⟨dw, a, es, xs, rfl, hDi, hO, hel, hew, hS, hlen, hb, k⟩ := h
    refine ⟨_, (pss_cons (ps_set (i := 2) sc_l_read.nd rfl (by first | exact Or.inl rfl | exact Or.inr rfl) (pe_lst pa_nil))
      (pss_cons (ps_for PassesOwn.never rfl (pi_enum (by rfl) T.m_enumerate (pa_cons (pv 1) pa_nil)) (pg_tup (n := 2) rfl (pgs_cons (pg_name (i := 3) sc_l_read.nd rfl (by first | exact Or.inl rfl | exact Or.inr rfl)) (pgs_cons (pg_name (i := 4) sc_l_read.nd rfl (by first | exact Or.inl rfl | exact Or.inr rfl)) pgs_nil)))
      (pss_cons (ps_if (PW.pt (pw_and (pt_cmpR op_eq (pv 4) pe_int (nomark _)) (pw_and1 (pt_cmpR op_eq (pe_callB call_len_seq (by rfl) T.m_len PySem.boot_len (pa_cons (pv 2) pa_nil)) pe_int (nomark _)))))
      (pss_one (ps_ret (pe_tup (pa_cons pe_str (pa_cons (pv 3) pa_nil)))))
      pss_nil)
      (pss_one (ps_if (pt_cmpR op_eq (pv 4) pe_int (nomark _))
      (pss_one (ps_set (i := 2) sc_l_read.nd rfl (by first | exact Or.inl rfl | exact Or.inr rfl) (pe_slice sl_list (pv 2) po_none (po_some (pe_un un_neg pe_int)))))
      (pss_one (ps_set (i := 2) sc_l_read.nd rfl (by first | exact Or.inl rfl | exact Or.inr rfl) (pe_op op_cat (pv 2) (pe_lst (pa_cons (pe_tup (pa_cons (pv 4) (pa_cons (pv 3) pa_nil))) pa_nil)))))))))
      (pss_cons (ps_set (i := 5) sc_l_read.nd rfl (by first | exact Or.inl rfl | exact Or.inr rfl) (pe_lst pa_nil))
      (pss_cons (ps_set (i := 6) sc_l_read.nd rfl (by first | exact Or.inl rfl | exact Or.inr rfl) pe_int)
      (pss_cons (ps_while PassesOwn.never (pt_cmpR op_lt (pv 6) (pe_callB call_len_seq (by rfl) T.m_len PySem.boot_len (pa_cons (pv 2) pa_nil)) (nomark _))
      (pss_cons (ps_set (i := 7) sc_l_read.nd rfl (by first | exact Or.inl rfl | exact Or.inr rfl) (pe_call (ok_l_read_word T) (hr.mono (by decide)) rfl T.g_l_read_word T.F_l_read_word.kp T.b_l_read_word .nil pass0 (pa_cons (pv 2) (pa_cons (pv 6) (pa_cons (pv 0) (pa_cons (pe_callB call_len_seq (by rfl) T.m_len PySem.boot_len (pa_cons (pv 1) pa_nil)) pa_nil))))))
      (pss_cons (ps_if (pt_cmpR op_eq (pe_ix ix_tup (pv 7) pe_int (fun _ _ => rfl)) pe_str (nomark _))
      (pss_one (ps_ret (pv 7)))
      pss_nil)
      (pss_cons (ps_expr (pe_bm PySem.F.plainAttrs_list PySem.F.slot_list_append PySem.F.type_list_append mt_append (pv 5) (pa_cons (pe_ix ix_tup (pv 7) pe_int (fun _ _ => rfl)) pa_nil)))
      (pss_one (ps_set (i := 6) sc_l_read.nd rfl (by first | exact Or.inl rfl | exact Or.inr rfl) (pe_ix ix_tup (pv 7) pe_int (fun _ _ => rfl))))))))
      (pss_one (ps_ret (pv 5)))))))), ?_⟩
    refine ⟨Nat.zero_le _, fun p np => ?_⟩
    generalize h_H1 : upd H p _ = H1
    have k_H1 : Kp H H1 := by rw [← h_H1]; exact .new np
    have q_H1 := (congrFun h_H1 p).symm.trans upd_same
    clear h_H1
    refine ⟨_, rfl, a, _, rfl, k_H1.sqL hS, for_it (walk_enum (K := K) (a := a) (xs := xs.map V.int)) (fun i σ H' => ∃ (acc : List (Int × Nat)) (q : Addr) (ws : List V) (y y2 : Option V), σ = [some (.ref dw), some (.ref a), some (.ref q), y, y2, none, none, none] ∧ Kp H H' ∧ H' q = some (.lst ws) ∧ DpAll K H' ws (acc.map dPair) ∧ acc.length ≤ i ∧ strikeGo (xs.drop i) i acc = strikes xs)
      ⟨[], p, [], none, none, rfl, k_H1, q_H1, .nil, Nat.le_refl _, rfl⟩ (fun i σ H' _ ⟨_, _, _, _, _, _, kp, _⟩ => kp.sqL hS) ?_ ?_⟩
    · rintro i x σ H' H'' hi ⟨acc, q, ws, y, y2, rfl, kp, hq, hw, ha, hg⟩ ⟨t, i', v, rfl, nt, rfl, ei, ev⟩
      rw [List.length_map] at hi
      obtain ⟨z, _, rfl, hz⟩ := mem_ints ev
      cases Option.some.inj ei
      generalize h_H2 : upd H' t _ = H2
      have k_H2 : Kp H' H2 := by rw [← h_H2]; exact .new nt
      have q_H2 := (congrFun h_H2 t).symm.trans upd_same
      clear h_H2
      have hq2 := k_H2.same _ _ rfl hq
      have kp2 := kp.trans k_H2
      have hw2 := k_H2.dpAll hw
      have hlw := DpAll.len hw2
      rw [List.length_map] at hlw
      refine ⟨t, _, rfl, .inl (.inl q_H2), rfl, _, _, rfl, _, _, rfl, rfl, ?_⟩
      refine ⟨_, rfl, rfl, _, rfl, iteD (fun c => ?_) (fun c => ?_)⟩
      · have c : z = 68 := V.int.inj c
        subst c
        refine ⟨_, rfl, q, ws, rfl, .inl (SqL.of hq2), rfl, _, rfl, iteD (fun c2 => ?_) (fun c2 => ?_)⟩
        · have hn : acc = [] := List.length_eq_zero_iff.mp (by have := V.int.inj c2; omega)
          subst hn
          have he : strikes xs = .inl i := by rw [← hg, go_bad hz]
          refine ⟨_, rfl, szl (by show 2 ≤ 100000; decide), fun u nu => ?_⟩
          refine k _ _ (kp2.trans (.new nu)) ?_
          unfold wordsV
          rw [he]
          exact .tup (.inl (.inl upd_same)) (.cons (.str _) (.cons (.int _) .nil))
        · have hn : acc ≠ [] := fun e => c2 (by rw [hlw, e]; rfl)
          refine ⟨_, rfl, rfl, _, rfl, iteTo dec_self ?_⟩
          refine ⟨_, rfl, 1, rfl, _, rfl, q, ws, rfl, .inl (.inl hq2), fun u nu => ?_⟩
          generalize h_H3 : upd H2 u _ = H3
          have k_H3 : Kp H2 H3 := by rw [← h_H3]; exact .new nu
          have q_H3 := (congrFun h_H3 u).symm.trans upd_same
          clear h_H3
          refine ⟨acc.dropLast, u, _, _, _, rfl, kp2.trans k_H3, q_H3, ?_, by rw [List.length_dropLast]; omega, by rw [← hg, go_strike hz hn]⟩
          rw [cut_last, List.map_dropLast]
          exact k_H3.dpAll (DpAll.dropLast hw2)
      · have c : z ≠ 68 := fun e => c (by rw [e])
        refine iteF ⟨_, rfl, rfl, _, rfl, iteFo (decide_eq_false (fun e => c (V.int.inj e))) ?_⟩
        refine ⟨_, rfl, _, rfl, _, rfl, szl (by show 2 ≤ 100000; decide), fun u nu => ?_⟩
        generalize h_H3 : upd H2 u _ = H3
        have k_H3 : Kp H2 H3 := by rw [← h_H3]; exact .new nu
        have q_H3 := (congrFun h_H3 u).symm.trans upd_same
        clear h_H3
        refine ⟨szl (by show 1 ≤ 100000; decide), fun u2 nu2 => ?_⟩
        generalize h_H4 : upd H3 u2 _ = H4
        have k_H4 : Kp H3 H4 := by rw [← h_H4]; exact .new nu2
        have q_H4 := (congrFun h_H4 u2).symm.trans upd_same
        clear h_H4
        have k24 := k_H3.trans k_H4
        refine ⟨q, u2, _, _, rfl, rfl, k24.same _ _ rfl hq2, q_H4, szl (by show ws.length + 1 ≤ 100000; omega), fun u3 nu3 => ?_⟩
        generalize h_H5 : upd H4 u3 _ = H5
        have k_H5 : Kp H4 H5 := by rw [← h_H5]; exact .new nu3
        have q_H5 := (congrFun h_H5 u3).symm.trans upd_same
        clear h_H5
        refine ⟨acc ++ [(z, i)], u3, _, _, _, rfl, (kp2.trans k24).trans k_H5, q_H5, ?_, by rw [List.length_append]; show acc.length + 1 ≤ i + 1; omega, by rw [← hg, go_sign hz c]⟩
        rw [List.map_append]
        exact DpAll.snoc ((k24.trans k_H5).dpAll hw2) (.tup (.inl (.inl ((k_H4.trans k_H5).same _ _ rfl q_H3))) (.cons (.int _) (.cons (.int _) .nil)))
    · rintro σ H' ⟨ps, q, ws, y, y2, rfl, kp, hq, hw, ha, hg⟩
      rw [List.length_map] at ha
      rw [List.length_map, go_end] at hg
      have hn : (xs.map V.int).length = xs.length := List.length_map _
      have hwl : ws.length = ps.length := by
        have z := DpAll.len hw
        rw [List.length_map] at z
        exact z
      have hsg : Sgs ps := fun q hq => by
        rcases strike_in xs 0 [] ps hg.symm q hq with z | z
        · cases z
        · exact hb _ z.1
      have hwv : wordsV es xs = readGo es xs.length ps.length ps [] := by unfold wordsV; rw [← hg]
      rw [hwv] at k
      generalize hres : readGo es xs.length ps.length ps [] = res at k
      refine ⟨Nat.zero_le _, fun r nr => ?_⟩
      generalize h_H2 : upd H' r _ = H2
      have k_H2 : Kp H' H2 := by rw [← h_H2]; exact .new nr
      have q_H2 := (congrFun h_H2 r).symm.trans upd_same
      clear h_H2
      have nqr : q ≠ r := ne_of_none hq nr
      have nr0 : H r = none := kp.free _ nr
      refine ⟨fun m σ Hx => ∃ (b : Nat) (acc : List Str) (y3 y4 y7 : Option V) (f : Nat), σ = [some (.ref dw), some (.ref a), some (.ref q), y3, y4, some (.ref r), some (.int (b : Int)), y7] ∧ b ≤ ps.length ∧ m = ps.length - b ∧ Kp H Hx ∧ Hx q = some (.lst ws) ∧ DpAll K Hx ws (ps.map dKept) ∧ Hx r = some (.lst (acc.map V.str)) ∧ acc.length ≤ b ∧ (ps.drop b).length ≤ f ∧ readGo es xs.length f (ps.drop b) acc = res,
        ⟨_, 0, [], _, _, _, ps.length, rfl, Nat.zero_le _, rfl, kp.trans k_H2, k_H2.same _ _ rfl hq, k_H2.dpAll hw, q_H2, Nat.le_refl _, Nat.le_refl _, hres⟩, ?_⟩
      rintro m σ Hx ⟨b, acc, y3, y4, y7, f, rfl, hbl, rfl, kx, hqx, hwx, hrx, hac, hf, hgx⟩
      refine ⟨_, rfl, _, rfl, q, ws, rfl, .inl (SqL.of hqx), _, _, rfl, rfl, _, rfl, iteD (fun c => ?_) (fun c => ?_)⟩
      · have hlt : b < ps.length := by
          have z : (b : Int) < (ws.length : Int) := c
          omega
        refine ⟨_, fun σ' H'' w => w, ?_⟩
        obtain ⟨q1, hq1⟩ : ∃ q1, ps[b]? = some q1 := ⟨_, List.getElem?_eq_getElem hlt⟩
        have hdrop : ps.drop b = q1 :: ps.drop (b + 1) := by
          obtain ⟨hi, eq⟩ := List.getElem?_eq_some_iff.mp hq1
          rw [List.drop_eq_getElem_cons hi, eq]
        obtain ⟨g, rfl⟩ : ∃ g, f = g + 1 := ⟨f - 1, by rw [hdrop, List.length_cons] at hf; omega⟩
        refine ⟨_, rfl, _, rfl, _, rfl, _, rfl, a, _, rfl, .inl (kx.sqL hS), q, dw, ws, ps, es, b, (xs.map V.int).length, rfl, SqL.of hqx, hwx, hDi.kp kx, hO, hel, by omega, hlt, hsg, fun v H4 k4 d4 => ?_⟩
        rw [hn] at d4
        have hgx2 : (match readOne es xs.length (ps.drop b) with
            | .inl i => Sum.inl i
            | .inr (t, k) => readGo es xs.length g ((ps.drop b).drop k) (acc ++ [t])) = res := by
          rw [← hgx, hdrop, read_one]
        have kx4 := kx.trans k4
        cases ro : readOne es xs.length (ps.drop b) with
        | inl i =>
          rw [ro] at d4 hgx2
          have hr0 : res = .inl i := hgx2.symm
          rw [hr0] at k
          have d5 := d4
          cases d4 with
          | tup hs hv =>
            cases hv with | cons h1 hv =>
            cases hv with | cons h2 hv =>
            cases hv
            cases h1
            cases h2
            refine ⟨_, rfl, _, _, _, _, rfl, rfl, hs, rfl, rfl, _, rfl, iteTo dec_self ⟨_, rfl, k _ _ kx4 d5⟩⟩
        | inr z =>
          obtain ⟨t, kk⟩ := z
          rw [ro] at d4 hgx2
          obtain ⟨w1, w2, w3⟩ := one_word hew ro
          rw [List.length_drop] at w2
          have hgx3 : readGo es xs.length g (ps.drop (b + kk)) (acc ++ [t]) = res := by
            rw [← hgx2]
            show _ = readGo es xs.length g ((ps.drop b).drop kk) (acc ++ [t])
            rw [List.drop_drop]
          cases d4 with
          | @tup u _ _ hs hv =>
            cases hv with | cons h1 hv =>
            cases hv with | cons h2 hv =>
            cases hv
            cases h1
            cases h2
            have hr4 := k4.same _ _ rfl hrx
            refine ⟨_, rfl, u, _, _, _, rfl, rfl, hs, rfl, rfl, _, rfl, iteFo w3 ?_⟩
            refine ⟨_, rfl, .inl ⟨rfl, _, SqL.of hr4⟩, _, rfl, u, _, _, _, rfl, rfl, hs, rfl, r, _, _, rfl, rfl, hr4, szt (by rw [List.length_map]; omega), ?_⟩
            refine ⟨_, rfl, u, _, _, _, rfl, rfl, sqT_mut hr4 hs, rfl, ?_⟩
            refine ⟨ps.length - (b + kk), by omega, b + kk, acc ++ [t], _, _, _, g, rfl, by omega, rfl, kx4.mut nr0, ?_, ?_, ?_, ?_, ?_, hgx3⟩
            · rw [upd_ne nqr]
              exact k4.same _ _ rfl hqx
            · exact DpAll.mut hr4 nl_kept (k4.dpAll hwx)
            · rw [upd_same, List.map_append]
              rfl
            · rw [List.length_append, List.length_singleton]
              omega
            · rw [List.length_drop] at hf ⊢
              omega
      · have e2 : b = ps.length := by
          have z : ¬ (b : Int) < (ws.length : Int) := c
          omega
        subst e2
        rw [List.drop_length] at hgx
        have hr0 : res = .inr acc := by
          rw [← hgx]
          cases f <;> rfl
        rw [hr0] at k
        exact ⟨_, rfl, k _ _ kx (dp_dS (.inl (.inl hrx)))⟩
theorem lay_ints : ∀ ns : List Int, PyData.canLayAll0 (ns.map PyData.int) = true
  | [] => by simp [PyData.canLayAll0]
  | n :: r => by simp [PyData.canLayAll0, PyData.canLay0, lay_ints r]
theorem dep_ints : ∀ ns : List Int, PyData.depthAll (ns.map PyData.int) ≤ 1
  | [] => by simp [PyData.depthAll]
  | n :: r => by
    have h := dep_ints r
    simp only [List.map_cons, PyData.depthAll, PyData.depth]
    omega
theorem shaped_ints (ns : List Int) : SeqAt.shaped (dI ns) = true := by
  have h := dep_ints ns
  show (PyData.canLay0 (.list (ns.map PyData.int)) && decide (PyData.depth (.list (ns.map PyData.int)) ≤ 64)) = true
  rw [Bool.and_eq_true]
  refine ⟨by simp only [PyData.canLay0]; exact lay_ints ns, decide_eq_true ?_⟩
  simp only [PyData.depth]
  omega
theorem eqv_ints (ns : List Int) : PyData.eqv (dI ns) (dI ns) = true := SeqAt.eqv_refl _ (SeqAt.canLay_of_shaped (shaped_ints ns))
theorem op_catTK {X : Cx} (K : PySem.W.Frag) (h : X.K = K) : OpR X (binaryOp .Add) (rCatT K) := h ▸ op_catT
theorem atP_map {bs es : List Ent} (h : es.map (·.1) = bs.map (·.1)) (a l : Int) : (atP es a l).map (·.1) = (atP bs a l).map (·.1) := by
  have q : ∀ xs : List Ent, (atP xs a l).map (·.1) = (xs.map (·.1)).find? fun b => decide (b.2.1 = a ∧ b.2.2 = l) := fun xs => by
    unfold atP
    rw [List.find?_map]
    rfl
  rw [q, q, h]
theorem read_same {bs es : List Ent} {n : Nat} (h : es.map (·.1) = bs.map (·.1)) : ∀ (f : Nat) (l : List (Int × Nat)) (acc : List Str), readGo es n f l acc = readGo bs n f l acc
  | 0, _, _ => rfl
  | _ + 1, [], _ => rfl
  | f + 1, q :: r, acc => by
    have ih := read_same (n := n) h f
    unfold readGo
    by_cases c : q.1 ≤ 40
    · rw [if_pos c, if_pos c]
      cases r with
      | nil => rfl
      | cons q2 r2 =>
        by_cases c2 : q2.1 ≤ 40
        · simp only [if_pos c2]
          have z := atP_map h q.1 q2.1
          cases e1 : atP es q.1 q2.1 with
          | none =>
            rw [e1] at z
            cases e2 : atP bs q.1 q2.1 with
            | none => rfl
            | some b =>
              rw [e2] at z
              cases z
          | some e =>
            rw [e1] at z
            cases e2 : atP bs q.1 q2.1 with
            | none =>
              rw [e2] at z
              cases z
            | some b =>
              rw [e2] at z
              have z1 : e.1 = b.1 := Option.some.inj z
              simp only [z1]
              exact ih _ _
        · simp only [if_neg c2]
    · rw [if_neg c, if_neg c]
      by_cases il : isLet q.1 = true
      · rw [if_pos il, if_pos il]
        cases spellGo n (q :: r) [] with
        | inl i => rfl
        | inr z =>
          obtain ⟨cs, r'⟩ := z
          exact ih _ _
      · rw [if_neg il, if_neg il]
theorem words_same {bs es : List Ent} {xs : List Int} (h : es.map (·.1) = bs.map (·.1)) : wordsV es xs = wordsV bs xs := by
  unfold wordsV
  cases strikes xs with
  | inl i => rfl
  | inr ps => exact read_same h _ _ _
theorem read_len {bs : List Ent} {n : Nat} : ∀ (f : Nat) (l : List (Int × Nat)) (acc ws : List Str), readGo bs n f l acc = .inr ws → ws.length ≤ acc.length + f
  | 0, _, acc, ws, h => by
    have e := Sum.inr.inj h
    rw [e]
    omega
  | f + 1, [], acc, ws, h => by
    have e := Sum.inr.inj h
    rw [e]
    omega
  | f + 1, q :: r, acc, ws, h => by
    rw [read_one] at h
    cases e : readOne bs n (q :: r) with
    | inl i =>
      rw [e] at h
      cases h
    | inr z =>
      obtain ⟨t, k⟩ := z
      rw [e] at h
      have y := read_len f _ _ _ h
      rw [List.length_append, List.length_singleton] at y
      omega
theorem words_len {bs : List Ent} {xs : List Int} {ws : List Str} (h : wordsV bs xs = .inr ws) : ws.length ≤ xs.length := by
  unfold wordsV at h
  cases e : strikes xs with
  | inl i =>
    rw [e] at h
    cases h
  | inr ps =>
    rw [e] at h
    have y := read_len _ _ _ _ h
    have z := strikeGo_len xs 0 [] ps e
    simp only [List.length_nil] at y z
    omega
theorem dn_out {bs : List Ent} {xs : List Int} (h : xs.length ≤ 1000) : Dn 4 (dOut (wordsV bs xs)) := by
  cases e : wordsV bs xs with
  | inl i =>
    refine .tup (fun d hd => ?_) (by show 2 ≤ 10000; decide)
    simp only [List.mem_cons, List.not_mem_nil, or_false] at hd
    rcases hd with rfl | rfl
    · exact .str _ _
    · exact .int _ _
  | inr ws =>
    have z := words_len e
    refine .lst (fun d hd => ?_) (by rw [List.length_map]; omega)
    obtain ⟨t, _, rfl⟩ := List.mem_map.mp hd
    exact .str _ _
theorem signs_in {es : List Ent} (he : ∀ e ∈ es, okP e.1.2.1 e.1.2.2 = true) {ws : List Str} (hw : ∀ t ∈ ws, isW t = true) : ∀ y ∈ signsV es ws, 1 ≤ y ∧ y ≤ 94 := by
  intro y hy
  unfold signsV at hy
  obtain ⟨t, ht, h1⟩ := List.mem_flatMap.mp hy
  unfold signs1 at h1
  cases e : atW es t with
  | some b =>
    rw [e] at h1
    have hb : b ∈ es := List.mem_of_find?_eq_some e
    have q := he b hb
    unfold okP at q
    simp only [Bool.and_eq_true, decide_eq_true_eq] at q
    simp only [List.mem_cons, List.not_mem_nil, or_false] at h1
    omega
  | none =>
    rw [e] at h1
    rcases List.mem_append.mp h1 with h1 | h1
    · unfold letS at h1
      obtain ⟨c, hc, rfl⟩ := List.mem_map.mp h1
      have q := isW_signs (hw t ht) c hc
      unfold let1
      omega
    · have z := List.mem_singleton.mp h1
      omega
mutual
theorem Dp.putK {K : PySem.W.Frag} {H : Hp} {p : Addr} {o : HO} {od : Obj} {kvs : List (Key × V)} (hp : H p = some (.frz od (.dK kvs))) : ∀ {d : PyData} {v : V}, Dp K H v d → Dp K (upd H p o) v d
  | _, _, .non => .non
  | _, _, .bl b => .bl b
  | _, _, .int i => .int i
  | _, _, .str x => .str x
  | _, _, .lst h a => by
    refine .lst ?_ (DpAll.putK hp a)
    rcases h with (h | ⟨ob, h⟩) | h
    · exact .inl (.inl (by rw [upd_ne (ne_of h hp (by intro z; cases z))]; exact h))
    · exact .inl (.inr ⟨ob, by rw [upd_ne (ne_of h hp (by intro z; cases z))]; exact h⟩)
    · exact .inr h
  | _, _, .tup h a => by
    refine .tup ?_ (DpAll.putK hp a)
    rcases h with (h | ⟨ob, h⟩) | h
    · exact .inl (.inl (by rw [upd_ne (ne_of h hp (by intro z; cases z))]; exact h))
    · exact .inl (.inr ⟨ob, by rw [upd_ne (ne_of h hp (by intro z; cases z))]; exact h⟩)
    · exact .inr h
theorem DpAll.putK {K : PySem.W.Frag} {H : Hp} {p : Addr} {o : HO} {od : Obj} {kvs : List (Key × V)} (hp : H p = some (.frz od (.dK kvs))) : ∀ {ds : List PyData} {vs : List V}, DpAll K H vs ds → DpAll K (upd H p o) vs ds
  | _, _, .nil => .nil
  | _, _, .cons h t => .cons (Dp.putK hp h) (DpAll.putK hp t)
end
theorem trips_same {bs es : List Ent} (h : es.map (·.1) = bs.map (·.1)) : es.map dTrip = bs.map dTrip := by
  have q : ∀ xs : List Ent, xs.map dTrip = (xs.map (·.1)).map fun b => PyData.tuple [.int b.2.1, .int b.2.2, .str b.1] := fun xs => by
    rw [List.map_map]
    rfl
  rw [q, q, h]
theorem dn_words {bs : List Ent} (h : bs.length ≤ 1000) : Dn 4 (.list (wordsD bs)) := by
  refine .lst (fun d hd => ?_) ?_
  · unfold wordsD sortD at hd
    obtain ⟨b, _, rfl⟩ := List.mem_map.mp (List.mem_mergeSort.mp hd)
    refine .tup (fun d hd => ?_) (by show 3 ≤ 10000; decide)
    simp only [List.mem_cons, List.not_mem_nil, or_false] at hd
    rcases hd with rfl | rfl | rfl
    · exact .int _ _
    · exact .int _ _
    · exact .str _ _
  · unfold wordsD sortD
    rw [List.length_mergeSort, List.length_map]
    omega
/-! ### law -/
def sp_law (K : PySem.W.Frag) (P PS : Addr) : Sp := fun vs H Q _ => ∃ (a : Addr) (ns : List Int), vs = [.ref a] ∧ SqL K H a (ns.map V.int) ∧ ns.length ≤ 63 ∧ GxR.TabG H P ∧ GxR.TabG H PS ∧ ∀ H', Q (.bl true) H'
theorem ok_law (T : Txt K mg) (TB : GxR.TabB base mg T.c_tab T.P_tab) (TBS : GxR.TabB base mg T.c_tabS T.P_tabS) {f : Addr} {fd : FuncData} (F : Fun K "law" "law" s_law f fd) : FnOk P w K mg base CX0 13 f fd ["_law_script"] (sp_law K T.P_tab T.P_tabS) := by
  refine F.ok sc_law (fun vs H Q E h => ?_) (fun cdv A outer s H vs Q E hr h => ?_)
  · obtain ⟨a, ns, rfl, _⟩ := h
    rfl
  · obtain ⟨a, ns, rfl, hS, hlen, hT, hTS, k⟩ := h
    have hu := hu_of hr
    refine ⟨_, (pss_cons (ps_asg (pe_call (ok_l_book T TB) (hr.mono (by decide)) rfl T.g_l_book T.F_l_book.kp T.b_l_book .nil pass0 (pa_cons (pv 0) (pa_cons pe_int pa_nil))) (pg_tup (n := 2) rfl (pgs_cons (pg_name (i := 1) sc_law.nd rfl (by first | exact Or.inl rfl | exact Or.inr rfl)) (pgs_cons (pg_name (i := 2) sc_law.nd rfl (by first | exact Or.inl rfl | exact Or.inr rfl)) pgs_nil))))
      (pss_cons (ps_set (i := 3) sc_law.nd rfl (by first | exact Or.inl rfl | exact Or.inr rfl) (pe_call (ok_l_signs T) (hr.mono (by decide)) rfl T.g_l_signs T.F_l_signs.kp T.b_l_signs .nil pass0 (pa_cons (pe_call (ok_l_cell T) (hr.mono (by decide)) rfl T.g_l_cell T.F_l_cell.kp T.b_l_cell .nil pass0 (pa_cons (pv 0) (pa_cons pe_int pa_nil))) (pa_cons pe_int pa_nil))))
      (pss_cons (ps_if (pt_cmpR op_lt (pe_op op_mod (pe_call (ok_l_cell T) (hr.mono (by decide)) rfl T.g_l_cell T.F_l_cell.kp T.b_l_cell .nil pass0 (pa_cons (pv 0) (pa_cons pe_int pa_nil))) pe_int) pe_int (nomark _))
      (pss_cons (ps_set (i := 3) sc_law.nd rfl (by first | exact Or.inl rfl | exact Or.inr rfl) (pe_call (ok_l_signs_of T) (hr.mono (by decide)) rfl T.g_l_signs_of T.F_l_signs_of.kp T.b_l_signs_of .nil pass0 (pa_cons (pv 2) (pa_cons (pe_call (ok_l_some_words T) (hr.mono (by decide)) rfl T.g_l_some_words T.F_l_some_words.kp T.b_l_some_words .nil pass0 (pa_cons (pv 2) (pa_cons (pe_call (ok_l_cell T) (hr.mono (by decide)) rfl T.g_l_cell T.F_l_cell.kp T.b_l_cell .nil pass0 (pa_cons (pv 0) (pa_cons pe_int pa_nil))) (pa_cons pe_int pa_nil)))) pa_nil))))
      (pss_one (ps_set (i := 3) sc_law.nd rfl (by first | exact Or.inl rfl | exact Or.inr rfl) (pe_call (ok_l_bent T) (hr.mono (by decide)) rfl T.g_l_bent T.F_l_bent.kp T.b_l_bent .nil pass0 (pa_cons (pv 3) (pa_cons (pe_call (ok_l_cell T) (hr.mono (by decide)) rfl T.g_l_cell T.F_l_cell.kp T.b_l_cell .nil pass0 (pa_cons (pv 0) (pa_cons pe_int pa_nil))) pa_nil))))))
      pss_nil)
      (pss_cons (ps_for PassesOwn.never rfl (pi_range1 (by rfl) T.m_range (pa_cons pe_int pa_nil)) (pg_name (i := 4) sc_law.nd rfl (by first | exact Or.inl rfl | exact Or.inr rfl))
      (pss_cons (ps_set (i := 5) sc_law.nd rfl (by first | exact Or.inl rfl | exact Or.inr rfl) (pe_callTy call_list_of (by rfl) T.m_list (by decide +kernel) (pa_cons (pv 3) pa_nil)))
      (pss_cons (ps_set (i := 6) sc_law.nd rfl (by first | exact Or.inl rfl | exact Or.inr rfl) (pe_call (ok_l_told T TBS) (hr.mono (by decide)) rfl T.g_l_told T.F_l_told.kp T.b_l_told .nil pass0 (pa_cons (pv 1) (pa_cons (pv 5) pa_nil))))
      (pss_cons (ps_if (PW.pt (pw_or (pt_not (pt_val (pe_call (ok_l_like T 4) (hr.mono (by decide)) rfl T.g_l_like T.F_l_like.kp T.b_l_like .nil pass0 (pa_cons (pv 6) (pa_cons (pe_call (ok_l_read T) (hr.mono (by decide)) rfl T.g_l_read T.F_l_read.kp T.b_l_read .nil pass0 (pa_cons (pv 2) (pa_cons (pv 3) pa_nil))) pa_nil))))) (pw_or1 (pt_cmpR (op_neD hr.units) (pv 5) (pv 3) (nomark _)))))
      (pss_one (ps_ret pe_bl))
      pss_nil)
      (pss_one (ps_if (pt_val (pe_callB call_isi (by rfl) T.m_isinstance (by decide +kernel) (pa_cons (pv 6) (pa_cons (pe_bltn (v := .ty "list") (by rfl) T.m_list (by decide +kernel) rfl) pa_nil))))
      (pss_one (ps_expr (pe_bm PySem.F.plainAttrs_list PySem.F.slot_list_append PySem.F.type_list_append mt_append (pv 6) (pa_cons pe_str pa_nil))))
      pss_nil))))))
      (pss_cons (ps_if (pt_not (pt_val (pe_call (ok_l_like T 4) (hr.mono (by decide)) rfl T.g_l_like T.F_l_like.kp T.b_l_like .nil pass0 (pa_cons (pe_meth0 (pv 1) T.cl_Phrasebook T.M_p_Phrasebook_words (ok_p_Phrasebook_words T) (hr.mono (by decide)) T.b_p_Phrasebook_words .nil pass0) (pa_cons (pe_callB (cr_sortedD (hu65 hr)) (by rfl) T.m_sorted PyProof.Rows.boot_sorted (pa_cons (pe_lock (pe_lc (own := [("_law_word_here", 7)]) (g := gName 7) (tt := tYes) (by rfl) sc_law.nd (pi_keys (pv 2)) (blkOk_by (own := [("_law_word_here", 7)]) (N := ["_law_script", "_law_book_here", "_law_words", "_law_signs_here", "_law_turn", "_law_handed", "_law_found", "_law_word_here"]) (sc := defScope s_law) (by decide +kernel)) (fun _ _ _ _ _ => (pg_name (i := 7) sc_law.nd rfl (by first | exact Or.inl rfl | exact Or.inr rfl))) (fun _ _ _ _ _ => pts_nil) (fun _ _ _ _ _ => (pe_op (op_catTK K rfl) (pe_dget hu (pv 2) (pv 7) (fun _ _ => rfl)) (pe_tup (pa_cons (pv 7) pa_nil)))))) pa_nil)) pa_nil)))))
      (pss_one (ps_ret pe_bl))
      pss_nil)
      (pss_one (ps_ret (pe_call (ok_l_like T 4) (hr.mono (by decide)) rfl T.g_l_like T.F_l_like.kp T.b_l_like .nil pass0 (pa_cons (pe_call (ok_l_told T TBS) (hr.mono (by decide)) rfl T.g_l_told T.F_l_told.kp T.b_l_told .nil pass0 (pa_cons (pv 1) (pa_cons (pe_lst pa_nil) pa_nil))) (pa_cons (pe_lst pa_nil) pa_nil)))))))))), ?_⟩
    refine ⟨_, rfl, a, ns, 0, rfl, hS, by decide, hT, fun x p d1 d2 dw bs es H1 k1 gp g1 g2 gw new B1 D1 hes hG hO hbl hx => ?_⟩
    refine ⟨x, _, rfl, hx, rfl, _, _, rfl, _, _, rfl, rfl, ?_⟩
    have hel : es.length ≤ 9 := by
      have z := congrArg List.length hes
      rw [List.length_map, List.length_map] at z
      omega
    have hew : ∀ e ∈ es, isW e.1.1 = true := fun e he => by
      have z : e.1 ∈ bs.map (·.1) := by
        rw [← hes]
        exact List.mem_map.mpr ⟨e, he, rfl⟩
      obtain ⟨b, hb, eb⟩ := List.mem_map.mp z
      rw [← eb]
      exact (hG.ok b hb).1
    refine ⟨_, rfl, a, ns, 2, rfl, k1.sqL hS, by decide, _, _, rfl, by decide, by decide, fun xs r H2 hxl hxb nr k2 q2 => ?_⟩
    have sq2 : SqL K H2 r (xs.map V.int) := .inl (.inl q2)
    refine ⟨_, rfl, a, ns, 3, rfl, (k1.trans k2).sqL hS, by decide, _, _, rfl, rfl, (by show (0 : Int) < 4; decide), _, _, rfl, rfl, _, rfl, iteD (fun c => ?_) (fun c => ?_)⟩
    · refine ⟨_, rfl, _, rfl, _, rfl, a, ns, 2, rfl, (k1.trans k2).sqL hS, by decide, dw, es, _, _, rfl, D1.kp k2, by omega, hew, by decide, by decide, fun ws r3 H3 hw hwl nr3 k3 q3 => ?_⟩
      refine ⟨dw, r3, es, ws, rfl, (D1.kp k2).kp k3, .inl (.inl q3), by omega, hw, fun r4 H4 nr4 k4 q4 => ?_⟩
      have k24 := (k2.trans k3).trans k4
      have sl := signsV_len (bs := es) hw
      have sb : ∀ y ∈ signsV es ws, 1 ≤ y ∧ y ≤ 94 := signs_in (fun e he => by
        have z : e.1 ∈ bs.map (·.1) := by
          rw [← hes]
          exact List.mem_map.mpr ⟨e, he, rfl⟩
        obtain ⟨b, hb, eb⟩ := List.mem_map.mp z
        rw [← eb]
        exact (hG.ok b hb).2) hw
      refine ⟨_, rfl, _, rfl, a, ns, 4, rfl, (k1.trans k24).sqL hS, by decide, r4, _, _, rfl, .inl (.inl q4), by omega, sb, fun ys r5 H5 hyl hyb k5 q5 => ?_⟩
      have k15 := k24.trans k5
      have yl1 : ys.length ≤ 1000 := by omega
      refine ⟨2, rfl, by decide, by decide, ?_⟩
      refine for_range (lo := 0) (n := 2) (fun i σ H' => ∃ (y4 y5 y6 y7 : Option V), σ = [some (.ref a), some (.ref p), some (.ref dw), some (.ref r5), y4, y5, y6, y7] ∧ Kp H5 H')
        ⟨_, _, _, _, rfl, .refl _⟩ ?_ ?_
      · rintro i σ H' hi ⟨y4, y5, y6, y7, rfl, kp⟩
        refine ⟨_, rfl, r5, _, rfl, .inl (kp.sqL q5), fun ph nh => ?_⟩
        generalize h_Ha : upd H' ph _ = Ha
        have k_Ha : Kp H' Ha := by rw [← h_Ha]; exact .new nh
        have q_Ha := (congrFun h_Ha ph).symm.trans upd_same
        clear h_Ha
        have ka := kp.trans k_Ha
        refine ⟨_, rfl, _, rfl, p, d1, d2, ph, bs, ys, rfl, (B1.kp k15).kp ka, .inl (.inl q_Ha), yl1, hyb, ((k1.trans k15).trans ka).tab _ hTS, fun v Hb kb db fb gb => ?_⟩
        have kab := ka.trans kb
        refine ⟨_, rfl, _, rfl, _, rfl, dw, r5, es, ys, rfl, (D1.kp k15).kp kab, hO, by omega, hew, kab.sqL q5, yl1, hyb, fun u Hc kc dc => ?_⟩
        rw [words_same hes] at dc
        refine ⟨_, _, _, rfl, kc.dp db, dc, dn_out yl1, fun Hd kd => ⟨_, rfl, iteFo rfl ?_⟩⟩
        have kbd := kc.trans kd
        have kad := (kb.trans kbd)
        refine ⟨_, rfl, _, rfl, dI ys, dI ys, dp_dI (.inl (.inl (kad.same _ _ rfl q_Ha))), dp_dI ((ka.trans kad).sqL q5), shaped_ints _, shaped_ints _, _, rfl, iteFo (by rw [eqv_ints]; rfl) ?_⟩
        have de := kbd.dp db
        have td := ty_of de
        cases e : wordsV bs ys with
        | inl j =>
          rw [e] at td
          refine ⟨_, rfl, _, _, _, _, false, rfl, .ty _, td, kit_ty k_tl, _, rfl, iteFo rfl ?_⟩
          exact ⟨_, _, _, _, rfl, ka.trans kad⟩
        | inr ws9 =>
          rw [e] at td
          refine ⟨_, rfl, _, _, _, _, true, rfl, .ty _, td, kit_ty k_ll, _, rfl, iteTo rfl ?_⟩
          obtain ⟨q9, rfl, h9⟩ := gb ws9 e
          have h9d := kbd.same _ _ rfl h9
          refine ⟨_, rfl, .inl ⟨rfl, _, SqL.of h9d⟩, q9, _, _, rfl, rfl, h9d, szt (by rw [List.length_map]; have z := words_len e; omega), ?_⟩
          exact ⟨_, _, _, _, rfl, (ka.trans kad).mut (ka.free _ (fb q9 rfl))⟩
      · rintro σ H' ⟨y4, y5, y6, y7, rfl, kp⟩
        have BB := (B1.kp k15).kp kp
        have DD := (D1.kp k15).kp kp
        obtain ⟨dx, hp⟩ := BB.ob
        refine ⟨_, rfl, p, dx, _, rfl, hp, flds_no _ _ (by decide +kernel) (by decide +kernel), p, d1, d2, bs, rfl, BB, by omega, fun rw0 ysw Hw nrw kw qw dwd => ?_⟩
        have DW := DD.kp kw
        refine ⟨dw, _, DW.wd, trivial, fun od => ?_⟩
        refine ⟨_, rfl, dw, od, rfl, .inl ⟨kvW es, upd_same, fun D hD => ?_⟩⟩
        refine lc_it (walk_keys (d := dw) (o := od) (kvs := kvW es)) (fun i Hx => Kp (upd Hw dw (.frz od (.dK (kvW es)))) Hx ∧ ∃ rs : List V, Hx D = some (.lst rs) ∧ DpAll K Hx rs ((es.take i).map dTrip)) ⟨Kp.new hD, [], upd_same, .nil⟩ (fun i Hx _ ⟨kk, _⟩ => kk.same _ _ rfl upd_same) (fun i x H7 H8 hi2 ⟨kk, rs, hrs, hd⟩ ⟨e8, ky, v, hkv, hx⟩ => ?_) (fun H7 ⟨kk, rs, hrs, hd⟩ => ?_)
        · subst e8
          subst hx
          obtain ⟨e, he, rfl, rfl⟩ := kvW_at hkv
          have hil : i < es.length := (List.getElem?_eq_some_iff.mp he).1
          have te : H8 e.2 = some (.tup [.int e.1.2.1, .int e.1.2.2]) := by
            have z := DW.tu e (List.mem_of_getElem? he)
            exact kk.same _ _ rfl (by rw [upd_ne (ne_of z DW.wd (by intro z; cases z))]; exact z)
          refine ⟨rfl, ?_⟩
          refine ⟨_, rfl, _, rfl, dw, _, rfl, .inl ⟨kvW es, Sum.inr e.1.1, .inr ⟨od, kk.same _ _ rfl upd_same⟩, rfl, (by rw [valW, hO e (List.mem_of_getElem? he)]; rfl)⟩, _, rfl, szl (by show 1 ≤ 100000; decide), fun u nu => ?_⟩
          generalize h_H9 : upd H8 u _ = H9
          have k_H9 : Kp H8 H9 := by rw [← h_H9]; exact .new nu
          have q_H9 := (congrFun h_H9 u).symm.trans upd_same
          clear h_H9
          refine ⟨e.2, u, _, _, rfl, rfl, .inl (.inl (k_H9.same _ _ rfl te)), .inl (.inl q_H9), by simp, szl (by show 3 ≤ 100000; decide), (fun z => by cases z), fun _ p5 n5 => ?_⟩
          generalize h_Ha : upd H9 p5 _ = Ha
          have k_Ha : Kp H9 Ha := by rw [← h_Ha]; exact .new n5
          have q_Ha := (congrFun h_Ha p5).symm.trans upd_same
          clear h_Ha
          have hra := k_Ha.same _ _ rfl (k_H9.same _ _ rfl hrs)
          have hl := DpAll.len hd
          rw [List.length_map, List.length_take] at hl
          refine ⟨rs, hra, szt (by omega), ((kk.trans k_H9).trans k_Ha).mut hD, _, upd_same, ?_⟩
          rw [take_snoc he, List.map_append]
          exact DpAll.mut hra nl_trips (DpAll.snoc (k_Ha.dpAll (k_H9.dpAll hd)) (.tup (.inl (.inl q_Ha)) (.cons (.int _) (.cons (.int _) (.cons (.str _) .nil)))))
        · have ekl : (kvW es).length = es.length := by unfold kvW; rw [List.length_map]
          rw [ekl, List.take_length] at hd
          have hf := kk.same _ _ rfl (upd_same (H := Hw) (a := dw) (o := .frz od (.dK (kvW es))))
          refine ⟨hf, ?_⟩
          have ku := Kp.unlock DW.wd rfl kk
          have nD : D ≠ dw := fun z => by
            rw [z, upd_same] at hD
            cases hD
          have h9 : upd H7 dw (.dK (kvW es)) D = some (.lst rs) := by
            rw [upd_ne nD]
            exact hrs
          have hd9 := DpAll.putK (o := .dK (kvW es)) hf hd
          generalize upd H7 dw (.dK (kvW es)) = H9 at ku h9 hd9 ⊢
          refine ⟨D, rs, es.map dTrip, rfl, .inl (.inl h9), hd9, PySem.W.AllAlike.of fun _ _ => rfl, PySem.W.Sortable.tuples fun _ => ⟨_, _, rfl⟩, ?_, fun ysr r7 hy nr7 => ?_⟩
          · intro d hd
            obtain ⟨b, _, rfl⟩ := List.mem_map.mp hd
            show 1 ≤ 60
            decide
          generalize h_Hb : upd H9 r7 _ = Hb
          have k_Hb : Kp H9 Hb := by rw [← h_Hb]; exact .new nr7
          have q_Hb := (congrFun h_Hb r7).symm.trans upd_same
          clear h_Hb
          have kwb := ku.trans k_Hb
          refine ⟨_, _, .list (wordsD bs), rfl, .lst (.inl (.inl (kwb.same _ _ rfl qw))) (kwb.dpAll dwd), .lst (.inl (.inl q_Hb)) (by unfold wordsD; rw [← trips_same hes]; exact k_Hb.dpAll hy), dn_words (by omega), fun He ke => ⟨_, rfl, iteFo rfl ?_⟩⟩
          have kE := (kw.trans kwb).trans ke
          refine ⟨_, rfl, Nat.zero_le _, fun pe ne => ?_⟩
          generalize h_Hf : upd He pe _ = Hf
          have k_Hf : Kp He Hf := by rw [← h_Hf]; exact .new ne
          have q_Hf := (congrFun h_Hf pe).symm.trans upd_same
          clear h_Hf
          refine ⟨p, d1, d2, pe, bs, [], rfl, (BB.kp kE).kp k_Hf, .inl (.inl q_Hf), by decide, by simp, ((((k1.trans k15).trans kp).trans kE).trans k_Hf).tab _ hTS, fun v Hg kg dg _ _ => ?_⟩
          refine ⟨Nat.zero_le _, fun pf nf => ?_⟩
          generalize h_Hh : upd Hg pf _ = Hh
          have k_Hh : Kp Hg Hh := by rw [← h_Hh]; exact .new nf
          have q_Hh := (congrFun h_Hh pf).symm.trans upd_same
          clear h_Hh
          exact ⟨_, _, dS [], rfl, k_Hh.dp dg, dp_dS (ws := []) (.inl (.inl q_Hh)), .lst (fun d hd => by cases hd) (by decide), fun Hi ki => k Hi⟩
    · have yl1 : xs.length ≤ 1000 := by omega
      refine ⟨2, rfl, by decide, by decide, ?_⟩
      refine for_range (lo := 0) (n := 2) (fun i σ H' => ∃ (y4 y5 y6 y7 : Option V), σ = [some (.ref a), some (.ref p), some (.ref dw), some (.ref r), y4, y5, y6, y7] ∧ Kp H2 H')
        ⟨_, _, _, _, rfl, .refl _⟩ ?_ ?_
      · rintro i σ H' hi ⟨y4, y5, y6, y7, rfl, kp⟩
        refine ⟨_, rfl, r, _, rfl, .inl (kp.sqL sq2), fun ph nh => ?_⟩
        generalize h_Ha : upd H' ph _ = Ha
        have k_Ha : Kp H' Ha := by rw [← h_Ha]; exact .new nh
        have q_Ha := (congrFun h_Ha ph).symm.trans upd_same
        clear h_Ha
        have ka := kp.trans k_Ha
        refine ⟨_, rfl, _, rfl, p, d1, d2, ph, bs, xs, rfl, (B1.kp k2).kp ka, .inl (.inl q_Ha), yl1, hxb, ((k1.trans k2).trans ka).tab _ hTS, fun v Hb kb db fb gb => ?_⟩
        have kab := ka.trans kb
        refine ⟨_, rfl, _, rfl, _, rfl, dw, r, es, xs, rfl, (D1.kp k2).kp kab, hO, by omega, hew, kab.sqL sq2, yl1, hxb, fun u Hc kc dc => ?_⟩
        rw [words_same hes] at dc
        refine ⟨_, _, _, rfl, kc.dp db, dc, dn_out yl1, fun Hd kd => ⟨_, rfl, iteFo rfl ?_⟩⟩
        have kbd := kc.trans kd
        have kad := (kb.trans kbd)
        refine ⟨_, rfl, _, rfl, dI xs, dI xs, dp_dI (.inl (.inl (kad.same _ _ rfl q_Ha))), dp_dI ((ka.trans kad).sqL sq2), shaped_ints _, shaped_ints _, _, rfl, iteFo (by rw [eqv_ints]; rfl) ?_⟩
        have de := kbd.dp db
        have td := ty_of de
        cases e : wordsV bs xs with
        | inl j =>
          rw [e] at td
          refine ⟨_, rfl, _, _, _, _, false, rfl, .ty _, td, kit_ty k_tl, _, rfl, iteFo rfl ?_⟩
          exact ⟨_, _, _, _, rfl, ka.trans kad⟩
        | inr ws9 =>
          rw [e] at td
          refine ⟨_, rfl, _, _, _, _, true, rfl, .ty _, td, kit_ty k_ll, _, rfl, iteTo rfl ?_⟩
          obtain ⟨q9, rfl, h9⟩ := gb ws9 e
          have h9d := kbd.same _ _ rfl h9
          refine ⟨_, rfl, .inl ⟨rfl, _, SqL.of h9d⟩, q9, _, _, rfl, rfl, h9d, szt (by rw [List.length_map]; have z := words_len e; omega), ?_⟩
          exact ⟨_, _, _, _, rfl, (ka.trans kad).mut (ka.free _ (fb q9 rfl))⟩
      · rintro σ H' ⟨y4, y5, y6, y7, rfl, kp⟩
        have BB := (B1.kp k2).kp kp
        have DD := (D1.kp k2).kp kp
        obtain ⟨dx, hp⟩ := BB.ob
        refine ⟨_, rfl, p, dx, _, rfl, hp, flds_no _ _ (by decide +kernel) (by decide +kernel), p, d1, d2, bs, rfl, BB, by omega, fun rw0 ysw Hw nrw kw qw dwd => ?_⟩
        have DW := DD.kp kw
        refine ⟨dw, _, DW.wd, trivial, fun od => ?_⟩
        refine ⟨_, rfl, dw, od, rfl, .inl ⟨kvW es, upd_same, fun D hD => ?_⟩⟩
        refine lc_it (walk_keys (d := dw) (o := od) (kvs := kvW es)) (fun i Hx => Kp (upd Hw dw (.frz od (.dK (kvW es)))) Hx ∧ ∃ rs : List V, Hx D = some (.lst rs) ∧ DpAll K Hx rs ((es.take i).map dTrip)) ⟨Kp.new hD, [], upd_same, .nil⟩ (fun i Hx _ ⟨kk, _⟩ => kk.same _ _ rfl upd_same) (fun i x H7 H8 hi2 ⟨kk, rs, hrs, hd⟩ ⟨e8, ky, v, hkv, hx⟩ => ?_) (fun H7 ⟨kk, rs, hrs, hd⟩ => ?_)
        · subst e8
          subst hx
          obtain ⟨e, he, rfl, rfl⟩ := kvW_at hkv
          have hil : i < es.length := (List.getElem?_eq_some_iff.mp he).1
          have te : H8 e.2 = some (.tup [.int e.1.2.1, .int e.1.2.2]) := by
            have z := DW.tu e (List.mem_of_getElem? he)
            exact kk.same _ _ rfl (by rw [upd_ne (ne_of z DW.wd (by intro z; cases z))]; exact z)
          refine ⟨rfl, ?_⟩
          refine ⟨_, rfl, _, rfl, dw, _, rfl, .inl ⟨kvW es, Sum.inr e.1.1, .inr ⟨od, kk.same _ _ rfl upd_same⟩, rfl, (by rw [valW, hO e (List.mem_of_getElem? he)]; rfl)⟩, _, rfl, szl (by show 1 ≤ 100000; decide), fun u nu => ?_⟩
          generalize h_H9 : upd H8 u _ = H9
          have k_H9 : Kp H8 H9 := by rw [← h_H9]; exact .new nu
          have q_H9 := (congrFun h_H9 u).symm.trans upd_same
          clear h_H9
          refine ⟨e.2, u, _, _, rfl, rfl, .inl (.inl (k_H9.same _ _ rfl te)), .inl (.inl q_H9), by simp, szl (by show 3 ≤ 100000; decide), (fun z => by cases z), fun _ p5 n5 => ?_⟩
          generalize h_Ha : upd H9 p5 _ = Ha
          have k_Ha : Kp H9 Ha := by rw [← h_Ha]; exact .new n5
          have q_Ha := (congrFun h_Ha p5).symm.trans upd_same
          clear h_Ha
          have hra := k_Ha.same _ _ rfl (k_H9.same _ _ rfl hrs)
          have hl := DpAll.len hd
          rw [List.length_map, List.length_take] at hl
          refine ⟨rs, hra, szt (by omega), ((kk.trans k_H9).trans k_Ha).mut hD, _, upd_same, ?_⟩
          rw [take_snoc he, List.map_append]
          exact DpAll.mut hra nl_trips (DpAll.snoc (k_Ha.dpAll (k_H9.dpAll hd)) (.tup (.inl (.inl q_Ha)) (.cons (.int _) (.cons (.int _) (.cons (.str _) .nil)))))
        · have ekl : (kvW es).length = es.length := by unfold kvW; rw [List.length_map]
          rw [ekl, List.take_length] at hd
          have hf := kk.same _ _ rfl (upd_same (H := Hw) (a := dw) (o := .frz od (.dK (kvW es))))
          refine ⟨hf, ?_⟩
          have ku := Kp.unlock DW.wd rfl kk
          have nD : D ≠ dw := fun z => by
            rw [z, upd_same] at hD
            cases hD
          have h9 : upd H7 dw (.dK (kvW es)) D = some (.lst rs) := by
            rw [upd_ne nD]
            exact hrs
          have hd9 := DpAll.putK (o := .dK (kvW es)) hf hd
          generalize upd H7 dw (.dK (kvW es)) = H9 at ku h9 hd9 ⊢
          refine ⟨D, rs, es.map dTrip, rfl, .inl (.inl h9), hd9, PySem.W.AllAlike.of fun _ _ => rfl, PySem.W.Sortable.tuples fun _ => ⟨_, _, rfl⟩, ?_, fun ysr r7 hy nr7 => ?_⟩
          · intro d hd
            obtain ⟨b, _, rfl⟩ := List.mem_map.mp hd
            show 1 ≤ 60
            decide
          generalize h_Hb : upd H9 r7 _ = Hb
          have k_Hb : Kp H9 Hb := by rw [← h_Hb]; exact .new nr7
          have q_Hb := (congrFun h_Hb r7).symm.trans upd_same
          clear h_Hb
          have kwb := ku.trans k_Hb
          refine ⟨_, _, .list (wordsD bs), rfl, .lst (.inl (.inl (kwb.same _ _ rfl qw))) (kwb.dpAll dwd), .lst (.inl (.inl q_Hb)) (by unfold wordsD; rw [← trips_same hes]; exact k_Hb.dpAll hy), dn_words (by omega), fun He ke => ⟨_, rfl, iteFo rfl ?_⟩⟩
          have kE := (kw.trans kwb).trans ke
          refine ⟨_, rfl, Nat.zero_le _, fun pe ne => ?_⟩
          generalize h_Hf : upd He pe _ = Hf
          have k_Hf : Kp He Hf := by rw [← h_Hf]; exact .new ne
          have q_Hf := (congrFun h_Hf pe).symm.trans upd_same
          clear h_Hf
          refine ⟨p, d1, d2, pe, bs, [], rfl, (BB.kp kE).kp k_Hf, .inl (.inl q_Hf), by decide, by simp, ((((k1.trans k2).trans kp).trans kE).trans k_Hf).tab _ hTS, fun v Hg kg dg _ _ => ?_⟩
          refine ⟨Nat.zero_le _, fun pf nf => ?_⟩
          generalize h_Hh : upd Hg pf _ = Hh
          have k_Hh : Kp Hg Hh := by rw [← h_Hh]; exact .new nf
          have q_Hh := (congrFun h_Hh pf).symm.trans upd_same
          clear h_Hh
          exact ⟨_, _, dS [], rfl, k_Hh.dp dg, dp_dS (ws := []) (.inl (.inl q_Hh)), .lst (fun d hd => by cases hd) (by decide), fun Hi ki => k Hi⟩
end
theorem all_mk {l : PySem.W.OpenLaw} {w : World} {K : PySem.W.Frag} {h : Heap} {mg : Str → Option Value} {fa : Addr} (X : K.In h) (G : h.Ns mainGlobals mg) (hfa : mg "law" = some (.ref fa)) (own : ∀ y ∈ (["is_word", "check_signs"] : List Str), ∀ f, mg y = some (.ref f) → LamX.OwnTab K f h)
    {C_MastError : Addr}
    {C_BadSign : Addr}
    {C_BadPlace : Addr}
    {C_BadWord : Addr}
    {C_Taken : Addr}
    {C_Known : Addr}
    {C_NoWord : Addr}
    {C_BadSigns : Addr}
    {nm_BadSigns q_BadSigns : Str} {N_BadSigns : Addr} {bs_BadSigns : List Value} {sn_BadSigns : List Str} {sub_BadSigns : List Value} {ab_BadSigns : Bool} {col_BadSigns : Option Bool} {dd_BadSigns : Option Addr} {m0_BadSigns m1_BadSigns m2_BadSigns m3_BadSigns m5_BadSigns : Option Value}
    {f_iBadSigns : Addr} {od_iBadSigns an_iBadSigns : Option Addr} {sl_iBadSigns : Array (Option Value)} {oc_iBadSigns kV_iBadSigns dc_iBadSigns pm_iBadSigns cd_iBadSigns ct_iBadSigns : Value}
    {C_Phrasebook : Addr}
    {f1 : Addr} {od1 an1 : Option Addr} {sl1 : Array (Option Value)} {oc1 kV1 dc1 pm1 cd1 ct1 : Value}
    {f2 : Addr} {od2 an2 : Option Addr} {sl2 : Array (Option Value)} {oc2 kV2 dc2 pm2 ct2 : Value}
    {c_tabS P_tabS : Addr} {dd_tabS : Option Addr} {vs_tabS : Array Value} {sl_tabS : Array (Option Value)} {fl_tabS : Str} {tf_tabS tg_tabS tt_tabS : Tok} {fg_tabS tx_tabS : Int} {b_tabS : Bool}
    {f3 : Addr} {od3 an3 : Option Addr} {sl3 : Array (Option Value)} {oc3 kV3 dc3 pm3 cd3 ct3 : Value}
    {f4 : Addr} {od4 an4 : Option Addr} {sl4 : Array (Option Value)} {oc4 kV4 dc4 pm4 cd4 ct4 : Value}
    {f5 : Addr} {od5 an5 : Option Addr} {sl5 : Array (Option Value)} {oc5 kV5 dc5 pm5 cd5 ct5 : Value}
    {f6 : Addr} {od6 an6 : Option Addr} {sl6 : Array (Option Value)} {oc6 kV6 dc6 pm6 ct6 : Value}
    {c_tab P_tab : Addr} {dd_tab : Option Addr} {vs_tab : Array Value} {sl_tab : Array (Option Value)} {fl_tab : Str} {tf_tab tg_tab tt_tab : Tok} {fg_tab tx_tab : Int} {b_tab : Bool}
    {f7 : Addr} {od7 an7 : Option Addr} {sl7 : Array (Option Value)} {oc7 kV7 dc7 pm7 cd7 ct7 : Value}
    {f8 : Addr} {od8 an8 : Option Addr} {sl8 : Array (Option Value)} {oc8 kV8 dc8 pm8 cd8 ct8 : Value}
    {f9 : Addr} {od9 an9 : Option Addr} {sl9 : Array (Option Value)} {oc9 kV9 dc9 pm9 cd9 ct9 : Value}
    {f10 : Addr} {od10 an10 : Option Addr} {sl10 : Array (Option Value)} {oc10 kV10 dc10 pm10 cd10 ct10 : Value}
    {f11 : Addr} {od11 an11 : Option Addr} {sl11 : Array (Option Value)} {oc11 kV11 dc11 pm11 cd11 ct11 : Value}
    {f12 : Addr} {od12 an12 : Option Addr} {sl12 : Array (Option Value)} {oc12 kV12 dc12 pm12 cd12 ct12 : Value}
    {f13 : Addr} {od13 an13 : Option Addr} {sl13 : Array (Option Value)} {oc13 kV13 dc13 pm13 cd13 ct13 : Value}
    {f14 : Addr} {od14 an14 : Option Addr} {sl14 : Array (Option Value)} {oc14 kV14 dc14 pm14 cd14 ct14 : Value}
    {f15 : Addr} {od15 an15 : Option Addr} {sl15 : Array (Option Value)} {oc15 kV15 dc15 pm15 cd15 ct15 : Value}
    {f16 : Addr} {od16 an16 : Option Addr} {sl16 : Array (Option Value)} {oc16 kV16 dc16 pm16 cd16 ct16 : Value}
    {f17 : Addr} {od17 an17 : Option Addr} {sl17 : Array (Option Value)} {oc17 kV17 dc17 pm17 cd17 ct17 : Value}
    {f18 : Addr} {od18 an18 : Option Addr} {sl18 : Array (Option Value)} {oc18 kV18 dc18 pm18 cd18 ct18 : Value}
    {f19 : Addr} {od19 an19 : Option Addr} {sl19 : Array (Option Value)} {oc19 kV19 dc19 pm19 cd19 ct19 : Value}
    {f20 : Addr} {od20 an20 : Option Addr} {sl20 : Array (Option Value)} {oc20 kV20 dc20 pm20 cd20 ct20 : Value}
    {f21 : Addr} {od21 an21 : Option Addr} {sl21 : Array (Option Value)} {oc21 kV21 dc21 pm21 cd21 ct21 : Value}
    {f22 : Addr} {od22 an22 : Option Addr} {sl22 : Array (Option Value)} {oc22 kV22 dc22 pm22 cd22 ct22 : Value}
    {f23 : Addr} {od23 an23 : Option Addr} {sl23 : Array (Option Value)} {oc23 kV23 dc23 pm23 cd23 ct23 : Value}
    {f24 : Addr} {od24 an24 : Option Addr} {sl24 : Array (Option Value)} {oc24 kV24 dc24 pm24 cd24 ct24 : Value}
    {f25 : Addr} {od25 an25 : Option Addr} {sl25 : Array (Option Value)} {oc25 kV25 dc25 pm25 cd25 ct25 : Value}
    {f26 : Addr} {od26 an26 : Option Addr} {sl26 : Array (Option Value)} {oc26 kV26 dc26 pm26 cd26 ct26 : Value}
    {f27 : Addr} {od27 an27 : Option Addr} {sl27 : Array (Option Value)} {oc27 kV27 dc27 pm27 cd27 ct27 : Value}
    {f28 : Addr} {od28 an28 : Option Addr} {sl28 : Array (Option Value)} {oc28 kV28 dc28 pm28 cd28 ct28 : Value}
    {f29 : Addr} {od29 an29 : Option Addr} {sl29 : Array (Option Value)} {oc29 kV29 dc29 pm29 cd29 ct29 : Value}
    {tk_LETTERS : Tok}
    {tk_LAST_PAGE : Tok}
    {tk_FIRST_LETTER : Tok}
    {tk_LAST_LETTER : Tok}
    {tk_END : Tok}
    {tk_STRIKE : Tok}
    {tk_LAST_SIGN : Tok}
    {tk_LONGEST_WORD : Tok}
    {tk_PAST_THE_END : Tok}
    (e_MastError : PySem.W.nsIn K mainGlobals "MastError" = some (some (.ref C_MastError)))
    (x_MastError : PySem.W.excIn K C_MastError [.type "ValueError", .type "Exception", .type "BaseException", .type "object"] "ValueError.__new__" = true)
    (k_MastError : PySem.W.keepIn K (.ref C_MastError) = true)
    (b_MastError : PySem.W.subIn K (.ref C_MastError) (.type "BaseException") = some true)
    (t_MastError : PySem.W.typeIn K (.ref C_MastError) = some (.type "type"))
    (i_MastError : PySem.W.isClsIn K C_MastError = true)
    (h_MastError : PySem.W.hasDictIn K C_MastError = true)
    (ga_MastError : PySem.W.findIn K (.ref C_MastError) "__getattribute__" = some (some (.builtin "BaseException.__getattribute__")))
    (gg_MastError : PySem.W.findIn K (.ref C_MastError) "__getattr__" = some none)
    (cl_MastError : PySem.W.findIn K (.ref C_MastError) "__class__" = some (some (.builtin "object.__class__")))
    (mo_MastError : PySem.W.mroIn K C_MastError (.type "object") = some true)
    (v_MastError : PySem.W.subIn K (.ref C_MastError) (.type "ValueError") = some true)
    (e_BadSign : PySem.W.nsIn K mainGlobals "BadSign" = some (some (.ref C_BadSign)))
    (x_BadSign : PySem.W.excIn K C_BadSign [.type "ValueError", .type "Exception", .type "BaseException", .type "object"] "ValueError.__new__" = true)
    (k_BadSign : PySem.W.keepIn K (.ref C_BadSign) = true)
    (b_BadSign : PySem.W.subIn K (.ref C_BadSign) (.type "BaseException") = some true)
    (t_BadSign : PySem.W.typeIn K (.ref C_BadSign) = some (.type "type"))
    (i_BadSign : PySem.W.isClsIn K C_BadSign = true)
    (h_BadSign : PySem.W.hasDictIn K C_BadSign = true)
    (ga_BadSign : PySem.W.findIn K (.ref C_BadSign) "__getattribute__" = some (some (.builtin "BaseException.__getattribute__")))
    (gg_BadSign : PySem.W.findIn K (.ref C_BadSign) "__getattr__" = some none)
    (cl_BadSign : PySem.W.findIn K (.ref C_BadSign) "__class__" = some (some (.builtin "object.__class__")))
    (mo_BadSign : PySem.W.mroIn K C_BadSign (.type "object") = some true)
    (v_BadSign : PySem.W.subIn K (.ref C_BadSign) (.type "ValueError") = some true)
    (e_BadPlace : PySem.W.nsIn K mainGlobals "BadPlace" = some (some (.ref C_BadPlace)))
    (x_BadPlace : PySem.W.excIn K C_BadPlace [.type "ValueError", .type "Exception", .type "BaseException", .type "object"] "ValueError.__new__" = true)
    (k_BadPlace : PySem.W.keepIn K (.ref C_BadPlace) = true)
    (b_BadPlace : PySem.W.subIn K (.ref C_BadPlace) (.type "BaseException") = some true)
    (t_BadPlace : PySem.W.typeIn K (.ref C_BadPlace) = some (.type "type"))
    (i_BadPlace : PySem.W.isClsIn K C_BadPlace = true)
    (h_BadPlace : PySem.W.hasDictIn K C_BadPlace = true)
    (ga_BadPlace : PySem.W.findIn K (.ref C_BadPlace) "__getattribute__" = some (some (.builtin "BaseException.__getattribute__")))
    (gg_BadPlace : PySem.W.findIn K (.ref C_BadPlace) "__getattr__" = some none)
    (cl_BadPlace : PySem.W.findIn K (.ref C_BadPlace) "__class__" = some (some (.builtin "object.__class__")))
    (mo_BadPlace : PySem.W.mroIn K C_BadPlace (.type "object") = some true)
    (v_BadPlace : PySem.W.subIn K (.ref C_BadPlace) (.type "ValueError") = some true)
    (e_BadWord : PySem.W.nsIn K mainGlobals "BadWord" = some (some (.ref C_BadWord)))
    (x_BadWord : PySem.W.excIn K C_BadWord [.type "ValueError", .type "Exception", .type "BaseException", .type "object"] "ValueError.__new__" = true)
    (k_BadWord : PySem.W.keepIn K (.ref C_BadWord) = true)
    (b_BadWord : PySem.W.subIn K (.ref C_BadWord) (.type "BaseException") = some true)
    (t_BadWord : PySem.W.typeIn K (.ref C_BadWord) = some (.type "type"))
    (i_BadWord : PySem.W.isClsIn K C_BadWord = true)
    (h_BadWord : PySem.W.hasDictIn K C_BadWord = true)
    (ga_BadWord : PySem.W.findIn K (.ref C_BadWord) "__getattribute__" = some (some (.builtin "BaseException.__getattribute__")))
    (gg_BadWord : PySem.W.findIn K (.ref C_BadWord) "__getattr__" = some none)
    (cl_BadWord : PySem.W.findIn K (.ref C_BadWord) "__class__" = some (some (.builtin "object.__class__")))
    (mo_BadWord : PySem.W.mroIn K C_BadWord (.type "object") = some true)
    (v_BadWord : PySem.W.subIn K (.ref C_BadWord) (.type "ValueError") = some true)
    (e_Taken : PySem.W.nsIn K mainGlobals "Taken" = some (some (.ref C_Taken)))
    (x_Taken : PySem.W.excIn K C_Taken [.type "ValueError", .type "Exception", .type "BaseException", .type "object"] "ValueError.__new__" = true)
    (k_Taken : PySem.W.keepIn K (.ref C_Taken) = true)
    (b_Taken : PySem.W.subIn K (.ref C_Taken) (.type "BaseException") = some true)
    (t_Taken : PySem.W.typeIn K (.ref C_Taken) = some (.type "type"))
    (i_Taken : PySem.W.isClsIn K C_Taken = true)
    (h_Taken : PySem.W.hasDictIn K C_Taken = true)
    (ga_Taken : PySem.W.findIn K (.ref C_Taken) "__getattribute__" = some (some (.builtin "BaseException.__getattribute__")))
    (gg_Taken : PySem.W.findIn K (.ref C_Taken) "__getattr__" = some none)
    (cl_Taken : PySem.W.findIn K (.ref C_Taken) "__class__" = some (some (.builtin "object.__class__")))
    (mo_Taken : PySem.W.mroIn K C_Taken (.type "object") = some true)
    (v_Taken : PySem.W.subIn K (.ref C_Taken) (.type "ValueError") = some true)
    (e_Known : PySem.W.nsIn K mainGlobals "Known" = some (some (.ref C_Known)))
    (x_Known : PySem.W.excIn K C_Known [.type "ValueError", .type "Exception", .type "BaseException", .type "object"] "ValueError.__new__" = true)
    (k_Known : PySem.W.keepIn K (.ref C_Known) = true)
    (b_Known : PySem.W.subIn K (.ref C_Known) (.type "BaseException") = some true)
    (t_Known : PySem.W.typeIn K (.ref C_Known) = some (.type "type"))
    (i_Known : PySem.W.isClsIn K C_Known = true)
    (h_Known : PySem.W.hasDictIn K C_Known = true)
    (ga_Known : PySem.W.findIn K (.ref C_Known) "__getattribute__" = some (some (.builtin "BaseException.__getattribute__")))
    (gg_Known : PySem.W.findIn K (.ref C_Known) "__getattr__" = some none)
    (cl_Known : PySem.W.findIn K (.ref C_Known) "__class__" = some (some (.builtin "object.__class__")))
    (mo_Known : PySem.W.mroIn K C_Known (.type "object") = some true)
    (v_Known : PySem.W.subIn K (.ref C_Known) (.type "ValueError") = some true)
    (e_NoWord : PySem.W.nsIn K mainGlobals "NoWord" = some (some (.ref C_NoWord)))
    (x_NoWord : PySem.W.excIn K C_NoWord [.type "ValueError", .type "Exception", .type "BaseException", .type "object"] "ValueError.__new__" = true)
    (k_NoWord : PySem.W.keepIn K (.ref C_NoWord) = true)
    (b_NoWord : PySem.W.subIn K (.ref C_NoWord) (.type "BaseException") = some true)
    (t_NoWord : PySem.W.typeIn K (.ref C_NoWord) = some (.type "type"))
    (i_NoWord : PySem.W.isClsIn K C_NoWord = true)
    (h_NoWord : PySem.W.hasDictIn K C_NoWord = true)
    (ga_NoWord : PySem.W.findIn K (.ref C_NoWord) "__getattribute__" = some (some (.builtin "BaseException.__getattribute__")))
    (gg_NoWord : PySem.W.findIn K (.ref C_NoWord) "__getattr__" = some none)
    (cl_NoWord : PySem.W.findIn K (.ref C_NoWord) "__class__" = some (some (.builtin "object.__class__")))
    (mo_NoWord : PySem.W.mroIn K C_NoWord (.type "object") = some true)
    (v_NoWord : PySem.W.subIn K (.ref C_NoWord) (.type "ValueError") = some true)
    (e_BadSigns : PySem.W.nsIn K mainGlobals "BadSigns" = some (some (.ref C_BadSigns)))
    (k_BadSigns : PySem.W.keepIn K (.ref C_BadSigns) = true)
    (b_BadSigns : PySem.W.subIn K (.ref C_BadSigns) (.type "BaseException") = some true)
    (t_BadSigns : PySem.W.typeIn K (.ref C_BadSigns) = some (.type "type"))
    (i_BadSigns : PySem.W.isClsIn K C_BadSigns = true)
    (h_BadSigns : PySem.W.hasDictIn K C_BadSigns = true)
    (ga_BadSigns : PySem.W.findIn K (.ref C_BadSigns) "__getattribute__" = some (some (.builtin "BaseException.__getattribute__")))
    (gg_BadSigns : PySem.W.findIn K (.ref C_BadSigns) "__getattr__" = some none)
    (cl_BadSigns : PySem.W.findIn K (.ref C_BadSigns) "__class__" = some (some (.builtin "object.__class__")))
    (mo_BadSigns : PySem.W.mroIn K C_BadSigns (.type "object") = some true)
    (v_BadSigns : PySem.W.subIn K (.ref C_BadSigns) (.type "ValueError") = some true)
    (xl_BadSigns : K.lookup C_BadSigns = some (excClassObj nm_BadSigns q_BadSigns C_BadSigns N_BadSigns bs_BadSigns [.ref C_MastError, .type "ValueError", .type "Exception", .type "BaseException", .type "object"] true sn_BadSigns sub_BadSigns ab_BadSigns col_BadSigns dd_BadSigns m0_BadSigns m1_BadSigns m2_BadSigns m3_BadSigns m5_BadSigns "ValueError.__new__"))
    (sa_BadSigns : PySem.W.findIn K (.ref C_BadSigns) "__setattr__" = some (some (.builtin "object.__setattr__")))
    (ia_BadSigns : PySem.W.findIn K (.ref C_BadSigns) "__init__" = some (some (.ref f_iBadSigns)))
    (it_BadSigns : PySem.W.typeIn K (.ref f_iBadSigns) = some (.type "function"))
    (il_BadSigns : K.lookup f_iBadSigns = some ⟨oc_iBadSigns, od_iBadSigns, .func (PySem.W.fnOf "__init__" "BadSigns.__init__" (defArgs s_p_BadSigns_init) (defBody s_p_BadSigns_init) (defScope s_p_BadSigns_init) .none kV_iBadSigns dc_iBadSigns pm_iBadSigns an_iBadSigns cd_iBadSigns ct_iBadSigns), sl_iBadSigns⟩)
    (ik_BadSigns : PySem.W.codeIn K cd_iBadSigns "BadSigns.__init__" = true)
    (ikp_BadSigns : PySem.W.keepIn K (.ref f_iBadSigns) = true)
    (nf_BadSigns_at : PySem.W.findIn K (.ref C_BadSigns) "at" = some none)
    (s_MastError_MastError : PySem.W.subIn K (.ref C_MastError) (.ref C_MastError) = some true)
    (s_BadSign_MastError : PySem.W.subIn K (.ref C_BadSign) (.ref C_MastError) = some true)
    (s_BadPlace_MastError : PySem.W.subIn K (.ref C_BadPlace) (.ref C_MastError) = some true)
    (s_BadWord_MastError : PySem.W.subIn K (.ref C_BadWord) (.ref C_MastError) = some true)
    (s_Taken_MastError : PySem.W.subIn K (.ref C_Taken) (.ref C_MastError) = some true)
    (s_Known_MastError : PySem.W.subIn K (.ref C_Known) (.ref C_MastError) = some true)
    (s_NoWord_MastError : PySem.W.subIn K (.ref C_NoWord) (.ref C_MastError) = some true)
    (s_BadSigns_MastError : PySem.W.subIn K (.ref C_BadSigns) (.ref C_MastError) = some true)
    (s_BadSigns_BadSigns : PySem.W.subIn K (.ref C_BadSigns) (.ref C_BadSigns) = some true)
    (e_Phrasebook : PySem.W.nsIn K mainGlobals "Phrasebook" = some (some (.ref C_Phrasebook)))
    (pg_Phrasebook : PySem.W.plainGet K C_Phrasebook Str.empty = true)
    (hd_Phrasebook : PySem.W.hasDictIn K C_Phrasebook = true)
    (po_Phrasebook : PySem.W.plainOver K C_Phrasebook = true)
    (sa_Phrasebook : PySem.W.findIn K (.ref C_Phrasebook) "__setattr__" = some (some (.builtin "object.__setattr__")))
    (mk_Phrasebook : PySem.W.makesIn K C_Phrasebook = true)
    (kc_Phrasebook : PySem.W.keepIn K (.ref C_Phrasebook) = true)
    (n_Phrasebook_word_by_place : PySem.W.findIn K (.ref C_Phrasebook) "word_by_place" = some none)
    (n_Phrasebook_place_by_word : PySem.W.findIn K (.ref C_Phrasebook) "place_by_word" = some none)
    (a1 : PySem.W.nsIn K mainGlobals "is_sign" = some (some (.ref f1)))
    (l1 : K.lookup f1 = some ⟨oc1, od1, .func (PySem.W.fnOf "is_sign" "is_sign" (defArgs s_p_is_sign) (defBody s_p_is_sign) (defScope s_p_is_sign) .none kV1 dc1 pm1 an1 cd1 ct1), sl1⟩)
    (c1 : PySem.W.codeIn K cd1 "is_sign" = true)
    (k1 : PySem.W.keepIn K (.ref f1) = true)
    (a2 : PySem.W.nsIn K mainGlobals "check_signs" = some (some (.ref f2)))
    (l2 : K.lookup f2 = some ⟨oc2, od2, .func (PySem.W.fnOf "check_signs" "check_signs" (defArgs s_p_check_signs) (defBody s_p_check_signs) (defScope s_p_check_signs) .none kV2 dc2 pm2 an2 (.ref c_tabS) ct2), sl2⟩)
    (c2 : PySem.W.codeIn K (.ref c_tabS) "check_signs" = true)
    (y_lS : K.lookup c_tabS = some ⟨.type "code", dd_tabS, .fields vs_tabS, sl_tabS⟩)
    (y_11S : vs_tabS[11]? = some (.ref P_tabS))
    (y_18S : vs_tabS.getD 18 .none = .str fl_tabS tf_tabS)
    (y_7S : vs_tabS.getD 7 .none = .int fg_tabS tg_tabS)
    (y_9S : vs_tabS.getD 9 .none = .bool b_tabS)
    (y_10S : vs_tabS.getD 10 .none = .int tx_tabS tt_tabS)
    (y_neS : c_tabS ≠ P_tabS)
    (y_PS : K.lookup P_tabS = none)
    (k2 : PySem.W.keepIn K (.ref f2) = true)
    (a3 : PySem.W.nsIn K mainGlobals "kind_of" = some (some (.ref f3)))
    (l3 : K.lookup f3 = some ⟨oc3, od3, .func (PySem.W.fnOf "kind_of" "kind_of" (defArgs s_p_kind_of) (defBody s_p_kind_of) (defScope s_p_kind_of) .none kV3 dc3 pm3 an3 cd3 ct3), sl3⟩)
    (c3 : PySem.W.codeIn K cd3 "kind_of" = true)
    (k3 : PySem.W.keepIn K (.ref f3) = true)
    (a4 : PySem.W.nsIn K mainGlobals "letter_of" = some (some (.ref f4)))
    (l4 : K.lookup f4 = some ⟨oc4, od4, .func (PySem.W.fnOf "letter_of" "letter_of" (defArgs s_p_letter_of) (defBody s_p_letter_of) (defScope s_p_letter_of) .none kV4 dc4 pm4 an4 cd4 ct4), sl4⟩)
    (c4 : PySem.W.codeIn K cd4 "letter_of" = true)
    (k4 : PySem.W.keepIn K (.ref f4) = true)
    (a5 : PySem.W.nsIn K mainGlobals "standing" = some (some (.ref f5)))
    (l5 : K.lookup f5 = some ⟨oc5, od5, .func (PySem.W.fnOf "standing" "standing" (defArgs s_p_standing) (defBody s_p_standing) (defScope s_p_standing) .none kV5 dc5 pm5 an5 cd5 ct5), sl5⟩)
    (c5 : PySem.W.codeIn K cd5 "standing" = true)
    (k5 : PySem.W.keepIn K (.ref f5) = true)
    (a6 : PySem.W.nsIn K mainGlobals "is_word" = some (some (.ref f6)))
    (l6 : K.lookup f6 = some ⟨oc6, od6, .func (PySem.W.fnOf "is_word" "is_word" (defArgs s_p_is_word) (defBody s_p_is_word) (defScope s_p_is_word) .none kV6 dc6 pm6 an6 (.ref c_tab) ct6), sl6⟩)
    (c6 : PySem.W.codeIn K (.ref c_tab) "is_word" = true)
    (y_l : K.lookup c_tab = some ⟨.type "code", dd_tab, .fields vs_tab, sl_tab⟩)
    (y_11 : vs_tab[11]? = some (.ref P_tab))
    (y_18 : vs_tab.getD 18 .none = .str fl_tab tf_tab)
    (y_7 : vs_tab.getD 7 .none = .int fg_tab tg_tab)
    (y_9 : vs_tab.getD 9 .none = .bool b_tab)
    (y_10 : vs_tab.getD 10 .none = .int tx_tab tt_tab)
    (y_ne : c_tab ≠ P_tab)
    (y_P : K.lookup P_tab = none)
    (k6 : PySem.W.keepIn K (.ref f6) = true)
    (a7 : PySem.W.nsIn K mainGlobals "check_word" = some (some (.ref f7)))
    (l7 : K.lookup f7 = some ⟨oc7, od7, .func (PySem.W.fnOf "check_word" "check_word" (defArgs s_p_check_word) (defBody s_p_check_word) (defScope s_p_check_word) .none kV7 dc7 pm7 an7 cd7 ct7), sl7⟩)
    (c7 : PySem.W.codeIn K cd7 "check_word" = true)
    (k7 : PySem.W.keepIn K (.ref f7) = true)
    (a8 : PySem.W.nsIn K mainGlobals "check_place" = some (some (.ref f8)))
    (l8 : K.lookup f8 = some ⟨oc8, od8, .func (PySem.W.fnOf "check_place" "check_place" (defArgs s_p_check_place) (defBody s_p_check_place) (defScope s_p_check_place) .none kV8 dc8 pm8 an8 cd8 ct8), sl8⟩)
    (c8 : PySem.W.codeIn K cd8 "check_place" = true)
    (k8 : PySem.W.keepIn K (.ref f8) = true)
    (a9 : PySem.W.findIn K (.ref C_Phrasebook) "__init__" = some (some (.ref f9)))
    (i9 : PySem.W.isFn K (.ref f9) = true)
    (l9 : K.lookup f9 = some ⟨oc9, od9, .func (PySem.W.fnOf "__init__" "Phrasebook.__init__" (defArgs s_p_Phrasebook_init) (defBody s_p_Phrasebook_init) (defScope s_p_Phrasebook_init) .none kV9 dc9 pm9 an9 cd9 ct9), sl9⟩)
    (c9 : PySem.W.codeIn K cd9 "Phrasebook.__init__" = true)
    (k9 : PySem.W.keepIn K (.ref f9) = true)
    (a10 : PySem.W.findIn K (.ref C_Phrasebook) "enter" = some (some (.ref f10)))
    (i10 : PySem.W.isFn K (.ref f10) = true)
    (l10 : K.lookup f10 = some ⟨oc10, od10, .func (PySem.W.fnOf "enter" "Phrasebook.enter" (defArgs s_p_Phrasebook_enter) (defBody s_p_Phrasebook_enter) (defScope s_p_Phrasebook_enter) .none kV10 dc10 pm10 an10 cd10 ct10), sl10⟩)
    (c10 : PySem.W.codeIn K cd10 "Phrasebook.enter" = true)
    (k10 : PySem.W.keepIn K (.ref f10) = true)
    (a11 : PySem.W.findIn K (.ref C_Phrasebook) "word_at" = some (some (.ref f11)))
    (i11 : PySem.W.isFn K (.ref f11) = true)
    (l11 : K.lookup f11 = some ⟨oc11, od11, .func (PySem.W.fnOf "word_at" "Phrasebook.word_at" (defArgs s_p_Phrasebook_word_at) (defBody s_p_Phrasebook_word_at) (defScope s_p_Phrasebook_word_at) .none kV11 dc11 pm11 an11 cd11 ct11), sl11⟩)
    (c11 : PySem.W.codeIn K cd11 "Phrasebook.word_at" = true)
    (k11 : PySem.W.keepIn K (.ref f11) = true)
    (a12 : PySem.W.findIn K (.ref C_Phrasebook) "words" = some (some (.ref f12)))
    (i12 : PySem.W.isFn K (.ref f12) = true)
    (l12 : K.lookup f12 = some ⟨oc12, od12, .func (PySem.W.fnOf "words" "Phrasebook.words" (defArgs s_p_Phrasebook_words) (defBody s_p_Phrasebook_words) (defScope s_p_Phrasebook_words) .none kV12 dc12 pm12 an12 cd12 ct12), sl12⟩)
    (c12 : PySem.W.codeIn K cd12 "Phrasebook.words" = true)
    (k12 : PySem.W.keepIn K (.ref f12) = true)
    (a13 : PySem.W.nsIn K mainGlobals "words_of" = some (some (.ref f13)))
    (l13 : K.lookup f13 = some ⟨oc13, od13, .func (PySem.W.fnOf "words_of" "words_of" (defArgs s_p_words_of) (defBody s_p_words_of) (defScope s_p_words_of) .none kV13 dc13 pm13 an13 cd13 ct13), sl13⟩)
    (c13 : PySem.W.codeIn K cd13 "words_of" = true)
    (k13 : PySem.W.keepIn K (.ref f13) = true)
    (a14 : PySem.W.nsIn K mainGlobals "rows_of" = some (some (.ref f14)))
    (l14 : K.lookup f14 = some ⟨oc14, od14, .func (PySem.W.fnOf "rows_of" "rows_of" (defArgs s_p_rows_of) (defBody s_p_rows_of) (defScope s_p_rows_of) .none kV14 dc14 pm14 an14 cd14 ct14), sl14⟩)
    (c14 : PySem.W.codeIn K cd14 "rows_of" = true)
    (k14 : PySem.W.keepIn K (.ref f14) = true)
    (a15 : PySem.W.nsIn K mainGlobals "placed_word" = some (some (.ref f15)))
    (l15 : K.lookup f15 = some ⟨oc15, od15, .func (PySem.W.fnOf "placed_word" "placed_word" (defArgs s_p_placed_word) (defBody s_p_placed_word) (defScope s_p_placed_word) .none kV15 dc15 pm15 an15 cd15 ct15), sl15⟩)
    (c15 : PySem.W.codeIn K cd15 "placed_word" = true)
    (k15 : PySem.W.keepIn K (.ref f15) = true)
    (a16 : PySem.W.nsIn K mainGlobals "spelled_word" = some (some (.ref f16)))
    (l16 : K.lookup f16 = some ⟨oc16, od16, .func (PySem.W.fnOf "spelled_word" "spelled_word" (defArgs s_p_spelled_word) (defBody s_p_spelled_word) (defScope s_p_spelled_word) .none kV16 dc16 pm16 an16 cd16 ct16), sl16⟩)
    (c16 : PySem.W.codeIn K cd16 "spelled_word" = true)
    (k16 : PySem.W.keepIn K (.ref f16) = true)
    (a17 : PySem.W.nsIn K mainGlobals "_law_cell" = some (some (.ref f17)))
    (l17 : K.lookup f17 = some ⟨oc17, od17, .func (PySem.W.fnOf "_law_cell" "_law_cell" (defArgs s_l_cell) (defBody s_l_cell) (defScope s_l_cell) .none kV17 dc17 pm17 an17 cd17 ct17), sl17⟩)
    (c17 : PySem.W.codeIn K cd17 "_law_cell" = true)
    (k17 : PySem.W.keepIn K (.ref f17) = true)
    (a18 : PySem.W.nsIn K mainGlobals "_law_row" = some (some (.ref f18)))
    (l18 : K.lookup f18 = some ⟨oc18, od18, .func (PySem.W.fnOf "_law_row" "_law_row" (defArgs s_l_row) (defBody s_l_row) (defScope s_l_row) .none kV18 dc18 pm18 an18 cd18 ct18), sl18⟩)
    (c18 : PySem.W.codeIn K cd18 "_law_row" = true)
    (k18 : PySem.W.keepIn K (.ref f18) = true)
    (a19 : PySem.W.nsIn K mainGlobals "_law_like" = some (some (.ref f19)))
    (l19 : K.lookup f19 = some ⟨oc19, od19, .func (PySem.W.fnOf "_law_like" "_law_like" (defArgs s_l_like) (defBody s_l_like) (defScope s_l_like) .none kV19 dc19 pm19 an19 cd19 ct19), sl19⟩)
    (c19 : PySem.W.codeIn K cd19 "_law_like" = true)
    (k19 : PySem.W.keepIn K (.ref f19) = true)
    (a20 : PySem.W.nsIn K mainGlobals "_law_word" = some (some (.ref f20)))
    (l20 : K.lookup f20 = some ⟨oc20, od20, .func (PySem.W.fnOf "_law_word" "_law_word" (defArgs s_l_word) (defBody s_l_word) (defScope s_l_word) .none kV20 dc20 pm20 an20 cd20 ct20), sl20⟩)
    (c20 : PySem.W.codeIn K cd20 "_law_word" = true)
    (k20 : PySem.W.keepIn K (.ref f20) = true)
    (a21 : PySem.W.nsIn K mainGlobals "_law_signs_of" = some (some (.ref f21)))
    (l21 : K.lookup f21 = some ⟨oc21, od21, .func (PySem.W.fnOf "_law_signs_of" "_law_signs_of" (defArgs s_l_signs_of) (defBody s_l_signs_of) (defScope s_l_signs_of) .none kV21 dc21 pm21 an21 cd21 ct21), sl21⟩)
    (c21 : PySem.W.codeIn K cd21 "_law_signs_of" = true)
    (k21 : PySem.W.keepIn K (.ref f21) = true)
    (a22 : PySem.W.nsIn K mainGlobals "_law_signs" = some (some (.ref f22)))
    (l22 : K.lookup f22 = some ⟨oc22, od22, .func (PySem.W.fnOf "_law_signs" "_law_signs" (defArgs s_l_signs) (defBody s_l_signs) (defScope s_l_signs) .none kV22 dc22 pm22 an22 cd22 ct22), sl22⟩)
    (c22 : PySem.W.codeIn K cd22 "_law_signs" = true)
    (k22 : PySem.W.keepIn K (.ref f22) = true)
    (a23 : PySem.W.nsIn K mainGlobals "_law_book" = some (some (.ref f23)))
    (l23 : K.lookup f23 = some ⟨oc23, od23, .func (PySem.W.fnOf "_law_book" "_law_book" (defArgs s_l_book) (defBody s_l_book) (defScope s_l_book) .none kV23 dc23 pm23 an23 cd23 ct23), sl23⟩)
    (c23 : PySem.W.codeIn K cd23 "_law_book" = true)
    (k23 : PySem.W.keepIn K (.ref f23) = true)
    (a24 : PySem.W.nsIn K mainGlobals "_law_some_words" = some (some (.ref f24)))
    (l24 : K.lookup f24 = some ⟨oc24, od24, .func (PySem.W.fnOf "_law_some_words" "_law_some_words" (defArgs s_l_some_words) (defBody s_l_some_words) (defScope s_l_some_words) .none kV24 dc24 pm24 an24 cd24 ct24), sl24⟩)
    (c24 : PySem.W.codeIn K cd24 "_law_some_words" = true)
    (k24 : PySem.W.keepIn K (.ref f24) = true)
    (a25 : PySem.W.nsIn K mainGlobals "_law_read_word" = some (some (.ref f25)))
    (l25 : K.lookup f25 = some ⟨oc25, od25, .func (PySem.W.fnOf "_law_read_word" "_law_read_word" (defArgs s_l_read_word) (defBody s_l_read_word) (defScope s_l_read_word) .none kV25 dc25 pm25 an25 cd25 ct25), sl25⟩)
    (c25 : PySem.W.codeIn K cd25 "_law_read_word" = true)
    (k25 : PySem.W.keepIn K (.ref f25) = true)
    (a26 : PySem.W.nsIn K mainGlobals "_law_read" = some (some (.ref f26)))
    (l26 : K.lookup f26 = some ⟨oc26, od26, .func (PySem.W.fnOf "_law_read" "_law_read" (defArgs s_l_read) (defBody s_l_read) (defScope s_l_read) .none kV26 dc26 pm26 an26 cd26 ct26), sl26⟩)
    (c26 : PySem.W.codeIn K cd26 "_law_read" = true)
    (k26 : PySem.W.keepIn K (.ref f26) = true)
    (a27 : PySem.W.nsIn K mainGlobals "_law_bent" = some (some (.ref f27)))
    (l27 : K.lookup f27 = some ⟨oc27, od27, .func (PySem.W.fnOf "_law_bent" "_law_bent" (defArgs s_l_bent) (defBody s_l_bent) (defScope s_l_bent) .none kV27 dc27 pm27 an27 cd27 ct27), sl27⟩)
    (c27 : PySem.W.codeIn K cd27 "_law_bent" = true)
    (k27 : PySem.W.keepIn K (.ref f27) = true)
    (a28 : PySem.W.nsIn K mainGlobals "_law_told" = some (some (.ref f28)))
    (l28 : K.lookup f28 = some ⟨oc28, od28, .func (PySem.W.fnOf "_law_told" "_law_told" (defArgs s_l_told) (defBody s_l_told) (defScope s_l_told) .none kV28 dc28 pm28 an28 cd28 ct28), sl28⟩)
    (c28 : PySem.W.codeIn K cd28 "_law_told" = true)
    (k28 : PySem.W.keepIn K (.ref f28) = true)
    (a29 : PySem.W.nsIn K mainGlobals "law" = some (some (.ref f29)))
    (l29 : K.lookup f29 = some ⟨oc29, od29, .func (PySem.W.fnOf "law" "law" (defArgs s_law) (defBody s_law) (defScope s_law) .none kV29 dc29 pm29 an29 cd29 ct29), sl29⟩)
    (c29 : PySem.W.codeIn K cd29 "law" = true)
    (k29 : PySem.W.keepIn K (.ref f29) = true)
    (q_LETTERS : PySem.W.nsIn K mainGlobals "LETTERS" = some (some (.str "abcdefghijklmnopqrstuvwxyz" tk_LETTERS)))
    (q_LAST_PAGE : PySem.W.nsIn K mainGlobals "LAST_PAGE" = some (some (.int 40 tk_LAST_PAGE)))
    (q_FIRST_LETTER : PySem.W.nsIn K mainGlobals "FIRST_LETTER" = some (some (.int 41 tk_FIRST_LETTER)))
    (q_LAST_LETTER : PySem.W.nsIn K mainGlobals "LAST_LETTER" = some (some (.int 66 tk_LAST_LETTER)))
    (q_END : PySem.W.nsIn K mainGlobals "END" = some (some (.int 67 tk_END)))
    (q_STRIKE : PySem.W.nsIn K mainGlobals "STRIKE" = some (some (.int 68 tk_STRIKE)))
    (q_LAST_SIGN : PySem.W.nsIn K mainGlobals "LAST_SIGN" = some (some (.int 94 tk_LAST_SIGN)))
    (q_LONGEST_WORD : PySem.W.nsIn K mainGlobals "LONGEST_WORD" = some (some (.int 12 tk_LONGEST_WORD)))
    (q_PAST_THE_END : PySem.W.nsIn K mainGlobals "PAST_THE_END" = some (some (.str "past the end" tk_PAST_THE_END)))
    (z_all : PySem.W.nsIn K mainGlobals "all" = some none)
    (z_enumerate : PySem.W.nsIn K mainGlobals "enumerate" = some none)
    (z_len : PySem.W.nsIn K mainGlobals "len" = some none)
    (z_sorted : PySem.W.nsIn K mainGlobals "sorted" = some none)
    (z_range : PySem.W.nsIn K mainGlobals "range" = some none)
    (z_isinstance : PySem.W.nsIn K mainGlobals "isinstance" = some none)
    (z_bool : PySem.W.nsIn K mainGlobals "bool" = some none)
    (z_int : PySem.W.nsIn K mainGlobals "int" = some none)
    (z_str : PySem.W.nsIn K mainGlobals "str" = some none)
    (z_list : PySem.W.nsIn K mainGlobals "list" = some none)
    (z_tuple : PySem.W.nsIn K mainGlobals "tuple" = some none)
    (z_ValueError : PySem.W.nsIn K mainGlobals "ValueError" = some none)
    (oc_get : PySem.W.specialIn K (.builtin "object.__class__") "__get__" = some (some (.builtin "getset_descriptor.__get__")))
    (oc_tak : PySem.W.takesIn K (.builtin "object.__class__") = some true) :
    LamX.LawAtS l w K CX0 13 63 "_law_script" mg fa h := by
  have e := hfa.symm.trans (PySem.W.mg_of X G a29)
  cases e
  let T : Txt K mg :=
    { a_MastError := C_MastError,
      g_MastError := PySem.W.mg_of X G e_MastError,
      x_MastError := x_MastError,
      k_MastError := k_MastError,
      b_MastError := b_MastError,
      t_MastError := t_MastError,
      i_MastError := i_MastError,
      h_MastError := h_MastError,
      ga_MastError := ga_MastError,
      gg_MastError := gg_MastError,
      cl_MastError := cl_MastError,
      mo_MastError := mo_MastError,
      v_MastError := v_MastError,
      a_BadSign := C_BadSign,
      g_BadSign := PySem.W.mg_of X G e_BadSign,
      x_BadSign := x_BadSign,
      k_BadSign := k_BadSign,
      b_BadSign := b_BadSign,
      t_BadSign := t_BadSign,
      i_BadSign := i_BadSign,
      h_BadSign := h_BadSign,
      ga_BadSign := ga_BadSign,
      gg_BadSign := gg_BadSign,
      cl_BadSign := cl_BadSign,
      mo_BadSign := mo_BadSign,
      v_BadSign := v_BadSign,
      a_BadPlace := C_BadPlace,
      g_BadPlace := PySem.W.mg_of X G e_BadPlace,
      x_BadPlace := x_BadPlace,
      k_BadPlace := k_BadPlace,
      b_BadPlace := b_BadPlace,
      t_BadPlace := t_BadPlace,
      i_BadPlace := i_BadPlace,
      h_BadPlace := h_BadPlace,
      ga_BadPlace := ga_BadPlace,
      gg_BadPlace := gg_BadPlace,
      cl_BadPlace := cl_BadPlace,
      mo_BadPlace := mo_BadPlace,
      v_BadPlace := v_BadPlace,
      a_BadWord := C_BadWord,
      g_BadWord := PySem.W.mg_of X G e_BadWord,
      x_BadWord := x_BadWord,
      k_BadWord := k_BadWord,
      b_BadWord := b_BadWord,
      t_BadWord := t_BadWord,
      i_BadWord := i_BadWord,
      h_BadWord := h_BadWord,
      ga_BadWord := ga_BadWord,
      gg_BadWord := gg_BadWord,
      cl_BadWord := cl_BadWord,
      mo_BadWord := mo_BadWord,
      v_BadWord := v_BadWord,
      a_Taken := C_Taken,
      g_Taken := PySem.W.mg_of X G e_Taken,
      x_Taken := x_Taken,
      k_Taken := k_Taken,
      b_Taken := b_Taken,
      t_Taken := t_Taken,
      i_Taken := i_Taken,
      h_Taken := h_Taken,
      ga_Taken := ga_Taken,
      gg_Taken := gg_Taken,
      cl_Taken := cl_Taken,
      mo_Taken := mo_Taken,
      v_Taken := v_Taken,
      a_Known := C_Known,
      g_Known := PySem.W.mg_of X G e_Known,
      x_Known := x_Known,
      k_Known := k_Known,
      b_Known := b_Known,
      t_Known := t_Known,
      i_Known := i_Known,
      h_Known := h_Known,
      ga_Known := ga_Known,
      gg_Known := gg_Known,
      cl_Known := cl_Known,
      mo_Known := mo_Known,
      v_Known := v_Known,
      a_NoWord := C_NoWord,
      g_NoWord := PySem.W.mg_of X G e_NoWord,
      x_NoWord := x_NoWord,
      k_NoWord := k_NoWord,
      b_NoWord := b_NoWord,
      t_NoWord := t_NoWord,
      i_NoWord := i_NoWord,
      h_NoWord := h_NoWord,
      ga_NoWord := ga_NoWord,
      gg_NoWord := gg_NoWord,
      cl_NoWord := cl_NoWord,
      mo_NoWord := mo_NoWord,
      v_NoWord := v_NoWord,
      a_BadSigns := C_BadSigns,
      g_BadSigns := PySem.W.mg_of X G e_BadSigns,
      k_BadSigns := k_BadSigns,
      b_BadSigns := b_BadSigns,
      t_BadSigns := t_BadSigns,
      i_BadSigns := i_BadSigns,
      h_BadSigns := h_BadSigns,
      ga_BadSigns := ga_BadSigns,
      gg_BadSigns := gg_BadSigns,
      cl_BadSigns := cl_BadSigns,
      mo_BadSigns := mo_BadSigns,
      v_BadSigns := v_BadSigns,
      ox_BadSigns := ⟨⟨_, _, _, _, _, _, _, _, _, _, _, _, _, _, _, xl_BadSigns, rfl⟩, sa_BadSigns, b_BadSigns, t_BadSigns, k_BadSigns⟩,
      f_p_BadSigns_init := f_iBadSigns,
      d_p_BadSigns_init := _,
      F_p_BadSigns_init := fun_mk (st := s_p_BadSigns_init) il_BadSigns ik_BadSigns ikp_BadSigns,
      b_p_BadSigns_init := (fun_mk (st := s_p_BadSigns_init) il_BadSigns ik_BadSigns ikp_BadSigns).binds (ps := ["self", "at"]) fun _ _ _ _ _ _ us hl => match us, hl with | [_, _], _ => rfl,
      ic_BadSigns := ia_BadSigns,
      ti_BadSigns := it_BadSigns,
      nf_BadSigns_at := nf_BadSigns_at,
      s_MastError_MastError := s_MastError_MastError,
      s_BadSign_MastError := s_BadSign_MastError,
      s_BadPlace_MastError := s_BadPlace_MastError,
      s_BadWord_MastError := s_BadWord_MastError,
      s_Taken_MastError := s_Taken_MastError,
      s_Known_MastError := s_Known_MastError,
      s_NoWord_MastError := s_NoWord_MastError,
      s_BadSigns_MastError := s_BadSigns_MastError,
      s_BadSigns_BadSigns := s_BadSigns_BadSigns,
      a_Phrasebook := C_Phrasebook,
      g_Phrasebook := PySem.W.mg_of X G e_Phrasebook,
      cl_Phrasebook := ⟨pg_Phrasebook, hd_Phrasebook, po_Phrasebook, sa_Phrasebook⟩,
      n_Phrasebook_word_by_place := n_Phrasebook_word_by_place,
      n_Phrasebook_place_by_word := n_Phrasebook_place_by_word,
      f_p_is_sign := f1,
      d_p_is_sign := _,
      F_p_is_sign := fun_mk (st := s_p_is_sign) l1 c1 k1,
      b_p_is_sign := (fun_mk (st := s_p_is_sign) l1 c1 k1).binds (ps := ["number"]) fun _ _ _ _ _ _ us hl => match us, hl with | [_], _ => rfl,
      g_p_is_sign := PySem.W.mg_of X G a1,
      c_tabS := c_tabS,
      P_tabS := P_tabS,
      W_p_check_signs := ⟨_, _, _, _, _, _, _, _, rfl, l2, c2⟩,
      f_p_check_signs := f2,
      d_p_check_signs := _,
      F_p_check_signs := fun_mk (st := s_p_check_signs) l2 c2 k2,
      b_p_check_signs := (fun_mk (st := s_p_check_signs) l2 c2 k2).binds (ps := ["numbers"]) fun _ _ _ _ _ _ us hl => match us, hl with | [_], _ => rfl,
      g_p_check_signs := PySem.W.mg_of X G a2,
      f_p_kind_of := f3,
      d_p_kind_of := _,
      F_p_kind_of := fun_mk (st := s_p_kind_of) l3 c3 k3,
      b_p_kind_of := (fun_mk (st := s_p_kind_of) l3 c3 k3).binds (ps := ["sign"]) fun _ _ _ _ _ _ us hl => match us, hl with | [_], _ => rfl,
      g_p_kind_of := PySem.W.mg_of X G a3,
      f_p_letter_of := f4,
      d_p_letter_of := _,
      F_p_letter_of := fun_mk (st := s_p_letter_of) l4 c4 k4,
      b_p_letter_of := (fun_mk (st := s_p_letter_of) l4 c4 k4).binds (ps := ["sign"]) fun _ _ _ _ _ _ us hl => match us, hl with | [_], _ => rfl,
      g_p_letter_of := PySem.W.mg_of X G a4,
      f_p_standing := f5,
      d_p_standing := _,
      F_p_standing := fun_mk (st := s_p_standing) l5 c5 k5,
      b_p_standing := (fun_mk (st := s_p_standing) l5 c5 k5).binds (ps := ["signs"]) fun _ _ _ _ _ _ us hl => match us, hl with | [_], _ => rfl,
      g_p_standing := PySem.W.mg_of X G a5,
      c_tab := c_tab,
      P_tab := P_tab,
      W_p_is_word := ⟨_, _, _, _, _, _, _, _, rfl, l6, c6⟩,
      f_p_is_word := f6,
      d_p_is_word := _,
      F_p_is_word := fun_mk (st := s_p_is_word) l6 c6 k6,
      b_p_is_word := (fun_mk (st := s_p_is_word) l6 c6 k6).binds (ps := ["text"]) fun _ _ _ _ _ _ us hl => match us, hl with | [_], _ => rfl,
      g_p_is_word := PySem.W.mg_of X G a6,
      f_p_check_word := f7,
      d_p_check_word := _,
      F_p_check_word := fun_mk (st := s_p_check_word) l7 c7 k7,
      b_p_check_word := (fun_mk (st := s_p_check_word) l7 c7 k7).binds (ps := ["text"]) fun _ _ _ _ _ _ us hl => match us, hl with | [_], _ => rfl,
      g_p_check_word := PySem.W.mg_of X G a7,
      f_p_check_place := f8,
      d_p_check_place := _,
      F_p_check_place := fun_mk (st := s_p_check_place) l8 c8 k8,
      b_p_check_place := (fun_mk (st := s_p_check_place) l8 c8 k8).binds (ps := ["page", "line"]) fun _ _ _ _ _ _ us hl => match us, hl with | [_, _], _ => rfl,
      g_p_check_place := PySem.W.mg_of X G a8,
      f_p_Phrasebook_init := f9,
      d_p_Phrasebook_init := _,
      F_p_Phrasebook_init := fun_mk (st := s_p_Phrasebook_init) l9 c9 k9,
      b_p_Phrasebook_init := (fun_mk (st := s_p_Phrasebook_init) l9 c9 k9).binds (ps := ["self"]) fun _ _ _ _ _ _ us hl => match us, hl with | [_], _ => rfl,
      M_p_Phrasebook_init := ⟨a9, i9, k9⟩,
      K_Phrasebook := ⟨mk_Phrasebook, a9, i9, kc_Phrasebook⟩,
      f_p_Phrasebook_enter := f10,
      d_p_Phrasebook_enter := _,
      F_p_Phrasebook_enter := fun_mk (st := s_p_Phrasebook_enter) l10 c10 k10,
      b_p_Phrasebook_enter := (fun_mk (st := s_p_Phrasebook_enter) l10 c10 k10).binds (ps := ["self", "page", "line", "word"]) fun _ _ _ _ _ _ us hl => match us, hl with | [_, _, _, _], _ => rfl,
      M_p_Phrasebook_enter := ⟨a10, i10, k10⟩,
      f_p_Phrasebook_word_at := f11,
      d_p_Phrasebook_word_at := _,
      F_p_Phrasebook_word_at := fun_mk (st := s_p_Phrasebook_word_at) l11 c11 k11,
      b_p_Phrasebook_word_at := (fun_mk (st := s_p_Phrasebook_word_at) l11 c11 k11).binds (ps := ["self", "page", "line"]) fun _ _ _ _ _ _ us hl => match us, hl with | [_, _, _], _ => rfl,
      M_p_Phrasebook_word_at := ⟨a11, i11, k11⟩,
      f_p_Phrasebook_words := f12,
      d_p_Phrasebook_words := _,
      F_p_Phrasebook_words := fun_mk (st := s_p_Phrasebook_words) l12 c12 k12,
      b_p_Phrasebook_words := (fun_mk (st := s_p_Phrasebook_words) l12 c12 k12).binds (ps := ["self"]) fun _ _ _ _ _ _ us hl => match us, hl with | [_], _ => rfl,
      M_p_Phrasebook_words := ⟨a12, i12, k12⟩,
      f_p_words_of := f13,
      d_p_words_of := _,
      F_p_words_of := fun_mk (st := s_p_words_of) l13 c13 k13,
      b_p_words_of := (fun_mk (st := s_p_words_of) l13 c13 k13).binds (ps := ["book", "signs"]) fun _ _ _ _ _ _ us hl => match us, hl with | [_, _], _ => rfl,
      g_p_words_of := PySem.W.mg_of X G a13,
      f_p_rows_of := f14,
      d_p_rows_of := _,
      F_p_rows_of := fun_mk (st := s_p_rows_of) l14 c14 k14,
      b_p_rows_of := (fun_mk (st := s_p_rows_of) l14 c14 k14).binds (ps := ["signs"]) fun _ _ _ _ _ _ us hl => match us, hl with | [_], _ => rfl,
      g_p_rows_of := PySem.W.mg_of X G a14,
      f_p_placed_word := f15,
      d_p_placed_word := _,
      F_p_placed_word := fun_mk (st := s_p_placed_word) l15 c15 k15,
      b_p_placed_word := (fun_mk (st := s_p_placed_word) l15 c15 k15).binds (ps := ["book", "page", "row"]) fun _ _ _ _ _ _ us hl => match us, hl with | [_, _, _], _ => rfl,
      g_p_placed_word := PySem.W.mg_of X G a15,
      f_p_spelled_word := f16,
      d_p_spelled_word := _,
      F_p_spelled_word := fun_mk (st := s_p_spelled_word) l16 c16 k16,
      b_p_spelled_word := (fun_mk (st := s_p_spelled_word) l16 c16 k16).binds (ps := ["rows", "at"]) fun _ _ _ _ _ _ us hl => match us, hl with | [_, _], _ => rfl,
      g_p_spelled_word := PySem.W.mg_of X G a16,
      f_l_cell := f17,
      d_l_cell := _,
      F_l_cell := fun_mk (st := s_l_cell) l17 c17 k17,
      b_l_cell := (fun_mk (st := s_l_cell) l17 c17 k17).binds (ps := ["_law_script", "_law_at"]) fun _ _ _ _ _ _ us hl => match us, hl with | [_, _], _ => rfl,
      g_l_cell := PySem.W.mg_of X G a17,
      f_l_row := f18,
      d_l_row := _,
      F_l_row := fun_mk (st := s_l_row) l18 c18 k18,
      b_l_row := (fun_mk (st := s_l_row) l18 c18 k18).binds (ps := ["_law_cell_here", "_law_many", "_law_size"]) fun _ _ _ _ _ _ us hl => match us, hl with | [_, _, _], _ => rfl,
      g_l_row := PySem.W.mg_of X G a18,
      f_l_like := f19,
      d_l_like := _,
      F_l_like := fun_mk (st := s_l_like) l19 c19 k19,
      b_l_like := (fun_mk (st := s_l_like) l19 c19 k19).binds (ps := ["_law_found", "_law_due"]) fun _ _ _ _ _ _ us hl => match us, hl with | [_, _], _ => rfl,
      g_l_like := PySem.W.mg_of X G a19,
      f_l_word := f20,
      d_l_word := _,
      F_l_word := fun_mk (st := s_l_word) l20 c20 k20,
      b_l_word := (fun_mk (st := s_l_word) l20 c20 k20).binds (ps := ["_law_cell_here"]) fun _ _ _ _ _ _ us hl => match us, hl with | [_], _ => rfl,
      g_l_word := PySem.W.mg_of X G a20,
      f_l_signs_of := f21,
      d_l_signs_of := _,
      F_l_signs_of := fun_mk (st := s_l_signs_of) l21 c21 k21,
      b_l_signs_of := (fun_mk (st := s_l_signs_of) l21 c21 k21).binds (ps := ["_law_words", "_law_some"]) fun _ _ _ _ _ _ us hl => match us, hl with | [_, _], _ => rfl,
      g_l_signs_of := PySem.W.mg_of X G a21,
      f_l_signs := f22,
      d_l_signs := _,
      F_l_signs := fun_mk (st := s_l_signs) l22 c22 k22,
      b_l_signs := (fun_mk (st := s_l_signs) l22 c22 k22).binds (ps := ["_law_cell_here", "_law_most"]) fun _ _ _ _ _ _ us hl => match us, hl with | [_, _], _ => rfl,
      g_l_signs := PySem.W.mg_of X G a22,
      f_l_book := f23,
      d_l_book := _,
      F_l_book := fun_mk (st := s_l_book) l23 c23 k23,
      b_l_book := (fun_mk (st := s_l_book) l23 c23 k23).binds (ps := ["_law_script", "_law_at"]) fun _ _ _ _ _ _ us hl => match us, hl with | [_, _], _ => rfl,
      g_l_book := PySem.W.mg_of X G a23,
      f_l_some_words := f24,
      d_l_some_words := _,
      F_l_some_words := fun_mk (st := s_l_some_words) l24 c24 k24,
      b_l_some_words := (fun_mk (st := s_l_some_words) l24 c24 k24).binds (ps := ["_law_words", "_law_cell_here", "_law_most"]) fun _ _ _ _ _ _ us hl => match us, hl with | [_, _, _], _ => rfl,
      g_l_some_words := PySem.W.mg_of X G a24,
      f_l_read_word := f25,
      d_l_read_word := _,
      F_l_read_word := fun_mk (st := s_l_read_word) l25 c25 k25,
      b_l_read_word := (fun_mk (st := s_l_read_word) l25 c25 k25).binds (ps := ["_law_kept", "_law_at", "_law_words", "_law_many"]) fun _ _ _ _ _ _ us hl => match us, hl with | [_, _, _, _], _ => rfl,
      g_l_read_word := PySem.W.mg_of X G a25,
      f_l_read := f26,
      d_l_read := _,
      F_l_read := fun_mk (st := s_l_read) l26 c26 k26,
      b_l_read := (fun_mk (st := s_l_read) l26 c26 k26).binds (ps := ["_law_words", "_law_signs_here"]) fun _ _ _ _ _ _ us hl => match us, hl with | [_, _], _ => rfl,
      g_l_read := PySem.W.mg_of X G a26,
      f_l_bent := f27,
      d_l_bent := _,
      F_l_bent := fun_mk (st := s_l_bent) l27 c27 k27,
      b_l_bent := (fun_mk (st := s_l_bent) l27 c27 k27).binds (ps := ["_law_signs_here", "_law_cell_here"]) fun _ _ _ _ _ _ us hl => match us, hl with | [_, _], _ => rfl,
      g_l_bent := PySem.W.mg_of X G a27,
      f_l_told := f28,
      d_l_told := _,
      F_l_told := fun_mk (st := s_l_told) l28 c28 k28,
      b_l_told := (fun_mk (st := s_l_told) l28 c28 k28).binds (ps := ["_law_book_here", "_law_signs_here"]) fun _ _ _ _ _ _ us hl => match us, hl with | [_, _], _ => rfl,
      g_l_told := PySem.W.mg_of X G a28,
      u_LETTERS := _,
      c_LETTERS := PySem.W.mg_of X G q_LETTERS,
      r_LETTERS := ⟨_, rfl⟩,
      u_LAST_PAGE := _,
      c_LAST_PAGE := PySem.W.mg_of X G q_LAST_PAGE,
      r_LAST_PAGE := ⟨_, rfl⟩,
      u_FIRST_LETTER := _,
      c_FIRST_LETTER := PySem.W.mg_of X G q_FIRST_LETTER,
      r_FIRST_LETTER := ⟨_, rfl⟩,
      u_LAST_LETTER := _,
      c_LAST_LETTER := PySem.W.mg_of X G q_LAST_LETTER,
      r_LAST_LETTER := ⟨_, rfl⟩,
      u_END := _,
      c_END := PySem.W.mg_of X G q_END,
      r_END := ⟨_, rfl⟩,
      u_STRIKE := _,
      c_STRIKE := PySem.W.mg_of X G q_STRIKE,
      r_STRIKE := ⟨_, rfl⟩,
      u_LAST_SIGN := _,
      c_LAST_SIGN := PySem.W.mg_of X G q_LAST_SIGN,
      r_LAST_SIGN := ⟨_, rfl⟩,
      u_LONGEST_WORD := _,
      c_LONGEST_WORD := PySem.W.mg_of X G q_LONGEST_WORD,
      r_LONGEST_WORD := ⟨_, rfl⟩,
      u_PAST_THE_END := _,
      c_PAST_THE_END := PySem.W.mg_of X G q_PAST_THE_END,
      r_PAST_THE_END := ⟨_, rfl⟩,
      m_all := PySem.W.mg_none_of X G z_all,
      m_enumerate := PySem.W.mg_none_of X G z_enumerate,
      m_len := PySem.W.mg_none_of X G z_len,
      m_sorted := PySem.W.mg_none_of X G z_sorted,
      m_range := PySem.W.mg_none_of X G z_range,
      m_isinstance := PySem.W.mg_none_of X G z_isinstance,
      m_bool := PySem.W.mg_none_of X G z_bool,
      m_int := PySem.W.mg_none_of X G z_int,
      m_str := PySem.W.mg_none_of X G z_str,
      m_list := PySem.W.mg_none_of X G z_list,
      m_tuple := PySem.W.mg_none_of X G z_tuple,
      m_ValueError := PySem.W.mg_none_of X G z_ValueError,
      oc_get := oc_get,
      oc_tak := oc_tak }
  have hP : h.get? P_tab = some { cls := .none, data := .fields #[] } := own "is_word" (by simp) f6 (PySem.W.mg_of X G a6) c_tab P_tab _ _ _ _ _ _ l6 rfl rfl y_l y_11
  have hc : PySem.W.CodeHd h c_tab P_tab := codeHd_mk X y_l y_11 y_18 y_7 y_9 y_10 y_ne
  have hPS : h.get? P_tabS = some { cls := .none, data := .fields #[] } := own "check_signs" (by simp) f2 (PySem.W.mg_of X G a2) c_tabS P_tabS _ _ _ _ _ _ l2 rfl rfl y_lS y_11S
  have hcS : PySem.W.CodeHd h c_tabS P_tabS := codeHd_mk X y_lS y_11S y_18S y_7S y_9S y_10S y_neS
  refine ⟨PySem.W.fnOf "law" "law" (defArgs s_law) (defBody s_law) (defScope s_law) .none kV29 dc29 pm29 an29 cd29 ct29, [(c_tab, P_tab), (c_tabS, P_tabS)], sp_law K P_tab P_tabS, ?_, ?_, ?_, fun s v => .of_eq rfl, fun H a ns hl _ hT hS => ⟨a, ns, rfl, hS, hl, ⟨#[], hT (c_tab, P_tab) (by simp), trivial⟩, ⟨#[], hT (c_tabS, P_tabS) (by simp), trivial⟩, fun _ => rfl⟩, fun base _ _ TB => ok_law T (let tb := TB (c_tab, P_tab) (by simp); ⟨tb.code, tb.bm, tb.gP⟩) (let tb := TB (c_tabS, P_tabS) (by simp); ⟨tb.code, tb.bm, tb.gP⟩) (fun_mk (st := s_law) l29 c29 k29)⟩
  all_goals (intro p hp; simp only [List.mem_cons, List.not_mem_nil, or_false] at hp)
  · rcases hp with rfl | rfl
    · exact hP
    · exact hPS
  · rcases hp with rfl | rfl
    · exact y_P
    · exact y_PS
  · rcases hp with rfl | rfl
    · exact hc
    · exact hcS
end Mw
open PySem PySem.W PyProof.Rows
set_option maxRecDepth 100000 in
set_option maxHeartbeats 0 in
theorem PySem.Challenge.cw_mastword_k07_signs_read_holds : PySem.Challenge.rw_mastword_k07_signs_read.Holds := by
  w_on; o_law; k_head; (case hw => w_witness2)
  k_fill
  refine Mw.walk_tab (l := PySem.Challenge.rw_mastword_k07_signs_read) (n := 63) (k := 13) (x := "_law_script") (CX := fun _ => L2.CX0) ["is_word", "check_signs"] rfl (by decide) rfl ⟨rfl, by decide, by decide⟩ (by decide +kernel) (fun w h Y => PySem.W.kIn_of Y) ?F (fun _ _ _ _ _ h => h)
  case F =>
    intro w mg fa h KX G hmg own
    refine' Mw.all_mk KX G hmg own ?e_MastError ?x_MastError ?k_MastError ?b_MastError ?t_MastError ?i_MastError ?h_MastError ?ga_MastError ?gg_MastError ?cl_MastError ?mo_MastError ?v_MastError ?e_BadSign ?x_BadSign ?k_BadSign ?b_BadSign ?t_BadSign ?i_BadSign ?h_BadSign ?ga_BadSign ?gg_BadSign ?cl_BadSign ?mo_BadSign ?v_BadSign ?e_BadPlace ?x_BadPlace ?k_BadPlace ?b_BadPlace ?t_BadPlace ?i_BadPlace ?h_BadPlace ?ga_BadPlace ?gg_BadPlace ?cl_BadPlace ?mo_BadPlace ?v_BadPlace ?e_BadWord ?x_BadWord ?k_BadWord ?b_BadWord ?t_BadWord ?i_BadWord ?h_BadWord ?ga_BadWord ?gg_BadWord ?cl_BadWord ?mo_BadWord ?v_BadWord ?e_Taken ?x_Taken ?k_Taken ?b_Taken ?t_Taken ?i_Taken ?h_Taken ?ga_Taken ?gg_Taken ?cl_Taken ?mo_Taken ?v_Taken ?e_Known ?x_Known ?k_Known ?b_Known ?t_Known ?i_Known ?h_Known ?ga_Known ?gg_Known ?cl_Known ?mo_Known ?v_Known ?e_NoWord ?x_NoWord ?k_NoWord ?b_NoWord ?t_NoWord ?i_NoWord ?h_NoWord ?ga_NoWord ?gg_NoWord ?cl_NoWord ?mo_NoWord ?v_NoWord ?e_BadSigns ?k_BadSigns ?b_BadSigns ?t_BadSigns ?i_BadSigns ?h_BadSigns ?ga_BadSigns ?gg_BadSigns ?cl_BadSigns ?mo_BadSigns ?v_BadSigns ?xl_BadSigns ?sa_BadSigns ?ia_BadSigns ?it_BadSigns ?il_BadSigns ?ik_BadSigns ?ikp_BadSigns ?nf_BadSigns_at ?s_MastError_MastError ?s_BadSign_MastError ?s_BadPlace_MastError ?s_BadWord_MastError ?s_Taken_MastError ?s_Known_MastError ?s_NoWord_MastError ?s_BadSigns_MastError ?s_BadSigns_BadSigns ?e_Phrasebook ?pg_Phrasebook ?hd_Phrasebook ?po_Phrasebook ?sa_Phrasebook ?mk_Phrasebook ?kc_Phrasebook ?n_Phrasebook_word_by_place ?n_Phrasebook_place_by_word ?a1 ?l1 ?c1 ?k1 ?a2 ?l2 ?c2 ?y_lS ?y_11S ?y_18S ?y_7S ?y_9S ?y_10S ?y_neS ?y_PS ?k2 ?a3 ?l3 ?c3 ?k3 ?a4 ?l4 ?c4 ?k4 ?a5 ?l5 ?c5 ?k5 ?a6 ?l6 ?c6 ?y_l ?y_11 ?y_18 ?y_7 ?y_9 ?y_10 ?y_ne ?y_P ?k6 ?a7 ?l7 ?c7 ?k7 ?a8 ?l8 ?c8 ?k8 ?a9 ?i9 ?l9 ?c9 ?k9 ?a10 ?i10 ?l10 ?c10 ?k10 ?a11 ?i11 ?l11 ?c11 ?k11 ?a12 ?i12 ?l12 ?c12 ?k12 ?a13 ?l13 ?c13 ?k13 ?a14 ?l14 ?c14 ?k14 ?a15 ?l15 ?c15 ?k15 ?a16 ?l16 ?c16 ?k16 ?a17 ?l17 ?c17 ?k17 ?a18 ?l18 ?c18 ?k18 ?a19 ?l19 ?c19 ?k19 ?a20 ?l20 ?c20 ?k20 ?a21 ?l21 ?c21 ?k21 ?a22 ?l22 ?c22 ?k22 ?a23 ?l23 ?c23 ?k23 ?a24 ?l24 ?c24 ?k24 ?a25 ?l25 ?c25 ?k25 ?a26 ?l26 ?c26 ?k26 ?a27 ?l27 ?c27 ?k27 ?a28 ?l28 ?c28 ?k28 ?a29 ?l29 ?c29 ?k29 ?q_LETTERS ?q_LAST_PAGE ?q_FIRST_LETTER ?q_LAST_LETTER ?q_END ?q_STRIKE ?q_LAST_SIGN ?q_LONGEST_WORD ?q_PAST_THE_END ?z_all ?z_enumerate ?z_len ?z_sorted ?z_range ?z_isinstance ?z_bool ?z_int ?z_str ?z_list ?z_tuple ?z_ValueError ?oc_get ?oc_tak
    (case e_MastError => k_is)
    (case x_MastError => k_exc)
    (case k_MastError => k_is)
    (case b_MastError => k_is)
    (case t_MastError => k_is)
    (case i_MastError => k_is)
    (case h_MastError => k_is)
    (case ga_MastError => k_is)
    (case gg_MastError => k_is)
    (case cl_MastError => k_is)
    (case mo_MastError => k_is)
    (case v_MastError => k_is)
    (case e_BadSign => k_is)
    (case x_BadSign => k_exc)
    (case k_BadSign => k_is)
    (case b_BadSign => k_is)
    (case t_BadSign => k_is)
    (case i_BadSign => k_is)
    (case h_BadSign => k_is)
    (case ga_BadSign => k_is)
    (case gg_BadSign => k_is)
    (case cl_BadSign => k_is)
    (case mo_BadSign => k_is)
    (case v_BadSign => k_is)
    (case e_BadPlace => k_is)
    (case x_BadPlace => k_exc)
    (case k_BadPlace => k_is)
    (case b_BadPlace => k_is)
    (case t_BadPlace => k_is)
    (case i_BadPlace => k_is)
    (case h_BadPlace => k_is)
    (case ga_BadPlace => k_is)
    (case gg_BadPlace => k_is)
    (case cl_BadPlace => k_is)
    (case mo_BadPlace => k_is)
    (case v_BadPlace => k_is)
    (case e_BadWord => k_is)
    (case x_BadWord => k_exc)
    (case k_BadWord => k_is)
    (case b_BadWord => k_is)
    (case t_BadWord => k_is)
    (case i_BadWord => k_is)
    (case h_BadWord => k_is)
    (case ga_BadWord => k_is)
    (case gg_BadWord => k_is)
    (case cl_BadWord => k_is)
    (case mo_BadWord => k_is)
    (case v_BadWord => k_is)
    (case e_Taken => k_is)
    (case x_Taken => k_exc)
    (case k_Taken => k_is)
    (case b_Taken => k_is)
    (case t_Taken => k_is)
    (case i_Taken => k_is)
    (case h_Taken => k_is)
    (case ga_Taken => k_is)
    (case gg_Taken => k_is)
    (case cl_Taken => k_is)
    (case mo_Taken => k_is)
    (case v_Taken => k_is)
    (case e_Known => k_is)
    (case x_Known => k_exc)
    (case k_Known => k_is)
    (case b_Known => k_is)
    (case t_Known => k_is)
    (case i_Known => k_is)
    (case h_Known => k_is)
    (case ga_Known => k_is)
    (case gg_Known => k_is)
    (case cl_Known => k_is)
    (case mo_Known => k_is)
    (case v_Known => k_is)
    (case e_NoWord => k_is)
    (case x_NoWord => k_exc)
    (case k_NoWord => k_is)
    (case b_NoWord => k_is)
    (case t_NoWord => k_is)
    (case i_NoWord => k_is)
    (case h_NoWord => k_is)
    (case ga_NoWord => k_is)
    (case gg_NoWord => k_is)
    (case cl_NoWord => k_is)
    (case mo_NoWord => k_is)
    (case v_NoWord => k_is)
    (case e_BadSigns => k_is)
    (case k_BadSigns => k_is)
    (case b_BadSigns => k_is)
    (case t_BadSigns => k_is)
    (case i_BadSigns => k_is)
    (case h_BadSigns => k_is)
    (case ga_BadSigns => k_is)
    (case gg_BadSigns => k_is)
    (case cl_BadSigns => k_is)
    (case mo_BadSigns => k_is)
    (case v_BadSigns => k_is)
    (case xl_BadSigns => k_is)
    (case sa_BadSigns => k_is)
    (case ia_BadSigns => k_is)
    (case it_BadSigns => k_is)
    (case il_BadSigns => k_is)
    (case ik_BadSigns => k_is)
    (case ikp_BadSigns => k_is)
    (case nf_BadSigns_at => k_is)
    (case s_MastError_MastError => (first | rfl | k_is))
    (case s_BadSign_MastError => (first | rfl | k_is))
    (case s_BadPlace_MastError => (first | rfl | k_is))
    (case s_BadWord_MastError => (first | rfl | k_is))
    (case s_Taken_MastError => (first | rfl | k_is))
    (case s_Known_MastError => (first | rfl | k_is))
    (case s_NoWord_MastError => (first | rfl | k_is))
    (case s_BadSigns_MastError => (first | rfl | k_is))
    (case s_BadSigns_BadSigns => (first | rfl | k_is))
    (case e_Phrasebook => k_is)
    (case pg_Phrasebook => k_is)
    (case hd_Phrasebook => k_is)
    (case po_Phrasebook => k_is)
    (case sa_Phrasebook => k_is)
    (case mk_Phrasebook => k_is)
    (case kc_Phrasebook => k_is)
    (case n_Phrasebook_word_by_place => k_is)
    (case n_Phrasebook_place_by_word => k_is)
    (case a1 => k_is)
    (case l1 => k_is)
    (case c1 => k_is)
    (case k1 => k_is)
    (case a2 => k_is)
    (case l2 => k_is)
    (case c2 => k_is)
    (case y_lS => k_is)
    (case y_11S => rfl)
    (case y_18S => rfl)
    (case y_7S => rfl)
    (case y_9S => rfl)
    (case y_10S => rfl)
    (case y_neS => (intro z; cases z))
    (case y_PS => rfl)
    (case k2 => k_is)
    (case a3 => k_is)
    (case l3 => k_is)
    (case c3 => k_is)
    (case k3 => k_is)
    (case a4 => k_is)
    (case l4 => k_is)
    (case c4 => k_is)
    (case k4 => k_is)
    (case a5 => k_is)
    (case l5 => k_is)
    (case c5 => k_is)
    (case k5 => k_is)
    (case a6 => k_is)
    (case l6 => k_is)
    (case c6 => k_is)
    (case y_l => k_is)
    (case y_11 => rfl)
    (case y_18 => rfl)
    (case y_7 => rfl)
    (case y_9 => rfl)
    (case y_10 => rfl)
    (case y_ne => (intro z; cases z))
    (case y_P => rfl)
    (case k6 => k_is)
    (case a7 => k_is)
    (case l7 => k_is)
    (case c7 => k_is)
    (case k7 => k_is)
    (case a8 => k_is)
    (case l8 => k_is)
    (case c8 => k_is)
    (case k8 => k_is)
    (case a9 => k_is)
    (case i9 => k_is)
    (case l9 => k_is)
    (case c9 => k_is)
    (case k9 => k_is)
    (case a10 => k_is)
    (case i10 => k_is)
    (case l10 => k_is)
    (case c10 => k_is)
    (case k10 => k_is)
    (case a11 => k_is)
    (case i11 => k_is)
    (case l11 => k_is)
    (case c11 => k_is)
    (case k11 => k_is)
    (case a12 => k_is)
    (case i12 => k_is)
    (case l12 => k_is)
    (case c12 => k_is)
    (case k12 => k_is)
    (case a13 => k_is)
    (case l13 => k_is)
    (case c13 => k_is)
    (case k13 => k_is)
    (case a14 => k_is)
    (case l14 => k_is)
    (case c14 => k_is)
    (case k14 => k_is)
    (case a15 => k_is)
    (case l15 => k_is)
    (case c15 => k_is)
    (case k15 => k_is)
    (case a16 => k_is)
    (case l16 => k_is)
    (case c16 => k_is)
    (case k16 => k_is)
    (case a17 => k_is)
    (case l17 => k_is)
    (case c17 => k_is)
    (case k17 => k_is)
    (case a18 => k_is)
    (case l18 => k_is)
    (case c18 => k_is)
    (case k18 => k_is)
    (case a19 => k_is)
    (case l19 => k_is)
    (case c19 => k_is)
    (case k19 => k_is)
    (case a20 => k_is)
    (case l20 => k_is)
    (case c20 => k_is)
    (case k20 => k_is)
    (case a21 => k_is)
    (case l21 => k_is)
    (case c21 => k_is)
    (case k21 => k_is)
    (case a22 => k_is)
    (case l22 => k_is)
    (case c22 => k_is)
    (case k22 => k_is)
    (case a23 => k_is)
    (case l23 => k_is)
    (case c23 => k_is)
    (case k23 => k_is)
    (case a24 => k_is)
    (case l24 => k_is)
    (case c24 => k_is)
    (case k24 => k_is)
    (case a25 => k_is)
    (case l25 => k_is)
    (case c25 => k_is)
    (case k25 => k_is)
    (case a26 => k_is)
    (case l26 => k_is)
    (case c26 => k_is)
    (case k26 => k_is)
    (case a27 => k_is)
    (case l27 => k_is)
    (case c27 => k_is)
    (case k27 => k_is)
    (case a28 => k_is)
    (case l28 => k_is)
    (case c28 => k_is)
    (case k28 => k_is)
    (case a29 => k_is)
    (case l29 => k_is)
    (case c29 => k_is)
    (case k29 => k_is)
    (case q_LETTERS => k_is)
    (case q_LAST_PAGE => k_is)
    (case q_FIRST_LETTER => k_is)
    (case q_LAST_LETTER => k_is)
    (case q_END => k_is)
    (case q_STRIKE => k_is)
    (case q_LAST_SIGN => k_is)
    (case q_LONGEST_WORD => k_is)
    (case q_PAST_THE_END => k_is)
    (case z_all => k_is)
    (case z_enumerate => k_is)
    (case z_len => k_is)
    (case z_sorted => k_is)
    (case z_range => k_is)
    (case z_isinstance => k_is)
    (case z_bool => k_is)
    (case z_int => k_is)
    (case z_str => k_is)
    (case z_list => k_is)
    (case z_tuple => k_is)
    (case z_ValueError => k_is)
    (case oc_get => k_is)
    (case oc_tak => k_is)
