import PyProof.Rows.All
import Wide.All
import OpenK.AllK
import Wide.FinOn
import HandS.ForMost
import HandS.ForExc
import HandS.AnyAll
import HandS.EndTab
import HandS.ExcIs
import HandS.ExcField
import HandS.ExcInit
import HandS.IsInst
import HandS.Conv
import HandS.Replace
import HandS.Flow
import HandS.Walk
import HandS.Evl
import KE.KExcIs
import HandS.EndOwn
import HandS.CallRecv
import HandS.SetFor
import HandS.Deep
import HandS.More
import HandS.HotCalls
import KE.DataMinMax
import HandS.SortInts
import HandS.Defaults
import HandS.HeadEnd
import HandS.HeadHook1
import HandS.HeadHook2
import HandS.Head0
import HandS.Head1
import HandS.Head2
import KE.KStateDown
import PySem.Challenge.RW_mastword_k25_sleep_and_fog
set_option Elab.async false
set_option linter.all false
set_option maxRecDepth 100000
set_option maxHeartbeats 2000000
namespace Mw
open PySem PySem.Spec PyProof.Rows L2
/-! ### what is kept: every tracked thing but the tables of code objects, which stay tables -/
def isT : HO → Bool
  | .tbl _ => true
  | _ => false
structure Kp (H H' : Hp) : Prop where
  same : ∀ a o, isT o = false → H a = some o → H' a = some o
  tab : ∀ a, GxR.TabG H a → GxR.TabG H' a
  free : ∀ a, H' a = none → H a = none
theorem Kp.refl (H : Hp) : Kp H H := ⟨fun _ _ _ h => h, fun _ h => h, fun _ h => h⟩
theorem Kp.trans {H H1 H2 : Hp} (a : Kp H H1) (b : Kp H1 H2) : Kp H H2 :=
  ⟨fun x o t h => b.same x o t (a.same x o t h), fun x h => b.tab x (a.tab x h), fun x h => a.free x (b.free x h)⟩
theorem Kp.mut {H H' : Hp} {p : Addr} {o : HO} (e : Kp H H') (h : H p = none) : Kp H (upd H' p o) := by
  refine ⟨fun a u t ha => ?_, fun a ⟨ps, ha, ht⟩ => ?_, fun a ha => ?_⟩
  · rw [upd_ne (ne_of_none ha h)]
    exact e.same a u t ha
  · obtain ⟨ps', h1, h2⟩ := e.tab a ⟨ps, ha, ht⟩
    exact ⟨ps', by rw [upd_ne (ne_of_none ha h)]; exact h1, h2⟩
  · by_cases q : a = p
    · rw [q]
      exact h
    · rw [upd_ne q] at ha
      exact e.free a ha
theorem Kp.new {H : Hp} {p : Addr} {o : HO} (h : H p = none) : Kp H (upd H p o) := (Kp.refl H).mut h
theorem Kp.rd {H H' : Hp} {a : Addr} {u : HO} (e : Kp H H') (t : isT u = false) (h : Rd H a u) : Rd H' a u := by
  rcases h with h | ⟨o, h⟩
  · exact Or.inl (e.same a _ t h)
  · exact Or.inr ⟨o, e.same a _ rfl h⟩
theorem Kp.sqL {K : PySem.W.Frag} {H H' : Hp} {a : Addr} {xs : List V} (e : Kp H H') (h : SqL K H a xs) : SqL K H' a xs := by
  rcases h with h | h
  · exact Or.inl (e.rd rfl h)
  · exact Or.inr h
theorem Kp.sqT {K : PySem.W.Frag} {H H' : Hp} {a : Addr} {xs : List V} (e : Kp H H') (h : SqT K H a xs) : SqT K H' a xs := by
  rcases h with h | h
  · exact Or.inl (e.rd rfl h)
  · exact Or.inr h
mutual
theorem Kp.dp {K : PySem.W.Frag} {H H' : Hp} (e : Kp H H') : ∀ {d : PyData} {v : V}, Dp K H v d → Dp K H' v d
  | _, _, .non => .non
  | _, _, .bl b => .bl b
  | _, _, .int i => .int i
  | _, _, .str x => .str x
  | _, _, .lst h a => .lst (e.sqL h) (Kp.dpAll e a)
  | _, _, .tup h a => .tup (e.sqT h) (Kp.dpAll e a)
theorem Kp.dpAll {K : PySem.W.Frag} {H H' : Hp} (e : Kp H H') : ∀ {ds : List PyData} {vs : List V}, DpAll K H vs ds → DpAll K H' vs ds
  | _, _, .nil => .nil
  | _, _, .cons h t => .cons (Kp.dp e h) (Kp.dpAll e t)
end
theorem DpAll.len {K : PySem.W.Frag} {H : Hp} : ∀ {vs : List V} {ds : List PyData}, DpAll K H vs ds → vs.length = ds.length
  | _, _, .nil => rfl
  | _, _, .cons _ t => congrArg (· + 1) (DpAll.len t)
theorem DpAll.get {K : PySem.W.Frag} {H : Hp} : ∀ {vs : List V} {ds : List PyData} {i : Nat} {d : PyData}, DpAll K H vs ds → ds[i]? = some d → ∃ v, vs[i]? = some v ∧ Dp K H v d
  | _, _, i, d, .nil, h => by simp at h
  | _, _, 0, d, .cons a _, h => by
    have e := Option.some.inj h
    subst e
    exact ⟨_, rfl, a⟩
  | _, _, i + 1, d, .cons _ t, h => DpAll.get (i := i) t h
theorem DpAll.app {K : PySem.W.Frag} {H : Hp} : ∀ {vs ws : List V} {ds es : List PyData}, DpAll K H vs ds → DpAll K H ws es → DpAll K H (vs ++ ws) (ds ++ es)
  | _, _, _, _, .nil, b => b
  | _, _, _, _, .cons a t, b => .cons a (DpAll.app t b)
/-- data without lists -/
inductive Nl : PyData → Prop
  | non : Nl .none
  | bl (b : Bool) : Nl (.bool b)
  | int (i : Int) : Nl (.int i)
  | str (x : Str) : Nl (.str x)
  | tup {ds : List PyData} : (∀ d ∈ ds, Nl d) → Nl (.tuple ds)
/-! a list may change: what has no list in it stays -/
mutual
theorem Dp.mut {K : PySem.W.Frag} {H : Hp} {p : Addr} {o : HO} {zs : List V} (hp : H p = some (.lst zs)) : ∀ {d : PyData} {v : V}, Nl d → Dp K H v d → Dp K (upd H p o) v d
  | _, _, _, .non => .non
  | _, _, _, .bl b => .bl b
  | _, _, _, .int i => .int i
  | _, _, _, .str x => .str x
  | _, _, n, .lst _ _ => nomatch n
  | _, _, n, .tup h a => by
    cases n with
    | tup n =>
      refine .tup ?_ (DpAll.mut hp n a)
      rcases h with (h | ⟨ob, h⟩) | h
      · exact .inl (.inl (by rw [upd_ne (ne_of h hp (by intro z; cases z))]; exact h))
      · exact .inl (.inr ⟨ob, by rw [upd_ne (ne_of h hp (by intro z; cases z))]; exact h⟩)
      · exact .inr h
theorem DpAll.mut {K : PySem.W.Frag} {H : Hp} {p : Addr} {o : HO} {zs : List V} (hp : H p = some (.lst zs)) : ∀ {ds : List PyData} {vs : List V}, (∀ d ∈ ds, Nl d) → DpAll K H vs ds → DpAll K (upd H p o) vs ds
  | _, _, _, .nil => .nil
  | _, _, n, .cons h t => .cons (Dp.mut hp (n _ List.mem_cons_self) h) (DpAll.mut hp (fun d hd => n d (List.mem_cons_of_mem _ hd)) t)
end
theorem DpAll.snoc {K : PySem.W.Frag} {H : Hp} {vs : List V} {ds : List PyData} {v : V} {d : PyData} (a : DpAll K H vs ds) (h : Dp K H v d) : DpAll K H (vs ++ [v]) (ds ++ [d]) := DpAll.app a (.cons h .nil)
theorem DpAll.dropLast {K : PySem.W.Frag} {H : Hp} : ∀ {vs : List V} {ds : List PyData}, DpAll K H vs ds → DpAll K H vs.dropLast ds.dropLast
  | _, _, .nil => .nil
  | _, _, .cons _ .nil => .nil
  | _, _, .cons h (.cons h2 t) => .cons h (DpAll.dropLast (.cons h2 t))
theorem dp_ints {K : PySem.W.Frag} {H : Hp} : ∀ ns : List Int, DpAll K H (ns.map V.int) (ns.map PyData.int)
  | [] => .nil
  | n :: r => .cons (.int n) (dp_ints r)
theorem dp_strs {K : PySem.W.Frag} {H : Hp} : ∀ ns : List Str, DpAll K H (ns.map V.str) (ns.map PyData.str)
  | [] => .nil
  | n :: r => .cons (.str n) (dp_strs r)
/-- a list of ints, a list of texts as data -/
def dI (ns : List Int) : PyData := .list (ns.map PyData.int)
def dS (ns : List Str) : PyData := .list (ns.map PyData.str)
theorem dp_dI {K : PySem.W.Frag} {H : Hp} {a : Addr} {ns : List Int} (h : SqL K H a (ns.map V.int)) : Dp K H (.ref a) (dI ns) := .lst h (dp_ints ns)
theorem dpAll_ints {K : PySem.W.Frag} {H : Hp} : ∀ {ns : List Int} {vs : List V}, DpAll K H vs (ns.map PyData.int) → vs = ns.map V.int
  | [], _, .nil => rfl
  | n :: r, _, .cons h t => by
    cases h
    rw [dpAll_ints t]
    rfl
theorem dp_of_dI {K : PySem.W.Frag} {H : Hp} {v : V} {ns : List Int} (h : Dp K H v (dI ns)) : ∃ a, v = .ref a ∧ SqL K H a (ns.map V.int) := by
  cases h with
  | lst h t =>
    rw [dpAll_ints t] at h
    exact ⟨_, rfl, h⟩
/-! ### small words -/
theorem at_int {ns : List Int} {j : Nat} (h : j < ns.length) : atI (ns.map V.int) (j : Int) = some (.int ns[j]) := atI_nat (by rw [List.getElem?_map, List.getElem?_eq_getElem h]; rfl)
theorem at_intZ {ns : List Int} {z : Int} (h0 : 0 ≤ z) (h : z.toNat < ns.length) : atI (ns.map V.int) z = some (.int ns[z.toNat]) := by
  have e := at_int h
  rw [Int.toNat_of_nonneg h0] at e
  exact e
theorem szl {n : Nat} (h : n ≤ 100000) : n ≤ sizeLine := Nat.le_trans h (by decide)
theorem szt {n : Nat} (h : n < 100000) : n < sizeLine := Nat.lt_of_lt_of_le h (by decide)
theorem iteB {b : Bool} {A B : Prop} (h1 : b = true → A) (h2 : b = false → B) : if b = true then A else B := by
  cases b with
  | true => rw [if_pos rfl]; exact h1 rfl
  | false => rw [if_neg Bool.false_ne_true]; exact h2 rfl
theorem iteD {c : Prop} [Decidable c] {A B : Prop} (h1 : c → A) (h2 : ¬ c → B) : if decide c = true then A else B :=
  iteB (fun h => h1 (of_decide_eq_true h)) (fun h => h2 (of_decide_eq_false h))
theorem iteN {c : Prop} [Decidable c] {A B : Prop} (h1 : ¬ c → A) (h2 : c → B) : if (!decide c) = true then A else B :=
  iteB (fun h => h1 (fun z => by rw [decide_eq_true z] at h; cases h)) (fun h => h2 (by
    by_cases z : c
    · exact z
    · rw [decide_eq_false z] at h; cases h))
theorem iteTo {b : Bool} {A B : Prop} (e : b = true) (h : A) : if b = true then A else B := by rw [if_pos e]; exact h
theorem iteFo {b : Bool} {A B : Prop} (e : b = false) (h : B) : if b = true then A else B := by rw [e, if_neg Bool.false_ne_true]; exact h
/-! ### rules with the written part by its own name (inside a comprehension) -/
section
variable {X : Cx} (K : PySem.W.Frag)
theorem ix_listK (h : X.K = K) : IxR X (rIxL K) := h ▸ ix_list
theorem ix_tupK (h : X.K = K) : IxR X (rIxT K) := h ▸ ix_tup
theorem ix_seqK (h : X.K = K) : IxR X (rIx K) := h ▸ ix_seq
def rLenSq : List V → Hp → VK → Prop := fun xs H Q => ∃ p ys, xs = [.ref p] ∧ (SqL K H p ys ∨ SqT K H p ys) ∧ Q (.int ys.length) H
theorem call_lenSK (h : X.K = K) : CallR X (.builtin "len") (rLenSq K) := h ▸ call_len_seq
def rLenV : List V → Hp → VK → Prop := fun xs H Q => ∃ x n, xs = [x] ∧ LenV K x H n ∧ Q (.int n) H
theorem call_lenK (h : X.K = K) : CallR X (.builtin "len") (rLenV K) := h ▸ call_len
theorem op_inK (h : X.K = K) : OpR X (compareOp .In) (rIn K false) := h ▸ op_in_seq
theorem op_notInK (h : X.K = K) : OpR X (compareOp .NotIn) (rIn K true) := h ▸ op_notIn_seq
theorem op_eqDK (h : X.K = K) (hu : X.A.units + 64 < cLine) : OpR X (compareOp .Eq) (rEqD K) := h ▸ op_eqD hu
theorem op_neDK (h : X.K = K) (hu : X.A.units + 64 < cLine) : OpR X (compareOp .NotEq) (rNeD K) := h ▸ op_neD hu
theorem call_isiKK (h : X.K = K) : CallR X (.builtin "isinstance") (rIsi K) := h ▸ call_isi
end
section
variable {X : Cx} (K : PySem.W.Frag)
theorem pgK {e : Expr} {n : Nat} {t : TGs} (h : X.K = K) (p : PG X e (gTup X.K n t)) : PG X e (gTup K n t) := h ▸ p
/-- isinstance(e, C), e what the suite has caught (without or with a dict of its own) -/
def rIsX (cls : Value) (d : Option Addr) (a : Addr) : List V → Hp → VK → Prop := fun xs H Q => ∃ (D : Addr) (c : V) (cv : Value) (b : Bool), cls = .ref D ∧ (d = none ∨ ∃ dd fs, d = some dd ∧ H dd = some (.xd fs)) ∧ ExcC K D ∧ xs = [.ref a, c] ∧ ClsV c cv ∧ PySem.W.kitOne K (.ref D) cv = some b ∧ Q (.bl b) H
theorem call_isX {a : Addr} {oe : Obj} {pn : List (Addr × Obj)} {cls : Value} {d : Option Addr} (h : X.K = K) (hz : Zc cls d oe) (hf : ∃ vs, oe.data = .fields vs) : CallR (X.suite a ((a, oe) :: pn)) (.builtin "isinstance") (rIsX K cls d a) := by
  subst h
  intro pins s σ H xs us Q I r h'
  obtain ⟨D, c, cv, b, rfl, hd, C, rfl, hc, hk, q⟩ := h'
  cases r with | cons rx rr =>
  cases rr with | cons rt rr =>
  cases rr
  cases rx
  have ec := hc.eq rt
  subst ec
  obtain ⟨hget, _⟩ := I.pin (a, oe) (List.mem_append_left _ List.mem_cons_self)
  obtain ⟨vs, hv⟩ := hf
  have hcl : (PySem.W.clsIn X.K D).isSome = true := by
    obtain ⟨cd, hc, _⟩ := PySem.W.any_some C.hd
    rw [hc]
    first | rfl | done
  have nc : PySem.W.notCls oe = true := by
    unfold PySem.W.notCls
    rw [hv]
  rcases hd with rfl | ⟨dd, fs, rfl, hdd⟩
  · have J : PySem.W.InstAt s.heap a oe D none := ⟨hget, hz.1, nc, by rw [hz.2]; trivial⟩
    exact PySem.W.kia_one (PySem.W.kitx_exc hcl C.hg C.hk C.hs C.ha C.hn C.ht C.hm) I.kIn J hk (fun z => nomatch z) fun tk => ⟨.bl b, H, I.kept (t' := tk) fun _ _ z => z, rfl, q⟩
  · obtain ⟨mA, hns, hr⟩ := I.hok dd _ hdd
    obtain ⟨od, ho, hl⟩ := lookIn_ns hns
    have J : PySem.W.InstAt s.heap a oe D (some od) := ⟨hget, hz.1, nc, by rw [hz.2]; exact ho⟩
    exact PySem.W.kia_one (PySem.W.kitx_exc hcl C.hg C.hk C.hs C.ha C.hn C.ht C.hm) I.kIn J hk (fun z => nomatch z) fun tk => ⟨.bl b, H, I.kept (t' := tk) fun _ _ z => z, rfl, q⟩
end
/-! ### isinstance of an own error, by what the written part says of its class -/
theorem kit_sub {K : PySem.W.Frag} {t : Value} {C : Addr} (ic : PySem.W.isClsIn K C = true) (tC : PySem.W.typeIn K (.ref C) = some (.type "type")) (h : PySem.W.subIn K t (.ref C) = some true) : PySem.W.kitOne K t (.ref C) = some true := by
  unfold PySem.W.kitOne
  by_cases e : (t == .ref C) = true
  · rw [if_pos e]
  · rw [if_neg e]
    have h2 : ((PySem.W.clsIn K C).isSome && PySem.W.typeIn K (.ref C) == some (.type "type")) = true := by
      have q : (PySem.W.clsIn K C).isSome = true := ic
      rw [q, tC]
      rfl
    show (if ((PySem.W.clsIn K C).isSome && PySem.W.typeIn K (.ref C) == some (.type "type")) = true then PySem.W.subIn K t (.ref C) else none) = some true
    rw [if_pos h2]
    exact h
theorem kit_not {K : PySem.W.Frag} {t : Value} {C : Addr} (ic : PySem.W.isClsIn K C = true) (tC : PySem.W.typeIn K (.ref C) = some (.type "type")) (h : PySem.W.subIn K t (.ref C) = some false) (hs : PySem.W.subIn K t t = some true) : PySem.W.kitOne K t (.ref C) = some false := by
  unfold PySem.W.kitOne
  have e : ¬ (t == .ref C) = true := fun e => by
    have z : t = .ref C := by simpa using e
    rw [z] at h hs
    rw [h] at hs
    cases hs
  rw [if_neg e]
  have h2 : ((PySem.W.clsIn K C).isSome && PySem.W.typeIn K (.ref C) == some (.type "type")) = true := by
    have q : (PySem.W.clsIn K C).isSome = true := ic
    rw [q, tC]
    rfl
  show (if ((PySem.W.clsIn K C).isSome && PySem.W.typeIn K (.ref C) == some (.type "type")) = true then PySem.W.subIn K t (.ref C) else none) = some false
  rw [if_pos h2]
  exact h
theorem meta_ve : PySem.W.kitMeta "ValueError" = true := by decide +kernel
theorem kit_ve {K : PySem.W.Frag} {C : Addr} (h : PySem.W.subIn K (.ref C) (.type "ValueError") = some true) : PySem.W.kitOne K (.ref C) (.type "ValueError") = some true := by
  unfold PySem.W.kitOne
  rw [if_neg (by intro z; cases z)]
  show (if PySem.W.kitMeta "ValueError" = true then PySem.W.subIn K (.ref C) (.type "ValueError") else none) = some true
  rw [if_pos meta_ve]
  exact h
theorem at_mod (z : Str) {m : Int} {n : Nat} (hn : 0 < n) (hl : z.cps.toList.length = n) : ∃ c, atI z.cps.toList (m % (n : Int)) = some c := by
  have h0 : 0 ≤ m % (n : Int) := Int.emod_nonneg _ (by omega)
  have h1 : m % (n : Int) < (n : Int) := Int.emod_lt_of_pos _ (by omega)
  have hj : (m % (n : Int)).toNat < z.cps.toList.length := by omega
  refine ⟨z.cps.toList[(m % (n : Int)).toNat], ?_⟩
  have e := atI_nat (List.getElem?_eq_getElem hj)
  rw [Int.toNat_of_nonneg h0] at e
  exact e
theorem cutV_map {lo hi : Option Int} {ns : List Int} : ∃ ms : List Int, cutV (ns.map V.int) lo hi = ms.map V.int ∧ (∀ m ∈ ms, m ∈ ns) ∧ ms.length ≤ ns.length := by
  unfold cutV
  rw [List.length_map]
  refine ⟨(ns.drop _).take _, by rw [List.map_take, List.map_drop], fun m h => List.mem_of_mem_drop (List.mem_of_mem_take h), ?_⟩
  rw [List.length_take, List.length_drop]
  omega
theorem mem_ints {ns : List Int} {i : Nat} {x : V} (h : (ns.map V.int)[i]? = some x) : ∃ z, z ∈ ns ∧ x = .int z ∧ ns[i]? = some z := by
  rw [List.getElem?_map] at h
  cases e : ns[i]? with
  | none =>
    rw [e] at h
    cases h
  | some z =>
    rw [e] at h
    exact ⟨z, List.mem_of_getElem? e, (Option.some.inj h).symm, rfl⟩
theorem mem_strs {ns : List Str} {i : Nat} {x : V} (h : (ns.map V.str)[i]? = some x) : ∃ z, z ∈ ns ∧ x = .str z ∧ ns[i]? = some z := by
  rw [List.getElem?_map] at h
  cases e : ns[i]? with
  | none =>
    rw [e] at h
    cases h
  | some z =>
    rw [e] at h
    exact ⟨z, List.mem_of_getElem? e, (Option.some.inj h).symm, rfl⟩
theorem take_snoc {α : Type} {l : List α} {i : Nat} {z : α} (h : l[i]? = some z) : l.take (i + 1) = l.take i ++ [z] := by
  rw [List.take_succ, h]
  rfl
/-! ### a large top: its facts by names, checked in one run -/
def exObj (K : PySem.W.Frag) : Bool := He.eqO (PySem.W.specialIn K (.builtin "object.__class__") "__get__") (some (some (.builtin "getset_descriptor.__get__"))) && decide (PySem.W.takesIn K (.builtin "object.__class__") = some true)
def excB (K : PySem.W.Frag) (x : Str) : Bool := He.eqO (PySem.W.nsIn K mainGlobals x) (some (some (.ref (He.ga K x)))) && (PySem.W.excIn K (He.ga K x) He.veBase "ValueError.__new__" && (PySem.W.keepIn K (.ref (He.ga K x)) &&
  (decide (PySem.W.subIn K (.ref (He.ga K x)) (.type "BaseException") = some true) && (decide (PySem.W.typeIn K (.ref (He.ga K x)) = some (.type "type")) && (PySem.W.isClsIn K (He.ga K x) && (PySem.W.hasDictIn K (He.ga K x) &&
  (He.eqO (PySem.W.findIn K (.ref (He.ga K x)) "__getattribute__") (some (some (.builtin "BaseException.__getattribute__"))) && (He.eqO (PySem.W.findIn K (.ref (He.ga K x)) "__getattr__") (some none) &&
  (He.eqO (PySem.W.findIn K (.ref (He.ga K x)) "__class__") (some (some (.builtin "object.__class__"))) && (decide (PySem.W.mroIn K (He.ga K x) (.type "object") = some true) && (decide (PySem.W.subIn K (.ref (He.ga K x)) (.type "ValueError") = some true) &&
  decide (PySem.W.subIn K (.ref (He.ga K x)) (.ref (He.ga K "MastError")) = some true))))))))))))
structure ExcT (K : PySem.W.Frag) (mg : Str → Option Value) (nm : Str) : Prop where
  g : mg nm = some (.ref (He.ga K nm))
  x : PySem.W.excIn K (He.ga K nm) He.veBase "ValueError.__new__" = true
  k : PySem.W.keepIn K (.ref (He.ga K nm)) = true
  b : PySem.W.subIn K (.ref (He.ga K nm)) (.type "BaseException") = some true
  t : PySem.W.typeIn K (.ref (He.ga K nm)) = some (.type "type")
  i : PySem.W.isClsIn K (He.ga K nm) = true
  h : PySem.W.hasDictIn K (He.ga K nm) = true
  ga : PySem.W.findIn K (.ref (He.ga K nm)) "__getattribute__" = some (some (.builtin "BaseException.__getattribute__"))
  gg : PySem.W.findIn K (.ref (He.ga K nm)) "__getattr__" = some none
  cl : PySem.W.findIn K (.ref (He.ga K nm)) "__class__" = some (some (.builtin "object.__class__"))
  mo : PySem.W.mroIn K (He.ga K nm) (.type "object") = some true
  v : PySem.W.subIn K (.ref (He.ga K nm)) (.type "ValueError") = some true
  s : PySem.W.subIn K (.ref (He.ga K nm)) (.ref (He.ga K "MastError")) = some true
theorem excB_ok {K : PySem.W.Frag} {h : Heap} {mg : Str → Option Value} (X : K.In h) (G : h.Ns mainGlobals mg) {x : Str} (c : excB K x = true) : ExcT K mg x := by
  obtain ⟨c1, c⟩ := He.ba c
  obtain ⟨c2, c⟩ := He.ba c
  obtain ⟨c3, c⟩ := He.ba c
  obtain ⟨c4, c⟩ := He.ba c
  obtain ⟨c5, c⟩ := He.ba c
  obtain ⟨c6, c⟩ := He.ba c
  obtain ⟨c7, c⟩ := He.ba c
  obtain ⟨c8, c⟩ := He.ba c
  obtain ⟨c9, c⟩ := He.ba c
  obtain ⟨c10, c⟩ := He.ba c
  obtain ⟨c11, c⟩ := He.ba c
  obtain ⟨c12, c13⟩ := He.ba c
  exact ⟨PySem.W.mg_of X G (He.eqO_ok c1), c2, c3, of_decide_eq_true c4, of_decide_eq_true c5, c6, c7, He.eqO_ok c8, He.eqO_ok c9, He.eqO_ok c10, of_decide_eq_true c11, of_decide_eq_true c12, of_decide_eq_true c13⟩
/-- of some classes none is over another -/
def kindB (K : PySem.W.Frag) (xs : List Str) : Bool := xs.all fun x => xs.all fun y => decide (PySem.W.subIn K (.ref (He.ga K x)) (.ref (He.ga K y)) = some (decide (x = y)))
theorem kindB_ok {K : PySem.W.Frag} {xs : List Str} (c : kindB K xs = true) {x y : Str} (hx : x ∈ xs) (hy : y ∈ xs) : PySem.W.subIn K (.ref (He.ga K x)) (.ref (He.ga K y)) = some (decide (x = y)) :=
  of_decide_eq_true (List.all_eq_true.mp (List.all_eq_true.mp c x hx) y hy)
def aliasB (K : PySem.W.Frag) (p : Str × Str) : Bool := He.eqO (PySem.W.nsIn K mainGlobals p.1) (some (some (.ref (He.ga K p.2))))
/-- all that is checked, but for the defs -/
structure FactsB where
  fa : List He.Fa
  exc : List Str
  kind : List Str
  al : List (Str × Str)
def FactsB.ok (F : FactsB) (K : PySem.W.Frag) : Bool := (F.fa.all fun f => f.ok K) && (F.exc.all (excB K) && (kindB K F.kind && (F.al.all (aliasB K) && exObj K)))
def obsB (as : List Addr) (F : FactsB) (fn : List He.DefD) (g : Addr → Option Obj) : Bool × List He.FnW := (F.ok (He.frG g as) && fn.all (fun d => d.ok (He.frG g as)), fn.map fun d => He.fnW (He.frG g as) d.at_)
structure SaysB (F : FactsB) (fn : List He.DefD) (K : PySem.W.Frag) : Prop where
  ok : F.ok K = true
  fn : ∀ d ∈ fn, d.ok K = true ∧ He.fnW K d.at_ = d.val
theorem map_eq_of {α β : Type} {f g : α → β} : ∀ {l : List α}, l.map f = l.map g → ∀ x ∈ l, f x = g x
  | [], _, x, h => nomatch h
  | y :: r, e, x, h => by
    rw [List.map_cons, List.map_cons] at e
    injection e with e1 e2
    rcases List.mem_cons.mp h with rfl | h
    · exact e1
    · exact map_eq_of e2 x h
theorem saysB_of {as : List Addr} {F : FactsB} {fn : List He.DefD} {g : Addr → Option Obj} (e : obsB as F fn g = (true, fn.map He.DefD.val)) : SaysB F fn (He.frG g as) := by
  have e1 : (F.ok (He.frG g as) && fn.all (fun d => d.ok (He.frG g as))) = true := congrArg (fun z : Bool × List He.FnW => z.1) e
  have e2 : fn.map (fun d => He.fnW (He.frG g as) d.at_) = fn.map He.DefD.val := congrArg (fun z : Bool × List He.FnW => z.2) e
  obtain ⟨h1, h2⟩ := He.ba e1
  exact ⟨h1, fun d hd => ⟨List.all_eq_true.mp h2 d hd, map_eq_of e2 d hd⟩⟩
def hookB (as : List Addr) (F : FactsB) (fn : List He.DefD) : PySem.W.Hook where
  α := Bool × List He.FnW
  obs := fun s => obsB as F fn s.heap.get?
  val := fun _ => (true, fn.map He.DefD.val)
  says := fun _ h => ∃ K : PySem.W.Frag, K.In h ∧ SaysB F fn K
  of := fun _ _ e => ⟨_, He.frG_in, saysB_of e⟩
  keeps := fun _ _ _ ⟨K, hK, c⟩ k => ⟨K, PySem.W.Frag.In.keeps hK k, c⟩
theorem obsB_eq {as : List Addr} {F : FactsB} {fn : List He.DefD} {g : Addr → Option Obj} {s : Shared} (h : ∀ a, g a = s.heap.get? a) : obsB as F fn g = (hookB as F fn).obs s := by
  have e : g = s.heap.get? := funext h
  rw [e] <;> rfl
theorem fun_ofD {K : PySem.W.Frag} {x q : Str} {st : Stmt} {kws : List (Str × V)} {f : Addr} {fd : FuncData} (F : FunD K x q (defArgs st) (defBody st) (defScope st) [] kws f fd) : Fun K x q st f fd := by
  obtain ⟨oc, od, dV, kV, doc, pm, an, cdv, ct, osl, rfl, lk, hcd, hD, hK⟩ := F.ex
  rcases hD with ⟨_, rfl⟩ | ⟨e, _⟩
  · exact ⟨⟨oc, od, kV, doc, pm, an, cdv, ct, osl, rfl, lk, hcd⟩, F.kp⟩
  · exact absurd rfl e
def fdOf (K : PySem.W.Frag) (f : Addr) : FuncData := match K.lookup f with
  | some ⟨_, _, .func fd, _⟩ => fd
  | _ => default
theorem fun_fd {K : PySem.W.Frag} {x q : Str} {st : Stmt} {f : Addr} {fd : FuncData} (F : Fun K x q st f fd) : fd = fdOf K f := by
  obtain ⟨oc, od, kV, doc, pm, an, cdv, ct, osl, rfl, lk, hcd⟩ := F.ex
  unfold fdOf
  rw [lk]
/-- what a law over a large top leans on -/
structure TopB (F : FactsB) (fn : List He.DefD) (K : PySem.W.Frag) (mg : Str → Option Value) : Prop where
  base : ∃ h : Heap, K.In h ∧ h.Ns mainGlobals mg
  says : SaysB F fn K
section
variable {F : FactsB} {fn : List He.DefD} {K : PySem.W.Frag} {mg : Str → Option Value}
theorem TopB.one (T : TopB F fn K mg) {f : He.Fa} (i : Nat) (h : F.fa[i]? = some f) : f.ok K = true :=
  List.all_eq_true.mp (He.ba T.says.ok).1 f (List.mem_of_getElem? h)
theorem TopB.glo (T : TopB F fn K mg) {x : Str} (i : Nat) (h : F.fa[i]? = some (.glo x)) : mg x = some (.ref (He.ga K x)) := by
  obtain ⟨h0, X, G⟩ := T.base
  exact He.glo_ok X G (T.one i h)
theorem TopB.free (T : TopB F fn K mg) {x : Str} (i : Nat) (h : F.fa[i]? = some (.free x)) : mg x = none := by
  obtain ⟨h0, X, G⟩ := T.base
  exact He.free_ok X G (T.one i h)
theorem TopB.int (T : TopB F fn K mg) {x : Str} {z : Int} (i : Nat) (h : F.fa[i]? = some (.int x z)) : mg x = some ((mg x).getD .none) ∧ RelV (.int z) ((mg x).getD .none) := by
  obtain ⟨h0, X, G⟩ := T.base
  obtain ⟨t, e⟩ := He.int_ok X G (T.one i h)
  rw [e]
  exact ⟨rfl, t, rfl⟩
theorem TopB.str (T : TopB F fn K mg) {x z : Str} (i : Nat) (h : F.fa[i]? = some (.str x z)) : mg x = some ((mg x).getD .none) ∧ RelV (.str z) ((mg x).getD .none) := by
  obtain ⟨h0, X, G⟩ := T.base
  obtain ⟨t, e⟩ := He.str_ok X G (T.one i h)
  rw [e]
  exact ⟨rfl, t, rfl⟩
theorem TopB.exc (T : TopB F fn K mg) {x : Str} (i : Nat) (h : F.exc[i]? = some x) : ExcT K mg x := by
  obtain ⟨h0, X, G⟩ := T.base
  exact excB_ok X G (List.all_eq_true.mp (He.ba (He.ba T.says.ok).2).1 x (List.mem_of_getElem? h))
theorem TopB.kinds (T : TopB F fn K mg) : kindB K F.kind = true := (He.ba (He.ba (He.ba T.says.ok).2).2).1
theorem TopB.ali (T : TopB F fn K mg) {p : Str × Str} (i : Nat) (h : F.al[i]? = some p) : mg p.1 = some (.ref (He.ga K p.2)) := by
  obtain ⟨h0, X, G⟩ := T.base
  have c := (He.ba (He.ba (He.ba (He.ba T.says.ok).2).2).2).1
  exact PySem.W.mg_of X G (He.eqO_ok (List.all_eq_true.mp c p (List.mem_of_getElem? h)))
theorem TopB.oget (T : TopB F fn K mg) : PySem.W.specialIn K (.builtin "object.__class__") "__get__" = some (some (.builtin "getset_descriptor.__get__")) := He.eqO_ok (He.ba (He.ba (He.ba (He.ba (He.ba T.says.ok).2).2).2).2).1
theorem TopB.otak (T : TopB F fn K mg) : PySem.W.takesIn K (.builtin "object.__class__") = some true := of_decide_eq_true (He.ba (He.ba (He.ba (He.ba (He.ba T.says.ok).2).2).2).2).2
theorem TopB.fun_ (T : TopB F fn K mg) {a : Str × Option Str} {x q : Str} {st : Stmt} (i : Nat) (h : fn[i]? = some ⟨a, x, q, defArgs st, defBody st, defScope st, [], []⟩) : Fun K x q st (He.fAd K a) (fdOf K (He.fAd K a)) := by
  obtain ⟨h1, h2⟩ := T.says.fn _ (List.mem_of_getElem? h)
  obtain ⟨fd, D⟩ := He.DefD.funD h2 h1
  have D2 := fun_ofD (K := K) (x := x) (q := q) (st := st) D
  rw [← fun_fd D2]
  exact D2
end

/-! ### list.count of flat values -/
theorem tbmK {X : Cx} (K : PySem.W.Frag) {e : Expr} {to : TE} {t : TA} {T : String} {r : V → List V → Hp → VK → Prop} (h : X.K = K) (p : PE X e (tBM X.K T r to t)) : PE X e (tBM K T r to t) := h ▸ p
theorem count_eqU {y : V} : ∀ {ys : List V} {us : List Value}, Vals ys us → ys.all flatV = true → us.countP (eqU y) = ys.countP (fun z => eqV z y)
  | [], _, r, _ => by
    cases r
    rfl
  | z :: ys, _, r, f => by
    cases r with
    | cons r1 r2 =>
      rw [List.all_cons, Bool.and_eq_true] at f
      rw [List.countP_cons, List.countP_cons, count_eqU r2 f.2, eqU_of r1 f.1]
def rCntF (K : PySem.W.Frag) : V → List V → Hp → VK → Prop := fun x xs H Q => ∃ (p : Addr) (ys : List V) (y : V), x = .ref p ∧ xs = [y] ∧ SqL K H p ys ∧ flatV y = true ∧ ys.all flatV = true ∧ Q (.int (ys.countP (fun z => eqV z y) : Nat)) H
theorem mt_fcount {X : Cx} : MtR X "list.count" (rCntF X.K) := by
  intro pins s σ H x xs v us Q I rx rxs h
  obtain ⟨p, ys, y, rfl, rfl, hs, fy, fys, q⟩ := h
  cases rx
  obtain ⟨uy, rfl, ry⟩ := rxs.one
  obtain ⟨its, rv, ⟨⟨cls, dd, data, sl⟩, n, ho, hc, hdn, hd⟩, hlen⟩ := I.list hs
  simp only at hc hd
  subst hc hd
  refine call_meets PySem.F.slot_list_count ⟨_, ho, rfl⟩ PySem.F.entry_list_count (PySem.F.args_list_count_2 _ _)
    (SeqAt.list_countAt p its.toArray n dd sl uy (eqU y)) ⟨ho, fun u' hu' => mem_eqAt ry fy rv fys u' (by simpa using hu'), ?_⟩
  have ec : its.toArray.toList.countP (eqU y) = ys.countP (fun z => eqV z y) := count_eqU rv fys
  refine ⟨.int (ys.countP (fun z => eqV z y) : Nat), H, I.tok _, ⟨s.toks, ?_⟩, q⟩
  show Value.int ((its.toArray.toList.countP (eqU y) : Nat) : Int) s.toks = _
  rw [ec]
theorem mt_indexK {X : Cx} (K : PySem.W.Frag) (h : X.K = K) : MtR X "list.index" (rIndex K) := h ▸ mt_index
theorem mt_fcountK {X : Cx} (K : PySem.W.Frag) (h : X.K = K) : MtR X "list.count" (rCntF K) := h ▸ mt_fcount

/-! ### a def that is handed the error which the suite has caught -/
abbrev SpE := Addr → Value → Option Addr → Sp
structure FnE (P : Program) (w : World) (K : PySem.W.Frag) (mg : Str → Option Value) (base : Heap) (k : Nat) (f : Addr) (fd : FuncData) (ps : List Str) (sp : SpE) : Prop where
  len : ∀ a c d vs H Q E, sp a c d vs H Q E → vs.length = ps.length
  run : ∀ (A : Around) (outer : List Env) (s : Shared) (H : Hp) (args : Args) (us : List Value) (vs : List V) (Q : VK) (E : XK) (a : Addr) (oe : Obj) (c : Value) (d : Option Addr), L2H.RoomH k A → L2H.PinOk outer H s (a, oe) → Zc c d oe → (∃ vs, oe.data = .fields vs) → Env0 P w K mg base A outer s H → BindsTo s fd args (ps.zip us) → Vals vs us → sp a c d vs H Q E →
    codeAny (model P w) A (.call (.ref f) args) (CR CX0 outer P w H s Q E) s
theorem fn_ofE {P : Program} {w : World} {K : PySem.W.Frag} {mg : Str → Option Value} {base : Heap} {k : Nat} {f : Addr} {name qual : Str} {params : Arguments} {body : List Stmt} {scope : Scope} {dV kV doc pm cdv ct oc : Value} {an od : Option Addr}
    {osl : Array (Option Value)} {N ps : List Str} {sp : SpE} (lk : K.lookup f = some ⟨oc, od, .func (PySem.W.fnOf name qual params body scope dV kV doc pm an cdv ct), osl⟩) (hcd : PySem.W.codeIn K cdv qual = true) (S : FnScope N ps scope)
    (len : ∀ a c d vs H Q E, sp a c d vs H Q E → vs.length = ps.length)
    (hbody : ∀ (A : Around) (outer : List Env) (s : Shared) (H : Hp) (vs : List V) (Q : VK) (E : XK) (a : Addr) (oe : Obj) (c : Value) (d : Option Addr), Zc c d oe → (∃ vs, oe.data = .fields vs) → L2H.RoomH k (A.deeper (envOfC qual scope s.heap.objs.size f cdv)) → sp a c d vs H Q E →
      ∃ t, PSs (L2H.cxH CX0 P w K mg base N qual scope f cdv A outer s H E (a, oe)) body t ∧ t { nx := fun _ H' => Q .non H', rt := Q } (L2.start N vs) H) :
    FnE P w K mg base (k + 1) f (PySem.W.fnOf name qual params body scope dV kV doc pm an cdv ct) ps sp := by
  refine ⟨len, fun A outer s H args us vs Q E a oe c d hr hpin hz hf e0 hb r hsp => ?_⟩
  have hl := len _ _ _ _ _ _ _ hsp
  have KX : K.In s.heap := e0.mod.kin.keeps fun b o e => (e0.bs b o e).1
  have lim : s.heap.NoLimit := e0.mod.nolimit.keeps fun b o e => (e0.bs b o e).1
  have hkind : ∀ y ∈ ps.zip us, scope.names.lookup y.1 = some .local ∨ (scope.names.lookup y.1 = some .cell ∧ ((cellsFrom (s.heap.objs.size + 1) scope.names []).lookup y.1).isSome = true) := fun ⟨n, v⟩ hy => by
    rcases S.par n (List.of_mem_zip hy).1 with q | q
    · exact .inl q
    · exact .inr ⟨q, PySem.W.cellsFrom_some _ _ _ (.inl q)⟩
  refine codeAny_call_function hr.depth (KX _ _ lk) rfl S.co S.gen rfl (PySem.W.codeRec_of KX hcd) (hb _ _ _ _ ?_)
  refine wpAny_newFunctionEnv_cells S.kind hkind fun env he s1 x => ?_
  subst he
  refine ⟨lim.keeps x.toInCall.keep, codeAny_func ?_⟩
  obtain ⟨t, ht, hq⟩ := hbody A outer s H vs Q E a oe c d hz hf (hr.deeper _) hsp
  have I : Inv (L2H.cxH CX0 P w K mg base N qual scope f cdv A outer s H E (a, oe)) [] (L2.start N vs) H s1 := L2H.inv_startH S hpin e0 hl r x
  refine wpAny_mono (ht.run [] s1 (L2.start N vs) H _ I hq) (fun fl s' hs => ?_) fun e s' hs => hs
  have fin : ∀ {σ' : L2.St} {H' : Hp} {v : V} {u : Value}, Inv (L2H.cxH CX0 P w K mg base N qual scope f cdv A outer s H E (a, oe)) [] σ' H' s' → RelV v u → Q v H' → CE outer P w H s Q u s' :=
    fun {σ' H' v u} J rv q => ⟨v, H', J.os, J.bare, J.base, J.hok, rv, q⟩
  cases fl with
  | ret u =>
    obtain ⟨v, σ', H', J, rv, q⟩ := hs
    exact fin J rv q
  | next =>
    obtain ⟨σ', H', J, q⟩ := hs
    exact fin (v := V.non) (u := Value.none) J rfl q
  | brk =>
    obtain ⟨_, _, _, q⟩ := hs
    exact False.elim q
  | cont =>
    obtain ⟨_, _, _, q⟩ := hs
    exact False.elim q
theorem Fun.okE {P : Program} {w : World} {K : PySem.W.Frag} {mg : Str → Option Value} {base : Heap} {x qual : Str} {st : Stmt} {f : Addr} {fd : FuncData} {N ps : List Str} {k : Nat} {sp : SpE} (F : Fun K x qual st f fd) (S : FnScope N ps (defScope st))
    (len : ∀ a c d vs H Q E, sp a c d vs H Q E → vs.length = ps.length)
    (hbody : ∀ (cdv : Value) (A : Around) (outer : List Env) (s : Shared) (H : Hp) (vs : List V) (Q : VK) (E : XK) (a : Addr) (oe : Obj) (c : Value) (d : Option Addr), Zc c d oe → (∃ vs, oe.data = .fields vs) → L2H.RoomH k (A.deeper (envOfC qual (defScope st) s.heap.objs.size f cdv)) → sp a c d vs H Q E →
      ∃ t, PSs (L2H.cxH CX0 P w K mg base N qual (defScope st) f cdv A outer s H E (a, oe)) (defBody st) t ∧ t { nx := fun _ H' => Q .non H', rt := Q } (L2.start N vs) H) :
    FnE P w K mg base (k + 1) f fd ps sp := by
  obtain ⟨oc, od, kV, doc, pm, an, cdv, ct, osl, rfl, lk, hcd⟩ := F.ex
  exact fn_ofE lk hcd S len (hbody cdv)
/-- the call f(e) in the suite -/
def tCallE (sp : SpE) (a : Addr) (c : Value) (d : Option Addr) (t : TA) : TE := fun σ H Q => t σ H fun vs H1 => sp a c d vs H1 Q fun _ _ _ => False
theorem pe_callE {X : Cx} {k : Nat} {f : Addr} {fd : FuncData} {ps : List Str} {sp : SpE} {x : Str} {q pos : Pos} {e : Expr} {es : List Expr} {t : TA} {a : Addr} {oe : Obj} {pn : List (Addr × Obj)} {c : Value} {d : Option Addr}
    (F : FnE X.prog X.w X.K X.mg X.base k f fd ps sp) (hr : Room k X.A) (hz : Zc c d oe) (hf : ∃ vs, oe.data = .fields vs) (hg : Gl (X.suite a ((a, oe) :: pn)) x) (hm : X.mg x = some (.ref f)) (hk : PySem.W.keepIn X.K (.ref f) = true) (hb : Binds X.K fd ps [])
    (ha : PA (X.suite a ((a, oe) :: pn)) (e :: es) t) (hdb : (x == ("__debug__" : Str)) = false := by decide) (he : starEach (e :: es) X.env = (false, eval e X.env) :: starEach es X.env := by rfl) (hpl : (backTo pos (starEach es X.env)).any (·.1) = false := by rfl) :
    PE (X.suite a ((a, oe) :: pn)) (.Call (.Name x q) (e :: es) [] pos) (tCallE sp a c d t) := by
  refine ⟨fun pins s σ H Q I h => ?_⟩
  refine wpAny_Call_Name_kw (ld_glob I hg hm ?_ hdb)
  refine PySem.W.callWith_K (h₀ := X.base) I.ok.mod.kin hk (thn (ha.run pos pins s σ H _ I h) fun us s1 ⟨vs, H1, I1, r, q⟩ => ⟨I1.kIn, ?_⟩) he hpl
  have hl : us.length = ps.length := by rw [← r.length]; exact F.len _ _ _ _ _ _ _ q
  have b := hb s1 us I1.kIn (by rw [List.append_nil]; exact hl)
  rw [List.append_nil] at b
  have P1 := I1.pin (a, oe) (List.mem_append_left _ List.mem_cons_self)
  have hpin : L2H.PinOk X.stack H1 s1 (a, oe) := ⟨P1.1, P1.2.1, fun hm => (List.mem_cons.mp (I1.stkSub a hm)).elim P1.2.2.1 P1.2.2.2.1, P1.2.2.2.2⟩
  have hr2 : L2H.RoomH k (X.suite a ((a, oe) :: pn)).A := ⟨hr.dp, hr.un⟩
  refine wpAny_call (codeAny_mono (F.run _ X.stack s1 H1 ⟨us, []⟩ us vs Q _ a oe c d hr2 hpin hz hf I1.env0 b r q) fun r s' hq => ?_)
  cases r with
  | error e => exact False.elim hq
  | ok fl =>
    cases fl with
    | ret u => exact I1.after hq
    | next => exact False.elim hq
    | brk => exact False.elim hq
    | cont => exact False.elim hq
/-- isinstance(e, C) in the def that was handed e -/
theorem call_isP {X : Cx} (K : PySem.W.Frag) {a : Addr} {oe : Obj} {cls : Value} {d : Option Addr} (h : X.K = K) (hp : (a, oe) ∈ X.pn) (hz : Zc cls d oe) (hf : ∃ vs, oe.data = .fields vs) : CallR X (.builtin "isinstance") (rIsX K cls d a) := by
  subst h
  intro pins s σ H xs us Q I r h'
  obtain ⟨D, c, cv, b, rfl, hd, C, rfl, hc, hk, q⟩ := h'
  cases r with | cons rx rr =>
  cases rr with | cons rt rr =>
  cases rr
  cases rx
  have ec := hc.eq rt
  subst ec
  obtain ⟨hget, _⟩ := I.pin (a, oe) (List.mem_append_left _ hp)
  obtain ⟨vs, hv⟩ := hf
  have hcl : (PySem.W.clsIn X.K D).isSome = true := by
    obtain ⟨cd, hc, _⟩ := PySem.W.any_some C.hd
    rw [hc]
    first | rfl | done
  have nc : PySem.W.notCls oe = true := by
    unfold PySem.W.notCls
    rw [hv]
  rcases hd with rfl | ⟨dd, fs, rfl, hdd⟩
  · have J : PySem.W.InstAt s.heap a oe D none := ⟨hget, hz.1, nc, by rw [hz.2]; trivial⟩
    exact PySem.W.kia_one (PySem.W.kitx_exc hcl C.hg C.hk C.hs C.ha C.hn C.ht C.hm) I.kIn J hk (fun z => nomatch z) fun tk => ⟨.bl b, H, I.kept (t' := tk) fun _ _ z => z, rfl, q⟩
  · obtain ⟨mA, hns, hr⟩ := I.hok dd _ hdd
    obtain ⟨od, ho, hl⟩ := lookIn_ns hns
    have J : PySem.W.InstAt s.heap a oe D (some od) := ⟨hget, hz.1, nc, by rw [hz.2]; exact ho⟩
    exact PySem.W.kia_one (PySem.W.kitx_exc hcl C.hg C.hk C.hs C.ha C.hn C.ht C.hm) I.kIn J hk (fun z => nomatch z) fun tk => ⟨.bl b, H, I.kept (t' := tk) fun _ _ z => z, rfl, q⟩

/-! ### min, max of a tuple of ints -/
def rMinT (K : PySem.W.Frag) : List V → Hp → VK → Prop := fun vs H Q => ∃ (a : Addr) (n : Int) (ns : List Int), vs = [V.ref a] ∧ SqT K H a ((n :: ns).map V.int) ∧ Q (.int (ns.foldl min n)) H
def rMaxT (K : PySem.W.Frag) : List V → Hp → VK → Prop := fun vs H Q => ∃ (a : Addr) (n : Int) (ns : List Int), vs = [V.ref a] ∧ SqT K H a ((n :: ns).map V.int) ∧ Q (.int (ns.foldl max n)) H
section
variable {X : Cx}
theorem alikeT_ints (ns : List Int) : PySem.W.AlikeAll (ns.map PyData.int) := by
  refine ⟨fun x hx y hy => ?_, fun x hx => ?_⟩
  · obtain ⟨a, _, rfl⟩ := List.mem_map.mp hx
    obtain ⟨b, _, rfl⟩ := List.mem_map.mp hy
    rfl
  · obtain ⟨a, _, rfl⟩ := List.mem_map.mp hx
    intro z
    cases z
theorem dep_intsT : ∀ ns : List Int, PyData.depthAll (ns.map PyData.int) ≤ 1
  | [] => by simp [PyData.depthAll]
  | n :: r => by
    have h := dep_intsT r
    simp only [List.map_cons, PyData.depthAll, PyData.depth]
    omega
theorem cr_minT (hc : X.calm = true) (hu : X.A.units + 64 < cLine) : CallR X (.builtin "min") (rMinT X.K) := by
  intro pins s σ H xs us Q I r h
  obtain ⟨a, n, ns, rfl, hs, q⟩ := h
  obtain ⟨its, rv, hl, _⟩ := I.tuple hs
  rw [Vals.ref1 r]
  refine PySem.W.min_tuple_data (I.ok.hd hc) hl (IntsAre.reads _ rv.ints) (alikeT_ints (n :: ns)) (by have := dep_intsT (n :: ns); rw [List.map_cons] at this; omega) fun i v h' tk bs hv hr hk => ?_
  rw [PySem.W.minD_ints] at hr
  cases hr
  exact ⟨.int _, H, I.kept hk, ⟨_, rfl⟩, q⟩
theorem cr_maxT (hc : X.calm = true) (hu : X.A.units + 64 < cLine) : CallR X (.builtin "max") (rMaxT X.K) := by
  intro pins s σ H xs us Q I r h
  obtain ⟨a, n, ns, rfl, hs, q⟩ := h
  obtain ⟨its, rv, hl, _⟩ := I.tuple hs
  rw [Vals.ref1 r]
  refine PySem.W.max_tuple_data (I.ok.hd hc) hl (IntsAre.reads _ rv.ints) (alikeT_ints (n :: ns)) (by have := dep_intsT (n :: ns); rw [List.map_cons] at this; omega) fun i v h' tk bs hv hr hk => ?_
  rw [PySem.W.maxD_ints] at hr
  cases hr
  exact ⟨.int _, H, I.kept hk, ⟨_, rfl⟩, q⟩
end
theorem sl_tupK {X : Cx} (K : PySem.W.Frag) (h : X.K = K) : SlR X (rSlT K) := h ▸ sl_tup
theorem sl_listK {X : Cx} (K : PySem.W.Frag) (h : X.K = K) : SlR X (rSlL K) := h ▸ sl_list

/-! ### dicts whose keys are texts and tuples -/
inductive MK where
  | t (x : Str)
  | u (ks : List Key)
  deriving DecidableEq
def mkIs (P : Program) (w : World) (h : Heap) : MK → Value → Prop
  | .t x, v => ∃ t, v = Value.str x t
  | .u ks, v => ∃ a, v = Value.ref a ∧ (tupleKind (mixKind P w)).is h ks a
def mkHash (P : Program) (w : World) : MK → Int
  | .t x => hashStr w x
  | .u ks => (tupleKind (mixKind P w)).hash ks
def mkDraws : MK → Nat
  | .t _ => 1
  | .u ks => ks.length + 1
def entryM (P : Program) (w : World) (x : MK × Value × Value) : DictEntry := ⟨mkHash P w x.1, x.2.1, x.2.2⟩
def DictM (P : Program) (w : World) (h : Heap) (d : Addr) (xs : List (MK × Value × Value)) : Prop :=
  ∃ o es ep, h.get? d = some o ∧ o.ExactDict ∧ o.data = .dict es ep ∧ es.toList = xs.map (entryM P w) ∧ (∀ x ∈ xs, mkIs P w h x.1 x.2.1) ∧ (xs.map (·.1)).Nodup
section
variable {prog : Program} {w : World} {A : Around} {E : Value → Shared → Prop} {s : Shared}
theorem mkIs.inj {h : Heap} {v : Value} : ∀ {x y : MK}, mkIs prog w h x v → mkIs prog w h y v → x = y
  | .t x, .t y, ⟨_, e⟩, ⟨_, e'⟩ => by rw [e] at e'; cases e'; rfl
  | .t x, .u y, ⟨_, e⟩, ⟨_, e', _⟩ => by rw [e] at e'; cases e'
  | .u x, .t y, ⟨_, e, _⟩, ⟨_, e'⟩ => by rw [e] at e'; cases e'
  | .u x, .u y, ⟨_, e, h1⟩, ⟨_, e', h2⟩ => by rw [e] at e'; cases e'; rw [(tupleKind (mixKind prog w)).inj h1 h2]
theorem mkIs.keeps {h h' : Heap} {d : Addr} {o : Obj} {es ep} {v : Value} (ho : h.get? d = some o) (hd : o.data = .dict es ep) (hs : Heap.SameBut d h h') : ∀ {k : MK}, mkIs prog w h k v → mkIs prog w h' k v
  | .t _, x => x
  | .u _, ⟨a, e, x⟩ => ⟨a, e, (tupleKind (mixKind prog w)).keeps x ho hd hs⟩
theorem mkIs.pyHash {v : Value} {Q : Int → Shared → Prop} (hu : A.units < cLine) : ∀ {k : MK}, mkIs prog w s.heap k v → Q (mkHash prog w k) { s with toks := s.toks + mkDraws k } → wpAny (model prog w) A (PySem.pyHash v) Q E s
  | .t x, ⟨t, e⟩, h => by rw [e]; exact wpAny_pyHash_str h
  | .u ks, ⟨a, e, x⟩, h => by rw [e]; exact (tupleKind (mixKind prog w)).pyHash hu x h
theorem mkIs.tup {h : Heap} {ks : List Key} {a : Addr} (x : (tupleKind (mixKind prog w)).is h ks a) : ∃ items, h.IsTuple a items := by
  obtain ⟨o, items, n, h1, h2, h3, _⟩ := x
  exact ⟨items, o, h1, h2, n, h3⟩
theorem mkIs.eqBool {u v : Value} {Q : Bool → Shared → Prop} (hu : A.units < cLine) : ∀ {x y : MK}, mkIs prog w s.heap x u → mkIs prog w s.heap y v → Q (decide (x = y)) s → wpAny (model prog w) A (PySem.eqBool u v) Q E s
  | .t x, .t y, ⟨t, e⟩, ⟨t', e'⟩, h => by
    rw [e, e']
    refine wpAny_eqBool_str ?_
    have q : decide (MK.t x = MK.t y) = decide (x = y) := by
      by_cases z : x = y
      · subst z; simp
      · rw [decide_eq_false z, decide_eq_false fun c => z (by cases c; rfl)]
    rw [q] at h
    exact h
  | .t x, .u y, ⟨t, e⟩, ⟨a, e', z⟩, h => by
    rw [e, e']
    obtain ⟨items, hi⟩ := mkIs.tup z
    rw [decide_eq_false (fun c => nomatch c)] at h
    exact SeqAt.EqAt.str_tuple x t hi hu _ _ _ _ h
  | .u x, .t y, ⟨a, e, z⟩, ⟨t', e'⟩, h => by
    rw [e, e']
    obtain ⟨items, hi⟩ := mkIs.tup z
    rw [decide_eq_false (fun c => nomatch c)] at h
    exact SeqAt.EqAt.tuple_str y t' hi hu _ _ _ _ h
  | .u x, .u y, ⟨a, e, z⟩, ⟨b, e', z'⟩, h => by
    rw [e, e']
    have q : decide (MK.u x = MK.u y) = decide (x = y) := by
      by_cases z : x = y
      · subst z; simp
      · rw [decide_eq_false z, decide_eq_false fun c => z (by cases c; rfl)]
    rw [q] at h
    exact (tupleKind (mixKind prog w)).eqBool hu z z' h
theorem mkIs.quiet {v : Value} {Q : Bool → Shared → Prop} : ∀ {k : MK}, mkIs prog w s.heap k v → Q true s → wpAny (model prog w) A (eqIsQuiet 8 v) Q E s
  | .t x, ⟨t, e⟩, h => by
    rw [e, eqIsQuiet_byValue 8 (show carriedByValue (Value.str x t) = true from rfl)]
    exact wpAny_pure h
  | .u ks, ⟨a, e, x⟩, h => by rw [e]; exact (tupleKind (mixKind prog w)).quiet x h
theorem entryM_at {es : Array DictEntry} {xs : List (MK × Value × Value)} (he : es.toList = xs.map (entryM prog w)) (j : Nat) : es[j]? = (xs[j]?).map (entryM prog w) := by
  rw [← Array.getElem?_toList, he, List.getElem?_map]
theorem sizeM {es : Array DictEntry} {xs : List (MK × Value × Value)} (he : es.toList = xs.map (entryM prog w)) : es.size = xs.length := by
  rw [← Array.length_toList, he, List.length_map]
theorem idxM {xs : List (MK × Value × Value)} (hn : (xs.map (·.1)).Nodup) {i j : Nat} {k : MK} {p q : Value × Value} (hi : xs[i]? = some (k, p)) (hj : xs[j]? = some (k, q)) : i = j := by
  have hi' : (xs.map (·.1))[i]? = some k := by rw [List.getElem?_map, hi]; rfl
  have hj' : (xs.map (·.1))[j]? = some k := by rw [List.getElem?_map, hj]; rfl
  exact (List.getElem?_inj (List.getElem?_eq_some_iff.mp hi').1 hn).mp (hi'.trans hj'.symm)
theorem tellM {key : Value} {k : MK} {stored : List Value} {Q : Bool → Shared → Prop} (hkey : mkIs prog w s.heap k key) (hst : ∀ v ∈ stored, ∃ k', mkIs prog w s.heap k' v) (h : Q false s) :
    wpAny (model prog w) A (tableMayTell key stored) Q E s := by
  unfold tableMayTell
  split
  · exact wpAny_pure h
  · refine wpAny_bind (mkIs.quiet hkey ?_)
    simp only [Bool.not_true, Bool.false_eq_true, if_false]
    refine wpAny_bind ?_
    refine wpAny_forIn_list _ (fun rest r s' => s' = s ∧ r = (none, ()) ∧ ∀ v ∈ rest, ∃ k', mkIs prog w s.heap k' v) _ ?_ ?_ _ _ ⟨rfl, rfl, hst⟩
    · rintro x rest r s' ⟨rfl, rfl, hr⟩
      obtain ⟨k', hb⟩ := hr x List.mem_cons_self
      refine wpAny_bind (mkIs.quiet hb ?_)
      simp only [Bool.not_true, Bool.false_eq_true, if_false]
      exact wpAny_pure ⟨rfl, rfl, fun v hv => hr v (List.mem_cons_of_mem _ hv)⟩
    · rintro r s' ⟨rfl, rfl, _⟩
      exact wpAny_pure h
theorem findM {d : Addr} {key : Value} {o : Obj} {es ep} {xs : List (MK × Value × Value)} {k : MK} {Q : Option Nat → Shared → Prop} (hu : A.units < cLine) (hkey : mkIs prog w s.heap k key)
    (ho : s.heap.get? d = some o) (hd : o.data = .dict es ep) (he : es.toList = xs.map (entryM prog w)) (his : ∀ x ∈ xs, mkIs prog w s.heap x.1 x.2.1) (hn : (xs.map (·.1)).Nodup)
    (hnone : (∀ (j : Nat) (p : Value × Value), xs[j]? ≠ some (k, p)) → Q none s) (hsome : ∀ (j : Nat) (p : Value × Value), xs[j]? = some (k, p) → Q (some j) s) :
    wpAny (model prog w) A (dictFind d key (mkHash prog w k)) Q E s := by
  have hsz : es.size = xs.length := sizeM he
  have haskey : ∀ (j : Nat) (p : Value × Value), xs[j]? = some (k, p) → ((es[j]?.map (·.hash)) == some (mkHash prog w k)) = true := by
    intro j p hj
    rw [entryM_at he j, hj]
    simp [entryM]
  have hmem : ∀ e ∈ es, ∃ x ∈ xs, e = entryM prog w x := by
    intro e hin
    have : e ∈ xs.map (entryM prog w) := he ▸ Array.mem_toList_iff.mpr hin
    obtain ⟨x, hx, rfl⟩ := List.mem_map.mp this
    exact ⟨x, hx, rfl⟩
  have hany : ¬ (es.any fun e => e.key == key && e.hash != mkHash prog w k) = true := by
    rw [← Array.any_toList, List.any_eq_true]
    rintro ⟨e, hin, hc⟩
    obtain ⟨x, hx, rfl⟩ := hmem e (Array.mem_toList_iff.mp hin)
    simp only [entryM, Bool.and_eq_true, beq_iff_eq, bne_iff_ne, ne_eq] at hc
    obtain ⟨hxa, hne⟩ := hc
    have := his x hx
    rw [hxa] at this
    exact hne (by rw [mkIs.inj this hkey])
  have hst : ∀ v ∈ (placesWithHash es.size (fun i => es[i]?.map (·.hash)) (mkHash prog w k)).filterMap (fun i => es[i]?.map (·.key)), ∃ k', mkIs prog w s.heap k' v := by
    intro v hv
    obtain ⟨i, _, hi⟩ := List.mem_filterMap.mp hv
    cases hei : es[i]? with
    | none => rw [hei] at hi; cases hi
    | some e =>
      rw [hei] at hi
      obtain rfl : e.key = v := by simpa using hi
      obtain ⟨x, hx, rfl⟩ := hmem e (Array.mem_of_getElem? hei)
      exact ⟨x.1, his x hx⟩
  -- the walk where all is carried by value
  have plain : wpAny (model prog w) A (dictWalkPlain d key (mkHash prog w k) es (placesWithHash es.size (fun i => es[i]?.map (·.hash)) (mkHash prog w k))) Q E s := by
    refine wpAny_bind ?_
    refine wpAny_forIn_list _
      (fun rest b s' => s' = s ∧ b = (none, ()) ∧ ∃ i, rest = (List.range' i (es.size - i)).filter (fun i => (es[i]?.map (·.hash)) == some (mkHash prog w k)) ∧ i ≤ es.size ∧ ∀ j p, j < i → xs[j]? ≠ some (k, p)) _ ?_ ?_ _ _
      ⟨rfl, rfl, 0, by rw [placesWithHash, List.range_eq_range', Nat.sub_zero], Nat.zero_le _, fun _ _ h => absurd h (Nat.not_lt_zero _)⟩
    · rintro x rest b s' ⟨rfl, rfl, i, hr, hi, hno⟩
      obtain ⟨hix, hxn, hpx, hskip, hrest⟩ := filter_range'_cons _ _ _ _ _ hr.symm
      have hlt : x < es.size := by omega
      obtain ⟨⟨k', b, v'⟩, hkv⟩ : ∃ y, xs[x]? = some y := ⟨xs[x]'(by rw [← hsz]; exact hlt), List.getElem?_eq_getElem _⟩
      have hib : mkIs prog w s'.heap k' b := his _ (List.mem_of_getElem? hkv)
      have hex : es[x]? = some ⟨mkHash prog w k', b, v'⟩ := by rw [entryM_at he x, hkv]; rfl
      have hnext : ¬ k' = k → ∃ i, rest = (List.range' i (es.size - i)).filter (fun i => (es[i]?.map (·.hash)) == some (mkHash prog w k)) ∧ i ≤ es.size ∧ ∀ j p, j < i → xs[j]? ≠ some (k, p) := fun hne =>
        ⟨x + 1, by rw [hrest]; congr 2; omega, hlt, fun j p hji hj => by
          rcases Nat.lt_or_ge j i with h | h
          · exact hno j p h hj
          · rcases Nat.lt_or_ge j x with h' | h'
            · have := hskip j h h'
              rw [haskey j p hj] at this
              exact absurd this (by decide)
            · have e : j = x := by omega
              subst e
              rw [hkv] at hj
              injection hj with hj
              injection hj with hj
              exact hne hj⟩
      simp only [hex]
      by_cases hh : (mkHash prog w k' == mkHash prog w k) = true
      · rw [if_pos hh]
        refine wpAny_bind (wpAny_dictEpoch ho hd (wpAny_bind (mkIs.eqBool (x := k') (y := k) hu hib hkey (wpAny_bind (wpAny_dictEpoch ho hd ?_)))))
        show wpAny _ _ (if (ep != ep) = true then _ else _) _ E _
        rw [if_neg (by simp)]
        by_cases hkk : k' = k
        · rw [decide_eq_true hkk]
          subst hkk
          exact wpAny_bind (wpAny_rule (wpAny_pure (wpAny_pure (hsome x _ hkv))))
        · rw [decide_eq_false hkk]
          exact wpAny_bind (wpAny_rule (wpAny_pure ⟨rfl, rfl, hnext hkk⟩))
      · rw [if_neg hh]
        refine wpAny_pure ⟨rfl, rfl, hnext ?_⟩
        intro hkk
        rw [hkk] at hh; simp at hh
    · rintro b s' ⟨rfl, rfl, i, hr, hi, hno⟩
      have hall : ∀ j, i ≤ j → j < es.size → ((es[j]?.map (·.hash)) == some (mkHash prog w k)) = false := by
        intro j h1 h2
        have := List.filter_eq_nil_iff.mp hr.symm j (List.mem_range'_1.mpr ⟨h1, by omega⟩)
        simpa using this
      refine wpAny_pure (hnone fun j p hj => ?_)
      rcases Nat.lt_or_ge j i with h | h
      · exact hno j p h hj
      · have hjl : j < es.size := by
          rw [hsz]
          rcases Nat.lt_or_ge j xs.length with h' | h'
          · exact h'
          · rw [List.getElem?_eq_none h'] at hj; exact nomatch hj
        have := hall j h hjl
        rw [haskey j p hj] at this
        exact absurd this (by decide)
  unfold dictFind
  try with_reducible refine wpAny_holding ?_
  refine wpAny_bind (wpAny_dictEntries ho hd ?_)
  dsimp only
  -- the rest behind the look for texts alone
  generalize hrest0 : (if ((key :: (placesWithHash es.size (fun i => es[i]?.map (·.hash)) (mkHash prog w k)).filterMap (fun i => es[i]?.map (·.key))).all carriedByValue) = true then _ else _ : Sem (Option Nat)) = REST
  have hREST : wpAny (model prog w) A REST Q E s := by
    subst hrest0
    by_cases hall : ((key :: (placesWithHash es.size (fun i => es[i]?.map (·.hash)) (mkHash prog w k)).filterMap (fun i => es[i]?.map (·.key))).all carriedByValue) = true
    · rw [if_pos hall]
      exact plain
    · rw [if_neg hall]
      have hk0 : (∃ x tk, key = Value.str x tk) ∨ ∃ a, key = Value.ref a := by
        cases k with
        | t x => obtain ⟨tk, e⟩ := hkey; exact .inl ⟨x, tk, e⟩
        | u ks => obtain ⟨a, e, _⟩ := hkey; exact .inr ⟨a, e⟩
      rcases hk0 with ⟨x0, tk0, rfl⟩ | ⟨a0, rfl⟩
      · dsimp only
        by_cases hone : (((placesWithHash es.size (fun i => es[i]?.map (·.hash)) (mkHash prog w k)).filterMap (fun i => es[i]?.map (·.key))) == [Value.str x0 tk0]) = true <;>
        (first | rw [if_pos hone] | rw [if_neg hone]) <;> (first | refine wpAny_bind (wpAny_pure ?_) | refine wpAny_bind (tellM hkey hst ?_)) <;> (
          rw [if_neg (by simp)]
          refine wpAny_bind ?_
          refine wpAny_forIn_list _
            (fun rest b s' => s' = s ∧ ∃ i hit, b = (none, hit) ∧ rest = (List.range' i (es.size - i)).filter (fun i => (es[i]?.map (·.hash)) == some (mkHash prog w k)) ∧ i ≤ es.size ∧
              ((hit = none ∧ ∀ j p, j < i → xs[j]? ≠ some (k, p)) ∨ ∃ j p, hit = some j ∧ j < i ∧ xs[j]? = some (k, p))) _ ?_ ?_ _ _
            ⟨rfl, 0, none, rfl, by rw [placesWithHash, List.range_eq_range', Nat.sub_zero], Nat.zero_le _, .inl ⟨rfl, fun _ _ h => absurd h (Nat.not_lt_zero _)⟩⟩
          · rintro x rest b s' ⟨rfl, i, hit, rfl, hr, hi, hH⟩
            obtain ⟨hix, hxn, hpx, hskip, hrest⟩ := filter_range'_cons _ _ _ _ _ hr.symm
            have hlt : x < es.size := by omega
            have hrest' : rest = (List.range' (x + 1) (es.size - (x + 1))).filter (fun i => (es[i]?.map (·.hash)) == some (mkHash prog w k)) := by rw [hrest]; congr 2; omega
            obtain ⟨⟨k', b, v'⟩, hkv⟩ : ∃ y, xs[x]? = some y := ⟨xs[x]'(by rw [← hsz]; exact hlt), List.getElem?_eq_getElem _⟩
            have hib : mkIs prog w s'.heap k' b := his _ (List.mem_of_getElem? hkv)
            have hex : es[x]? = some ⟨mkHash prog w k', b, v'⟩ := by rw [entryM_at he x, hkv]; rfl
            have hHx : (hit = none ∧ ∀ j p, j < x → xs[j]? ≠ some (k, p)) ∨ ∃ j p, hit = some j ∧ j < x ∧ xs[j]? = some (k, p) := by
              rcases hH with ⟨h0, hno⟩ | ⟨j, p, h1, hji, hj⟩
              · refine .inl ⟨h0, fun j p hjx hj => ?_⟩
                rcases Nat.lt_or_ge j i with h | h
                · exact hno j p h hj
                · have := hskip j h hjx
                  rw [haskey j p hj] at this
                  exact absurd this (by decide)
              · exact .inr ⟨j, p, h1, by omega, hj⟩
            have hstay : ¬ k' = k → ((hit = none ∧ ∀ j p, j < x + 1 → xs[j]? ≠ some (k, p)) ∨ ∃ j p, hit = some j ∧ j < x + 1 ∧ xs[j]? = some (k, p)) := by
              intro hne
              rcases hHx with ⟨h0, hno⟩ | ⟨j, p, h1, hjx, hj⟩
              · refine .inl ⟨h0, fun j p hjx hj => ?_⟩
                rcases Nat.lt_or_ge j x with h | h
                · exact hno j p h hj
                · have hjx' : j = x := by omega
                  subst hjx'
                  rw [hkv] at hj
                  injection hj with hj
                  injection hj with hj
                  exact hne hj
              · exact .inr ⟨j, p, h1, by omega, hj⟩
            rw [hex]
            dsimp only
            by_cases hh : (mkHash prog w k' == mkHash prog w k) = true
            · rw [if_pos hh]
              refine wpAny_bind (wpAny_dictEpoch ho hd (wpAny_bind (mkIs.eqBool (x := k') (y := k) hu hib hkey (wpAny_bind (wpAny_dictEpoch ho hd ?_)))))
              show wpAny _ _ (if (ep != ep) = true then _ else _) _ E _
              rw [if_neg (by simp)]
              by_cases hkk : k' = k
              · rw [decide_eq_true hkk]
                subst hkk
                rcases hHx with ⟨rfl, _⟩ | ⟨j, p, _, hjx, hj⟩
                · first | rw [if_pos rfl] | skip
                  simp only [Option.isSome_none, Bool.false_eq_true, if_false]
                  first | refine wpAny_bind (wpAny_pure ?_) | skip
                  refine wpAny_bind (wpAny_rule ?_)
                  split
                  · exact wpAny_pure (wpAny_pure (hsome x _ hkv))
                  · exact wpAny_pure ⟨rfl, x + 1, some x, rfl, hrest', hlt, .inr ⟨x, _, rfl, Nat.lt_succ_self x, hkv⟩⟩
                · exact absurd (idxM hn hj hkv) (by omega)
              · rw [decide_eq_false hkk]
                simp only [Bool.false_eq_true, if_false]
                refine wpAny_bind (wpAny_rule ?_)
                first | rw [if_neg (by simp)] | skip
                first
                  | exact wpAny_pure ⟨rfl, x + 1, hit, rfl, hrest', hlt, hstay hkk⟩
                  | exact wpAny_bind (wpAny_pure (wpAny_pure ⟨rfl, x + 1, hit, rfl, hrest', hlt, hstay hkk⟩))
            · rw [if_neg hh]
              refine wpAny_pure ⟨rfl, x + 1, hit, rfl, hrest', hlt, hstay ?_⟩
              intro hkk
              rw [hkk] at hh; simp at hh
          · rintro b s' ⟨rfl, i, hit, rfl, hr, hi, hH⟩
            have hall : ∀ j, i ≤ j → j < es.size → ((es[j]?.map (·.hash)) == some (mkHash prog w k)) = false := by
              intro j h1 h2
              have := List.filter_eq_nil_iff.mp hr.symm j (List.mem_range'_1.mpr ⟨h1, by omega⟩)
              simpa using this
            rcases hH with ⟨rfl, hno⟩ | ⟨j, p, rfl, _, hj⟩
            · refine wpAny_pure (hnone fun j p hj => ?_)
              rcases Nat.lt_or_ge j i with h | h
              · exact hno j p h hj
              · have hjl : j < es.size := by
                  rw [hsz]
                  rcases Nat.lt_or_ge j xs.length with h' | h'
                  · exact h'
                  · rw [List.getElem?_eq_none h'] at hj; exact nomatch hj
                have := hall j h hjl
                rw [haskey j p hj] at this
                exact absurd this (by decide)
            · exact wpAny_pure (hsome j p hj))
      · dsimp only
        rw [if_neg hany]
        by_cases hone : (((placesWithHash es.size (fun i => es[i]?.map (·.hash)) (mkHash prog w k)).filterMap (fun i => es[i]?.map (·.key))) == [Value.ref a0]) = true <;>
        (first | rw [if_pos hone] | rw [if_neg hone]) <;> (first | refine wpAny_bind (wpAny_pure ?_) | refine wpAny_bind (tellM hkey hst ?_)) <;> (
          rw [if_neg (by simp)]
          refine wpAny_bind ?_
          refine wpAny_forIn_list _
            (fun rest b s' => s' = s ∧ ∃ i hit, b = (none, hit) ∧ rest = (List.range' i (es.size - i)).filter (fun i => (es[i]?.map (·.hash)) == some (mkHash prog w k)) ∧ i ≤ es.size ∧
              ((hit = none ∧ ∀ j p, j < i → xs[j]? ≠ some (k, p)) ∨ ∃ j p, hit = some j ∧ j < i ∧ xs[j]? = some (k, p))) _ ?_ ?_ _ _
            ⟨rfl, 0, none, rfl, by rw [placesWithHash, List.range_eq_range', Nat.sub_zero], Nat.zero_le _, .inl ⟨rfl, fun _ _ h => absurd h (Nat.not_lt_zero _)⟩⟩
          · rintro x rest b s' ⟨rfl, i, hit, rfl, hr, hi, hH⟩
            obtain ⟨hix, hxn, hpx, hskip, hrest⟩ := filter_range'_cons _ _ _ _ _ hr.symm
            have hlt : x < es.size := by omega
            have hrest' : rest = (List.range' (x + 1) (es.size - (x + 1))).filter (fun i => (es[i]?.map (·.hash)) == some (mkHash prog w k)) := by rw [hrest]; congr 2; omega
            obtain ⟨⟨k', b, v'⟩, hkv⟩ : ∃ y, xs[x]? = some y := ⟨xs[x]'(by rw [← hsz]; exact hlt), List.getElem?_eq_getElem _⟩
            have hib : mkIs prog w s'.heap k' b := his _ (List.mem_of_getElem? hkv)
            have hex : es[x]? = some ⟨mkHash prog w k', b, v'⟩ := by rw [entryM_at he x, hkv]; rfl
            have hHx : (hit = none ∧ ∀ j p, j < x → xs[j]? ≠ some (k, p)) ∨ ∃ j p, hit = some j ∧ j < x ∧ xs[j]? = some (k, p) := by
              rcases hH with ⟨h0, hno⟩ | ⟨j, p, h1, hji, hj⟩
              · refine .inl ⟨h0, fun j p hjx hj => ?_⟩
                rcases Nat.lt_or_ge j i with h | h
                · exact hno j p h hj
                · have := hskip j h hjx
                  rw [haskey j p hj] at this
                  exact absurd this (by decide)
              · exact .inr ⟨j, p, h1, by omega, hj⟩
            have hstay : ¬ k' = k → ((hit = none ∧ ∀ j p, j < x + 1 → xs[j]? ≠ some (k, p)) ∨ ∃ j p, hit = some j ∧ j < x + 1 ∧ xs[j]? = some (k, p)) := by
              intro hne
              rcases hHx with ⟨h0, hno⟩ | ⟨j, p, h1, hjx, hj⟩
              · refine .inl ⟨h0, fun j p hjx hj => ?_⟩
                rcases Nat.lt_or_ge j x with h | h
                · exact hno j p h hj
                · have hjx' : j = x := by omega
                  subst hjx'
                  rw [hkv] at hj
                  injection hj with hj
                  injection hj with hj
                  exact hne hj
              · exact .inr ⟨j, p, h1, by omega, hj⟩
            rw [hex]
            dsimp only
            by_cases hh : (mkHash prog w k' == mkHash prog w k) = true
            · rw [if_pos hh]
              refine wpAny_bind (wpAny_dictEpoch ho hd (wpAny_bind (mkIs.eqBool (x := k') (y := k) hu hib hkey (wpAny_bind (wpAny_dictEpoch ho hd ?_)))))
              show wpAny _ _ (if (ep != ep) = true then _ else _) _ E _
              rw [if_neg (by simp)]
              by_cases hkk : k' = k
              · rw [decide_eq_true hkk]
                subst hkk
                rcases hHx with ⟨rfl, _⟩ | ⟨j, p, _, hjx, hj⟩
                · first | rw [if_pos rfl] | skip
                  simp only [Option.isSome_none, Bool.false_eq_true, if_false]
                  first | refine wpAny_bind (wpAny_pure ?_) | skip
                  refine wpAny_bind (wpAny_rule ?_)
                  split
                  · exact wpAny_pure (wpAny_pure (hsome x _ hkv))
                  · exact wpAny_pure ⟨rfl, x + 1, some x, rfl, hrest', hlt, .inr ⟨x, _, rfl, Nat.lt_succ_self x, hkv⟩⟩
                · exact absurd (idxM hn hj hkv) (by omega)
              · rw [decide_eq_false hkk]
                simp only [Bool.false_eq_true, if_false]
                refine wpAny_bind (wpAny_rule ?_)
                first | rw [if_neg (by simp)] | skip
                first
                  | exact wpAny_pure ⟨rfl, x + 1, hit, rfl, hrest', hlt, hstay hkk⟩
                  | exact wpAny_bind (wpAny_pure (wpAny_pure ⟨rfl, x + 1, hit, rfl, hrest', hlt, hstay hkk⟩))
            · rw [if_neg hh]
              refine wpAny_pure ⟨rfl, x + 1, hit, rfl, hrest', hlt, hstay ?_⟩
              intro hkk
              rw [hkk] at hh; simp at hh
          · rintro b s' ⟨rfl, i, hit, rfl, hr, hi, hH⟩
            have hall : ∀ j, i ≤ j → j < es.size → ((es[j]?.map (·.hash)) == some (mkHash prog w k)) = false := by
              intro j h1 h2
              have := List.filter_eq_nil_iff.mp hr.symm j (List.mem_range'_1.mpr ⟨h1, by omega⟩)
              simpa using this
            rcases hH with ⟨rfl, hno⟩ | ⟨j, p, rfl, _, hj⟩
            · refine wpAny_pure (hnone fun j p hj => ?_)
              rcases Nat.lt_or_ge j i with h | h
              · exact hno j p h hj
              · have hjl : j < es.size := by
                  rw [hsz]
                  rcases Nat.lt_or_ge j xs.length with h' | h'
                  · exact h'
                  · rw [List.getElem?_eq_none h'] at hj; exact nomatch hj
                have := hall j h hjl
                rw [haskey j p hj] at this
                exact absurd this (by decide)
            · exact wpAny_pure (hsome j p hj))
  cases k with
  | t x =>
    obtain ⟨tk, rfl⟩ := hkey
    dsimp only
    by_cases hstrs : (es.all fun e => isExactStrKey e.key) = true
    · rw [if_pos hstrs]
      unfold foundByValue
      cases hf : es.findIdx? (fun e => e.key.isStr x) with
      | none =>
        refine wpAny_pure (hnone fun j p hj => ?_)
        have hex : es[j]? = some (entryM prog w (.t x, p)) := by rw [entryM_at he j, hj]; rfl
        have hq := Array.findIdx?_eq_none_iff.mp hf _ (Array.mem_of_getElem? hex)
        obtain ⟨t', e'⟩ := (show mkIs prog w s.heap (.t x) p.1 from his _ (List.mem_of_getElem? hj))
        have e2 : (entryM prog w (.t x, p)).key = Value.str x t' := e'
        rw [e2] at hq
        simp [Value.isStr] at hq
      | some i =>
        obtain ⟨hlt, hi, _⟩ := Array.findIdx?_eq_some_iff_getElem.mp hf
        obtain ⟨⟨k', b, v'⟩, hkv⟩ : ∃ y, xs[i]? = some y := ⟨xs[i]'(by rw [← hsz]; exact hlt), List.getElem?_eq_getElem _⟩
        have hib : mkIs prog w s.heap k' b := his _ (List.mem_of_getElem? hkv)
        have hex : es[i]? = some ⟨mkHash prog w k', b, v'⟩ := by rw [entryM_at he i, hkv]; rfl
        have hei : es[i] = ⟨mkHash prog w k', b, v'⟩ := by
          have := Array.getElem?_eq_getElem hlt
          rw [hex] at this
          exact (Option.some.inj this).symm
        rw [hei] at hi
        have hkk : k' = .t x := by
          cases b <;> simp [Value.isStr] at hi
          subst hi
          exact mkIs.inj hib ⟨_, rfl⟩
        subst hkk
        simp only [hex]
        refine wpAny_bind (wpAny_dictEpoch ho hd (wpAny_bind (mkIs.eqBool (x := .t x) (y := .t x) hu hib ⟨_, rfl⟩ (wpAny_bind (wpAny_dictEpoch ho hd ?_)))))
        show wpAny _ _ (if (ep != ep) = true then _ else _) _ E _
        rw [if_neg (by simp), decide_eq_true rfl]
        exact wpAny_bind (wpAny_rule (wpAny_pure (hsome i _ hkv)))
    · rw [if_neg hstrs]
      exact hREST
  | u ks =>
    obtain ⟨a, rfl, hz⟩ := hkey
    exact hREST
theorem DictM.typeIs {d : Addr} {xs : List (MK × Value × Value)} (hm : DictM prog w s.heap d xs) : s.TypeIs (.ref d) "dict" :=
  let ⟨o, _, _, ho, hc, _⟩ := hm; ⟨o, ho, hc.1⟩
theorem dictGetM {d : Addr} {key : Value} {xs : List (MK × Value × Value)} {k : MK} {j : Nat} {p : Value × Value} {Q : Option Value → Shared → Prop} (hu : A.units < cLine) (hkey : mkIs prog w s.heap k key) (hm : DictM prog w s.heap d xs)
    (hj : xs[j]? = some (k, p)) (h : Q (some p.2) { s with toks := s.toks + mkDraws k }) : wpAny (model prog w) A (dictGet d key) Q E s := by
  obtain ⟨o, es, ep, ho, _, hd, he, his, hn⟩ := hm
  unfold dictGet
  try with_reducible refine wpAny_holding ?_
  refine wpAny_bind (mkIs.pyHash hu hkey (wpAny_bind (findM (s := { s with toks := s.toks + mkDraws k }) hu hkey ho hd he his hn ?_ ?_)))
  · intro hno
    exact absurd hj (hno j p)
  · intro i q hi
    obtain rfl := idxM hn hj hi
    rw [hj] at hi
    cases hi
    refine wpAny_bind (wpAny_dictEntries (s := { s with toks := s.toks + mkDraws k }) ho hd ?_)
    rw [entryM_at he j, hj]
    exact wpAny_pure h
theorem getItemM {d : Addr} {key : Value} {xs : List (MK × Value × Value)} {k : MK} {j : Nat} {p : Value × Value} {Q : Value → Shared → Prop} (hu : A.units + 1 < cLine) (hkey : mkIs prog w s.heap k key) (hm : DictM prog w s.heap d xs)
    (hj : xs[j]? = some (k, p)) (h : Q p.2 { s with toks := s.toks + mkDraws k }) : wpAny (model prog w) A (getItem (.ref d) key) Q E s := by
  unfold getItem
  try with_reducible refine wpAny_holding ?_
  refine wpAny_bind (wpAny_sequenceKey hm.typeIs (by decide) ?_)
  refine wpAny_bind (wpAny_callSpecial?_slot (name := Str.ofString "__getitem__") hm.typeIs slot_dict_getitem
    (wpAny_call_entry slot_dict_getitem hm.typeIs entry_dict_getitem ?_ (args_dict_getitem _ _)))
  show wpAny _ _ (dictGet d key >>= _) _ _ s
  refine wpAny_bind (dictGetM (A := A.in1) hu hkey hm hj ?_)
  exact wpAny_pure ⟨p.2, rfl, wpAny_pure h⟩
theorem dictSetM {d : Addr} {key v : Value} {xs : List (MK × Value × Value)} {k : MK} {Q : Unit → Shared → Prop} (hu : A.units < cLine) (hkey : mkIs prog w s.heap k key) (hm : DictM prog w s.heap d xs)
    (hno : ∀ (j : Nat) (p : Value × Value), xs[j]? ≠ some (k, p)) (hQ : ∀ h', DictM prog w h' d (xs ++ [(k, key, v)]) → Heap.SameBut d s.heap h' → Q () { s with heap := h', toks := s.toks + mkDraws k })
    (hsz : xs.length ≤ sizeLine) : wpAny (model prog w) A (dictSet d key v) Q E s := by
  obtain ⟨o, es, ep, ho, hc, hd, he, his, hn⟩ := hm
  unfold dictSet
  try with_reducible refine wpAny_holding ?_
  refine wpAny_bind (mkIs.pyHash hu hkey ?_)
  unfold dictSetHashed
  try with_reducible refine wpAny_holding ?_
  refine wpAny_bind (findM (s := { s with toks := s.toks + mkDraws k }) hu hkey ho hd he his hn ?_ ?_)
  · intro _
    have hnot : k ∉ xs.map (·.1) := by
      intro hm
      obtain ⟨x, hx, rfl⟩ := List.mem_map.mp hm
      obtain ⟨j, hj⟩ := List.mem_iff_getElem?.mp hx
      exact hno j x.2 hj
    refine wpAny_bind (wpAny_rule (wpAny_updateDictKeys (hz := by have e := sizeM he; omega) (s := { s with toks := s.toks + mkDraws k }) ho hd (hQ _ ⟨_, _, ep + 1, Heap.get?_update_self _ ho (Obj.isFreed_of_dict (Obj.data_mapDictKeys hd _)),
      hc.mapDictKeys _, Obj.data_mapDictKeys hd _, ?_, ?_, ?_⟩ (Heap.SameBut.update ..))))
    · simp [he, entryM]
    · intro x hx
      rcases List.mem_append.mp hx with hx | hx
      · exact mkIs.keeps ho hd (Heap.SameBut.update ..) (his x hx)
      · simp only [List.mem_singleton] at hx
        subst hx
        exact mkIs.keeps ho hd (Heap.SameBut.update ..) hkey
    · rw [List.map_append, List.nodup_append]
      refine ⟨hn, by simp, ?_⟩
      intro x hx y hy
      simp only [List.map_cons, List.map_nil, List.mem_singleton] at hy
      subst hy
      exact fun e => hnot (e ▸ hx)
  · intro j p hj
    exact absurd hj (hno j p)
theorem setItemM {d : Addr} {key v : Value} {xs : List (MK × Value × Value)} {k : MK} {Q : Unit → Shared → Prop} (hu : A.units + 1 < cLine) (hkey : mkIs prog w s.heap k key) (hm : DictM prog w s.heap d xs)
    (hno : ∀ (j : Nat) (p : Value × Value), xs[j]? ≠ some (k, p)) (hQ : ∀ h', DictM prog w h' d (xs ++ [(k, key, v)]) → Heap.SameBut d s.heap h' → Q () { s with heap := h', toks := s.toks + mkDraws k })
    (hsz : xs.length ≤ sizeLine) : wpAny (model prog w) A (setItem (.ref d) key v) Q E s := by
  unfold setItem
  try with_reducible refine wpAny_holding ?_
  refine wpAny_bind (wpAny_sequenceKey hm.typeIs (by decide) ?_)
  refine wpAny_bind (wpAny_callSpecial?_slot (name := Str.ofString "__setitem__") hm.typeIs slot_dict_setitem
    (wpAny_call_entry slot_dict_setitem hm.typeIs entry_dict_setitem ?_ (args_dict_setitem _ _ _)))
  show wpAny _ _ (Builtin.Dict.notOrdered "__setitem__" ⟨[.ref d, key, v], []⟩ >>= _) _ _ s
  refine wpAny_bind (wpAny_notOrdered_dict hm.typeIs ?_)
  show wpAny _ _ (dictSet d key v >>= _) _ _ s
  exact wpAny_bind (dictSetM (A := A.in1) hu hkey hm hno (fun h' hm' hs' => wpAny_pure ⟨.none, rfl, wpAny_pure (hQ h' hm' hs')⟩) hsz)
end

/-! ### .. over the layer -/
def relM (p : MK × V × V) (q : MK × Value × Value) : Prop := p.1 = q.1 ∧ RelV p.2.1 q.2.1 ∧ RelV p.2.2 q.2.2
def rawM (P : Program) (w : World) (a : Addr) (kvs : List (MK × V × V)) : Heap → Prop := fun h =>
  (a == sysModules) = false ∧ kvs.length ≤ sizeLine ∧ ∃ xs, Paired relM kvs xs ∧ ∃ o es ep, h.get? a = some o ∧ o.ExactDict ∧ o.data = .dict es ep ∧ es.toList = xs.map (entryM P w) ∧ (xs.map (·.1)).Nodup
/-- a dict whose keys are texts and tuples: logical key, key, value -/
def MixO (P : Program) (w : World) (a : Addr) (kvs : List (MK × V × V)) : HO := .ext (rawM P w a kvs)
def KeyM (H : Hp) : MK → V → Prop
  | .t x, v => v = .str x
  | .u ks, v => ∃ b, v = .ref b ∧ H b = some (.tup (ks.map kV))
def KeysM (H : Hp) (kvs : List (MK × V × V)) : Prop := ∀ p ∈ kvs, KeyM H p.1 p.2.1
theorem rawM.stay {P : Program} {w : World} {a : Addr} {kvs : List (MK × V × V)} (h1 h2 : Heap) (r : rawM P w a kvs h1) (k : ∀ o, h1.get? a = some o → h2.get? a = some o) : rawM P w a kvs h2 := by
  obtain ⟨x, y, xs, p, o, es, ep, e, c⟩ := r
  exact ⟨x, y, xs, p, o, es, ep, k o e, c⟩
theorem mix_ok {P : Program} {w : World} {H : Hp} {h : Heap} {a : Addr} {kvs : List (MK × V × V)} (r : rawM P w a kvs h) : ObjOk P w H h a (MixO P w a kvs) := by
  obtain ⟨_, _, _, _, o, _, _, e, _⟩ := id r
  exact ⟨r, ⟨o, e⟩, rawM.stay⟩
theorem KeyM.is {P : Program} {w : World} {H : Hp} {h : Heap} {u : Value} (ok : HOk P w H h) : ∀ {k : MK} {v : V}, KeyM H k v → RelV v u → mkIs P w h k u
  | .t x, v, e, r => by
    cases (show v = .str x from e)
    exact r
  | .u ks, v, ⟨b, e, hb⟩, r => by
    subst e
    cases (show u = Value.ref b from r)
    exact ⟨b, rfl, key_of ok hb⟩
theorem mix_rd {P : Program} {w : World} {H : Hp} {h : Heap} {a : Addr} {kvs : List (MK × V × V)} (ok : HOk P w H h) (e : H a = some (MixO P w a kvs)) (hk : KeysM H kvs) :
    (a == sysModules) = false ∧ kvs.length ≤ sizeLine ∧ ∃ xs, Paired relM kvs xs ∧ DictM P w h a xs := by
  obtain ⟨⟨x, y, xs, p, o, es, ep, e, c1, c2, c3, c4⟩, _⟩ := (show ObjOk P w H h a (MixO P w a kvs) from ok a _ e)
  refine ⟨x, y, xs, p, o, es, ep, e, c1, c2, c3, ?_, c4⟩
  have all : ∀ {l : List (MK × V × V)} {m : List (MK × Value × Value)}, Paired relM l m → (∀ q ∈ l, KeyM H q.1 q.2.1) → ∀ z ∈ m, mkIs P w h z.1 z.2.1 := by
    intro l m q
    induction q with
    | nil => intro _ z hz; exact nomatch hz
    | @cons a b as bs hq t ih =>
      intro hl z hz
      rcases List.mem_cons.mp hz with e | hz
      · subst e
        rw [← hq.1]
        exact KeyM.is ok (hl a List.mem_cons_self) hq.2.1
      · exact ih (fun q hq => hl q (List.mem_cons_of_mem _ hq)) z hz
  exact all p hk
theorem relM.get : ∀ {kvs : List (MK × V × V)} {xs : List (MK × Value × Value)} {p : MK × V × V}, Paired relM kvs xs → p ∈ kvs → ∃ (j : Nat) (q : MK × Value × Value), xs[j]? = some q ∧ relM p q
  | _, _, _, .nil, h => nomatch h
  | _, _, p, .cons r t, h => by
    rcases List.mem_cons.mp h with e | h
    · subst e
      exact ⟨0, _, rfl, r⟩
    · obtain ⟨j, q, e, r⟩ := relM.get t h
      exact ⟨j + 1, q, e, r⟩
theorem relM.keys : ∀ {kvs : List (MK × V × V)} {xs : List (MK × Value × Value)}, Paired relM kvs xs → kvs.map (·.1) = xs.map (·.1)
  | _, _, .nil => rfl
  | _, _, .cons r t => by rw [List.map_cons, List.map_cons, relM.keys t, r.1]
/-- the dict at a, told as one with keys of both kinds -/
def MixAt (P : Program) (w : World) (H : Hp) (a : Addr) (kvs : List (MK × V × V)) : Prop :=
  H a = some (MixO P w a kvs) ∨ ∃ k0 : List (Str × V), H a = some (.dK (k0.map fun p => (Sum.inr p.1, p.2))) ∧ kvs = k0.map fun p => (MK.t p.1, V.str p.1, p.2)
theorem dk_m {P : Program} {w : World} {h : Heap} {k0 : List (Str × V)} : ∀ {vs : List (Key × Value)} {l : List DictEntry}, KV (k0.map fun p => (Sum.inr p.1, p.2)) vs → Pairs (mixKind P w) l vs → (∀ e ∈ l, ∃ k, (mixKind P w).is k e.key = true ∧ e.hash = (mixKind P w).hash k) →
    ∃ xs, Paired relM (k0.map fun p => (MK.t p.1, V.str p.1, p.2)) xs ∧ l = xs.map (entryM P w) ∧ ∀ x ∈ xs, mkIs P w h x.1 x.2.1 := by
  induction k0 with
  | nil =>
    intro vs l r q hk
    cases r
    cases q
    exact ⟨[], .nil, rfl, fun _ z => nomatch z⟩
  | cons p k0 ih =>
    intro vs l r q hk
    rw [List.map_cons] at r
    cases r with
    | @cons _ q _ qs r t =>
    cases q with
    | @cons e _ es _ h1 h2 h3 =>
    obtain ⟨xs, a1, a2, a3⟩ := ih t h3 fun e he => hk e (List.mem_cons_of_mem _ he)
    obtain ⟨r1, r2⟩ := r
    have r1' : (Sum.inr p.1 : Key) = q.1 := r1
    rw [← r1'] at h1
    obtain ⟨k, hk1, hk2⟩ := hk e List.mem_cons_self
    have ek := (mixKind P w).inj _ _ _ hk1 h1
    subst ek
    obtain ⟨tk, et⟩ : ∃ t, e.key = Value.str p.1 t := by
      rcases keyIs_shape (show keyIs (Sum.inr p.1) e.key = true from h1) with ⟨i, t, z, _⟩ | ⟨x, t, z, z2⟩
      · cases z
      · cases z
        exact ⟨t, z2⟩
    refine ⟨(MK.t p.1, e.key, e.val) :: xs, .cons ⟨rfl, ⟨tk, et⟩, ?_⟩ a1, ?_, fun x hx => ?_⟩
    · show RelV p.2 e.val
      rw [h2]
      exact r2
    · rw [List.map_cons, ← a2]
      congr 1
      obtain ⟨eh, ek, ev⟩ := e
      show (⟨eh, ek, ev⟩ : DictEntry) = ⟨hashStr w p.1, ek, ev⟩
      have : eh = hashStr w p.1 := hk2
      rw [this]
    · rcases List.mem_cons.mp hx with z | z
      · subst z
        exact ⟨tk, et⟩
      · exact a3 x z
theorem mixAt_rd {P : Program} {w : World} {H : Hp} {h : Heap} {a : Addr} {kvs : List (MK × V × V)} (ok : HOk P w H h) (e : MixAt P w H a kvs) (hk : KeysM H kvs) :
    (a == sysModules) = false ∧ kvs.length ≤ sizeLine ∧ ∃ xs, Paired relM kvs xs ∧ DictM P w h a xs := by
  rcases e with e | ⟨k0, e, rfl⟩
  · exact mix_rd ok e hk
  · obtain ⟨z, hd, vs, rel, o, es, ep, h1, h2, h3, h4, h5, h6⟩ := dk_of ok e
    obtain ⟨xs, a1, a2, a3⟩ := dk_m (P := P) (w := w) (h := h) (l := es.toList) rel h5 fun e he => h4 e (Array.mem_toList_iff.mp he)
    refine ⟨hd, by rw [List.length_map] at z ⊢; exact z, xs, a1, o, es, ep, h1, h2, h3, a2, a3, ?_⟩
    rw [← relM.keys a1]
    have e2 : (k0.map fun p => ((Sum.inr p.1 : Key), p.2)).map (·.1) = vs.map (·.1) := rel.keys
    rw [← e2] at h6
    rw [List.map_map] at h6 ⊢
    have key : ∀ l : List (Str × V), (l.map ((fun x : Key × V => x.1) ∘ fun p => ((Sum.inr p.1 : Key), p.2))).Nodup → (l.map ((fun x : MK × V × V => x.1) ∘ fun p => (MK.t p.1, V.str p.1, p.2))).Nodup := by
      intro l
      induction l with
      | nil => intro _; exact List.nodup_nil
      | cons p r ih =>
        intro hn
        rw [List.map_cons, List.nodup_cons] at hn ⊢
        refine ⟨fun hm => hn.1 ?_, ih hn.2⟩
        obtain ⟨q, hq, eq⟩ := List.mem_map.mp hm
        have eq' : MK.t q.1 = MK.t p.1 := eq
        injection eq' with eq'
        exact List.mem_map.mpr ⟨q, hq, by show (Sum.inr q.1 : Key) = Sum.inr p.1; rw [eq']⟩
    exact key k0 h6
theorem MixAt.mut {P : Program} {w : World} {H : Hp} {a : Addr} {kvs : List (MK × V × V)} (e : MixAt P w H a kvs) : Mut (H a) := by
  rcases e with e | ⟨k0, e, _⟩
  · rw [e]; exact True.intro
  · rw [e]; exact True.intro
/-- d[k], there, of a dict with keys of both kinds -/
def tMGet (P : Program) (w : World) (td ty : TE) : TE := fun σ H Q => td σ H fun x H1 => ty σ H1 fun y H2 => ∃ a kvs k v, x = .ref a ∧ H2 a = some (MixO P w a kvs) ∧ KeysM H2 kvs ∧ KeyM H2 k y ∧ (∃ ky, (k, ky, v) ∈ kvs) ∧ Q v H2
/-- d[k] = v, a new key -/
def sMPut (P : Program) (w : World) (td ty tv : TE) : TS := fun D σ H => tv σ H fun v H1 => td σ H1 fun x H2 => ty σ H2 fun y H3 => ∃ a kvs k, x = .ref a ∧ MixAt P w H3 a kvs ∧ KeysM H3 kvs ∧ KeyM H3 k y ∧ (∀ p ∈ kvs, p.1 ≠ k) ∧ kvs.length < sizeLine ∧
  D.nx σ (upd H3 a (MixO P w a (kvs ++ [(k, y, v)])))
section
variable {X : Cx} {o i e value : Expr} {pos pos' tpos : Pos} {td ty tv : TE}
theorem pe_mget (hu : X.A.units + 1 < cLine) (ho : PE X o td) (hi : PE X i ty) (hs : NoSl i) : PE X (.Subscript o i pos) (tMGet X.prog X.w td ty) := by
  refine ⟨fun pins s σ H Q I h => ?_⟩
  refine subD_of PySem.F.slot_dict_getitem.lookup hs (thn (ho.run pins s σ H _ I h) fun u s1 ⟨x, H1, I1, rx, q1⟩ => thn (hi.run pins s1 σ H1 _ I1 q1) fun iv s2 ⟨y, H2, I2, ry, a, kvs, k, v, ex, hm, hk, hy, ⟨ky, hin⟩, q2⟩ => ?_)
  subst ex
  obtain rfl : u = Value.ref a := rx
  obtain ⟨_, _, xs, rel, dd⟩ := mix_rd I2.hok hm hk
  obtain ⟨j, ⟨k', key, val⟩, hj, r1, r2, r3⟩ := relM.get rel hin
  cases (show k = k' from r1)
  exact ⟨dd.typeIs, getItemM hu (KeyM.is I2.hok hy ry) dd hj ⟨v, H2, I2.tok _, r3, q2⟩⟩
theorem ps_mput (hu : X.A.units + 1 < cLine) (ho : PE X o td) (hi : PE X i ty) (hv : PE X value tv) (hs : swapsWith value (some (.Subscript o i pos')) pos.line X.env = pure false) :
    PS X (.Assign [.Subscript o i pos'] value pos) (sMPut X.prog X.w td ty tv) := by
  refine ⟨fun pins s σ H D I h => ?_⟩
  refine wpAny_Assign_Subscript (thn (hv.run pins s σ H _ I h) fun r s1 ⟨v, H1, I1, rv, q1⟩ => thn (ho.run pins s1 σ H1 _ I1 q1) fun u s2 ⟨x, H2, I2, rx, q2⟩ => thn (hi.run pins s2 σ H2 _ I2 q2) fun iv s3 ⟨y, H3, I3, ry, a, kvs, k, ex, hm, hk, hy, hne, hl, q3⟩ => ?_) hs
  subst ex
  obtain rfl : u = Value.ref a := rx
  obtain ⟨hd, hz, xs, rel, dd⟩ := mixAt_rd I3.hok hm hk
  have hlen : kvs.length = xs.length := Paired.length rel
  refine setItemM hu (KeyM.is I3.hok hy ry) dd (fun j p hj => ?_) (fun h' dd' hs => ⟨σ, _, ?_, q3⟩) (by omega)
  · have hx : (xs.map (·.1))[j]? = some k := by rw [List.getElem?_map, hj]; rfl
    rw [← relM.keys rel] at hx
    rw [List.getElem?_map] at hx
    obtain ⟨p', hp', ep⟩ := Option.map_eq_some_iff.mp hx
    exact hne p' (List.mem_of_getElem? hp') ep
  · obtain ⟨q, es, ep, hq, c1, c2, c3, _, c5⟩ := dd'
    refine d_write I3 hm.mut hs ⟨q, hq⟩ (mix_ok ⟨hd, ?_, xs ++ [(k, iv, r)], Paired.snoc rel ⟨rfl, ry, rv⟩, q, es, ep, hq, c1, c2, c3, c5⟩)
    rw [List.length_append, List.length_cons, List.length_nil]
    omega
end
theorem pe_mgetK {X : Cx} (P : Program) (w : World) (hP : X.prog = P) (hw : X.w = w) {o i : Expr} {pos : Pos} {td ty : TE} (hu : X.A.units + 1 < cLine) (ho : PE X o td) (hi : PE X i ty) (hs : NoSl i) : PE X (.Subscript o i pos) (tMGet P w td ty) := by
  subst hP hw
  exact pe_mget hu ho hi hs
theorem ps_mputK {X : Cx} (P : Program) (w : World) (hP : X.prog = P) (hw : X.w = w) {o i value : Expr} {pos pos' : Pos} {td ty tv : TE} (hu : X.A.units + 1 < cLine) (ho : PE X o td) (hi : PE X i ty) (hv : PE X value tv) (hs : swapsWith value (some (.Subscript o i pos')) pos.line X.env = pure false) :
    PS X (.Assign [.Subscript o i pos'] value pos) (sMPut P w td ty tv) := by
  subst hP hw
  exact ps_mput hu ho hi hv hs

/-! ### xs[a:c] = ys, ys a list of its own -/
def sSlPut (to : TE) (tl th : TO) (tv : TE) : TS := fun D σ H => tv σ H fun v H1 => to σ H1 fun x H2 => tl σ H2 fun l H3 => th σ H3 fun u H4 => ∃ (o b : Addr) (xs ys : List V) (a c : Int), v = .ref b ∧ x = .ref o ∧ l = some a ∧ u = some c ∧ H4 o = some (.lst xs) ∧ H4 b = some (.lst ys) ∧ o ≠ b ∧ 0 ≤ a ∧ a ≤ c ∧ c ≤ xs.length ∧ xs.length + ys.length ≤ sizeLine ∧
  D.nx σ (upd H4 o (.lst (xs.take a.toNat ++ ys ++ xs.drop c.toNat)))
theorem ps_slput {X : Cx} {o value : Expr} {lo hi : Option Expr} {p2 pos' pos : Pos} {to tv : TE} {tl th : TO} (ho : PE X o to) (hl : PO X lo tl) (hh : PO X hi th) (hv : PE X value tv) (hs : swapsWith value (some (.Subscript o (.Slice lo hi none p2) pos')) pos.line X.env = pure false) :
    PS X (.Assign [.Subscript o (.Slice lo hi none p2) pos'] value pos) (sSlPut to tl th tv) := by
  refine ⟨fun pins s σ H D I h => ?_⟩
  refine wpAny_Assign_Subscript (thn (hv.run pins s σ H _ I h) fun v s1 ⟨y, H1, I1, ry, q1⟩ => thn (ho.run pins s1 σ H1 _ I1 q1) fun x s2 ⟨z, H2, I2, rz, q2⟩ => ?_) hs
  refine wpAny_Slice (thn (hl.run pins s2 σ H2 _ I2 q2) fun vl s3 ⟨l, H3, I3, pl, q3⟩ => thn (hh.run pins s3 σ H3 _ I3 q3) fun vu s4 ⟨u, H4, I4, pu, o', b, xs, ys, a, c, ey, ez, el, eu, ho', hb, ne, h0, h1, h2, h3, q4⟩ => ?_)
  rw [evalPart_none]
  refine wpAny_pure ?_
  subst ey ez el eu
  cases ry
  cases rz
  have I5 : Inv X pins σ H4 { s4 with heap := s4.heap.push { cls := .type "slice", data := .fields #[vl, vu, .none] } } := I4.kept (t' := s4.toks) fun b ob q => Heap.get?_push_of_some _ q
  have ra : RelV (.int a) vl := by
    cases pl
    exact ⟨_, rfl⟩
  have rc : RelV (.int c) vu := by
    cases pu
    exact ⟨_, rfl⟩
  exact set_slice I5 ho' hb ne (Heap.IsSliceOf.new ..) ra rc h0 h1 h2 h3 fun s' I' => ⟨σ, _, I', q4⟩

def top (i : Nat) : Stmt := PySem.Challenge.pw_mastword_k25_sleep_and_fog.main.body.getD i (.Pass ⟨0, 0, 0, 0⟩)
abbrev s_p_Phrasebook_init : Stmt := inClass (top 48) 0
theorem sc_p_Phrasebook_init : FnScope ["self"] ["self"] (defScope s_p_Phrasebook_init) := ⟨rfl, rfl, rfl, by decide +kernel, rfl, by decide +kernel, by decide +kernel⟩
abbrev s_p_check_mast : Stmt := top 56
theorem sc_p_check_mast : FnScope ["masts", "mast"] ["masts", "mast"] (defScope s_p_check_mast) := ⟨rfl, rfl, rfl, by decide +kernel, rfl, by decide +kernel, by decide +kernel⟩
abbrev s_p_queue_of : Stmt := top 71
theorem sc_p_queue_of : FnScope ["way"] ["way"] (defScope s_p_queue_of) := ⟨rfl, rfl, rfl, by decide +kernel, rfl, by decide +kernel, by decide +kernel⟩
abbrev s_p_book_of : Stmt := top 72
theorem sc_p_book_of : FnScope ["way", "mast"] ["way", "mast"] (defScope s_p_book_of) := ⟨rfl, rfl, rfl, by decide +kernel, rfl, by decide +kernel, by decide +kernel⟩
abbrev s_p_new_rows : Stmt := top 73
theorem sc_p_new_rows : FnScope ["masts", "rows", "way", "mast"] ["masts"] (defScope s_p_new_rows) := ⟨rfl, rfl, rfl, by decide +kernel, rfl, by decide +kernel, by decide +kernel⟩
abbrev s_p_State_init : Stmt := inClass (top 74) 0
theorem sc_p_State_init : FnScope ["self", "masts"] ["self", "masts"] (defScope s_p_State_init) := ⟨rfl, rfl, rfl, by decide +kernel, rfl, by decide +kernel, by decide +kernel⟩
abbrev s_p_State_make : Stmt := inClass (top 74) 2
theorem sc_p_State_make : FnScope ["self", "changes", "where", "at", "taken", "put"] ["self", "changes"] (defScope s_p_State_make) := ⟨rfl, rfl, rfl, by decide +kernel, rfl, by decide +kernel, by decide +kernel⟩
abbrev s_p_State_swap : Stmt := inClass (top 74) 4
theorem sc_p_State_swap : FnScope ["self", "where", "at", "taken", "put", "row"] ["self", "where", "at", "taken", "put"] (defScope s_p_State_swap) := ⟨rfl, rfl, rfl, by decide +kernel, rfl, by decide +kernel, by decide +kernel⟩
abbrev s_p_State_size : Stmt := inClass (top 74) 6
theorem sc_p_State_size : FnScope ["self"] ["self"] (defScope s_p_State_size) := ⟨rfl, rfl, rfl, by decide +kernel, rfl, by decide +kernel, by decide +kernel⟩
abbrev s_p_State_check_mast : Stmt := inClass (top 74) 7
theorem sc_p_State_check_mast : FnScope ["self", "mast"] ["self", "mast"] (defScope s_p_State_check_mast) := ⟨rfl, rfl, rfl, by decide +kernel, rfl, by decide +kernel, by decide +kernel⟩
abbrev s_p_State_check_gap : Stmt := inClass (top 74) 8
theorem sc_p_State_check_gap : FnScope ["self", "gap"] ["self", "gap"] (defScope s_p_State_check_gap) := ⟨rfl, rfl, rfl, by decide +kernel, rfl, by decide +kernel, by decide +kernel⟩
abbrev s_p_State_marked : Stmt := inClass (top 74) 12
theorem sc_p_State_marked : FnScope ["self", "where", "number", "so"] ["self", "where"] (defScope s_p_State_marked) := ⟨rfl, rfl, rfl, by decide +kernel, rfl, by decide +kernel, by decide +kernel⟩
abbrev s_p_Line_init : Stmt := inClass (top 77) 0
theorem sc_p_Line_init : FnScope ["self", "masts"] ["self", "masts"] (defScope s_p_Line_init) := ⟨rfl, rfl, rfl, by decide +kernel, rfl, by decide +kernel, by decide +kernel⟩
abbrev s_p_Line_do : Stmt := inClass (top 77) 1
theorem sc_p_Line_do : FnScope ["self", "deed", "changes"] ["self", "deed", "changes"] (defScope s_p_Line_do) := ⟨rfl, rfl, rfl, by decide +kernel, rfl, by decide +kernel, by decide +kernel⟩
abbrev s_p_Line_doze : Stmt := inClass (top 77) 13
theorem sc_p_Line_doze : FnScope ["self", "mast"] ["self", "mast"] (defScope s_p_Line_doze) := ⟨rfl, rfl, rfl, by decide +kernel, rfl, by decide +kernel, by decide +kernel⟩
abbrev s_p_Line_wake : Stmt := inClass (top 77) 14
theorem sc_p_Line_wake : FnScope ["self", "mast"] ["self", "mast"] (defScope s_p_Line_wake) := ⟨rfl, rfl, rfl, by decide +kernel, rfl, by decide +kernel, by decide +kernel⟩
abbrev s_p_Line_fog : Stmt := inClass (top 77) 15
theorem sc_p_Line_fog : FnScope ["self", "gap"] ["self", "gap"] (defScope s_p_Line_fog) := ⟨rfl, rfl, rfl, by decide +kernel, rfl, by decide +kernel, by decide +kernel⟩
abbrev s_p_Line_lift : Stmt := inClass (top 77) 16
theorem sc_p_Line_lift : FnScope ["self", "gap"] ["self", "gap"] (defScope s_p_Line_lift) := ⟨rfl, rfl, rfl, by decide +kernel, rfl, by decide +kernel, by decide +kernel⟩
abbrev s_p_Line_asleep : Stmt := inClass (top 77) 29
theorem sc_p_Line_asleep : FnScope ["self"] ["self"] (defScope s_p_Line_asleep) := ⟨rfl, rfl, rfl, by decide +kernel, rfl, by decide +kernel, by decide +kernel⟩
abbrev s_p_Line_fogs : Stmt := inClass (top 77) 30
theorem sc_p_Line_fogs : FnScope ["self"] ["self"] (defScope s_p_Line_fogs) := ⟨rfl, rfl, rfl, by decide +kernel, rfl, by decide +kernel, by decide +kernel⟩
abbrev s_l_cell : Stmt := top 79
theorem sc_l_cell : FnScope ["_law_script", "_law_at"] ["_law_script", "_law_at"] (defScope s_l_cell) := ⟨rfl, rfl, rfl, by decide +kernel, rfl, by decide +kernel, by decide +kernel⟩
abbrev s_l_row : Stmt := top 80
theorem sc_l_row : FnScope ["_law_cell_here", "_law_many", "_law_size", "_law_row_here", "_law_rest", "_law_k", "_law_seed", "_law_mixed"] ["_law_cell_here", "_law_many", "_law_size"] (defScope s_l_row) := ⟨rfl, rfl, rfl, by decide +kernel, rfl, by decide +kernel, by decide +kernel⟩
abbrev s_l_like : Stmt := top 81
theorem sc_l_like : FnScope ["_law_found", "_law_due", "_law_k"] ["_law_found", "_law_due"] (defScope s_l_like) := ⟨rfl, rfl, rfl, by decide +kernel, rfl, by decide +kernel, by decide +kernel⟩
abbrev s_l_sky_deed : Stmt := top 82
theorem sc_l_sky_deed : FnScope ["_law_state", "_law_deed", "_law_key", "_law_most", "_law_there"] ["_law_state", "_law_deed"] (defScope s_l_sky_deed) := ⟨rfl, rfl, rfl, by decide +kernel, rfl, by decide +kernel, by decide +kernel⟩
abbrev s_l_kind : Stmt := top 83
theorem sc_l_kind : FnScope ["_law_e", "_law_kinds", "_law_names"] ["_law_e"] (defScope s_l_kind) := ⟨rfl, rfl, rfl, by decide +kernel, rfl, by decide +kernel, by decide +kernel⟩
abbrev s_l_do : Stmt := top 84
theorem sc_l_do : FnScope ["_law_line", "_law_deed"] ["_law_line", "_law_deed"] (defScope s_l_do) := ⟨rfl, rfl, rfl, by decide +kernel, rfl, by decide +kernel, by decide +kernel⟩
abbrev s_l_tried : Stmt := top 86
theorem sc_l_tried : FnScope ["_law_line", "_law_deed", "_law_told", "_law_e"] ["_law_line", "_law_deed"] (defScope s_l_tried) := ⟨rfl, rfl, rfl, by decide +kernel, rfl, by decide +kernel, by decide +kernel⟩
abbrev s_law : Stmt := top 87
theorem sc_law : FnScope ["_law_script", "_law_masts", "_law_line", "_law_state", "_law_at", "_law_nums", "_law_spot", "_law_deed", "_law_due", "_law_found"] ["_law_script"] (defScope s_law) := ⟨rfl, rfl, rfl, by decide +kernel, rfl, by decide +kernel, by decide +kernel⟩
def faL : List He.Fa := ([.glo "law", .glo "Phrasebook", .cls "Phrasebook", .noat "Phrasebook" "word_by_place", .noat "Phrasebook" "place_by_word", .mkr "Phrasebook", .glo "State", .cls "State", .noat "State" "rows", .noat "State" "phrasebook", .mkr "State", .glo "Line", .cls "Line", .noat "Line" "state", .noat "Line" "past", .noat "Line" "future", .mkr "Line", .meth "Phrasebook" "__init__", .glo "check_mast", .glo "queue_of", .glo "book_of", .glo "new_rows", .meth "State" "__init__", .meth "State" "make", .meth "State" "swap", .meth "State" "size", .meth "State" "check_mast", .meth "State" "check_gap", .meth "State" "marked", .meth "Line" "__init__"] : List He.Fa) ++ ([.meth "Line" "do", .meth "Line" "doze", .meth "Line" "wake", .meth "Line" "fog", .meth "Line" "lift", .meth "Line" "asleep", .meth "Line" "fogs", .glo "_law_cell", .glo "_law_row", .glo "_law_like", .glo "_law_sky_deed", .glo "_law_kind", .glo "_law_do", .glo "_law_tried", .int "REST" 0, .str "UP" "up", .str "DOWN" "down", .int "FEWEST_MASTS" 2, .int "MOST_MASTS" 12, .str "WAY" "way", .str "ARMS" "arms", .str "SLEEP" "sleep", .str "FOG" "fog", .str "WORDS" "words", .free "all", .free "bool", .free "enumerate", .free "int", .free "isinstance", .free "len"] : List He.Fa) ++ ([.free "list", .free "max", .free "min", .free "range", .free "sorted", .free "str", .free "tuple"] : List He.Fa)
def factsL : FactsB := ⟨faL, (["MastError", "BadCount", "NoMast", "BadWay", "BadSign", "Full", "NothingWaits", "NotReady", "NotRaising", "BadSlip", "Asleep", "Awake", "Fogged", "Clear", "Busy", "NoRow", "NoBook", "Lost", "Legible", "NothingLeft", "BadPlace", "BadWord", "Taken", "Known", "NoWord"] : List Str), (["BadWay", "BadSign", "Full", "NothingWaits", "NoMast", "NotReady", "NotRaising", "BadSlip", "Asleep", "Awake", "Fogged", "Clear", "Busy", "NoRow", "NoBook", "Lost", "Legible", "NothingLeft", "BadPlace", "BadWord", "Taken", "Known", "NoWord"] : List Str), [("check_mast_ways", "check_mast")]⟩
def fnL : List He.DefD := [⟨("Phrasebook", some "__init__"), "__init__", "Phrasebook.__init__", defArgs s_p_Phrasebook_init, defBody s_p_Phrasebook_init, defScope s_p_Phrasebook_init, [], []⟩,
  ⟨("check_mast", none), "check_mast", "check_mast", defArgs s_p_check_mast, defBody s_p_check_mast, defScope s_p_check_mast, [], []⟩,
  ⟨("queue_of", none), "queue_of", "queue_of", defArgs s_p_queue_of, defBody s_p_queue_of, defScope s_p_queue_of, [], []⟩,
  ⟨("book_of", none), "book_of", "book_of", defArgs s_p_book_of, defBody s_p_book_of, defScope s_p_book_of, [], []⟩,
  ⟨("new_rows", none), "new_rows", "new_rows", defArgs s_p_new_rows, defBody s_p_new_rows, defScope s_p_new_rows, [], []⟩,
  ⟨("State", some "__init__"), "__init__", "State.__init__", defArgs s_p_State_init, defBody s_p_State_init, defScope s_p_State_init, [], []⟩,
  ⟨("State", some "make"), "make", "State.make", defArgs s_p_State_make, defBody s_p_State_make, defScope s_p_State_make, [], []⟩,
  ⟨("State", some "swap"), "swap", "State.swap", defArgs s_p_State_swap, defBody s_p_State_swap, defScope s_p_State_swap, [], []⟩,
  ⟨("State", some "size"), "size", "State.size", defArgs s_p_State_size, defBody s_p_State_size, defScope s_p_State_size, [], []⟩,
  ⟨("State", some "check_mast"), "check_mast", "State.check_mast", defArgs s_p_State_check_mast, defBody s_p_State_check_mast, defScope s_p_State_check_mast, [], []⟩,
  ⟨("State", some "check_gap"), "check_gap", "State.check_gap", defArgs s_p_State_check_gap, defBody s_p_State_check_gap, defScope s_p_State_check_gap, [], []⟩,
  ⟨("State", some "marked"), "marked", "State.marked", defArgs s_p_State_marked, defBody s_p_State_marked, defScope s_p_State_marked, [], []⟩,
  ⟨("Line", some "__init__"), "__init__", "Line.__init__", defArgs s_p_Line_init, defBody s_p_Line_init, defScope s_p_Line_init, [], []⟩,
  ⟨("Line", some "do"), "do", "Line.do", defArgs s_p_Line_do, defBody s_p_Line_do, defScope s_p_Line_do, [], []⟩,
  ⟨("Line", some "doze"), "doze", "Line.doze", defArgs s_p_Line_doze, defBody s_p_Line_doze, defScope s_p_Line_doze, [], []⟩,
  ⟨("Line", some "wake"), "wake", "Line.wake", defArgs s_p_Line_wake, defBody s_p_Line_wake, defScope s_p_Line_wake, [], []⟩,
  ⟨("Line", some "fog"), "fog", "Line.fog", defArgs s_p_Line_fog, defBody s_p_Line_fog, defScope s_p_Line_fog, [], []⟩,
  ⟨("Line", some "lift"), "lift", "Line.lift", defArgs s_p_Line_lift, defBody s_p_Line_lift, defScope s_p_Line_lift, [], []⟩,
  ⟨("Line", some "asleep"), "asleep", "Line.asleep", defArgs s_p_Line_asleep, defBody s_p_Line_asleep, defScope s_p_Line_asleep, [], []⟩,
  ⟨("Line", some "fogs"), "fogs", "Line.fogs", defArgs s_p_Line_fogs, defBody s_p_Line_fogs, defScope s_p_Line_fogs, [], []⟩,
  ⟨("_law_cell", none), "_law_cell", "_law_cell", defArgs s_l_cell, defBody s_l_cell, defScope s_l_cell, [], []⟩,
  ⟨("_law_row", none), "_law_row", "_law_row", defArgs s_l_row, defBody s_l_row, defScope s_l_row, [], []⟩,
  ⟨("_law_like", none), "_law_like", "_law_like", defArgs s_l_like, defBody s_l_like, defScope s_l_like, [], []⟩,
  ⟨("_law_sky_deed", none), "_law_sky_deed", "_law_sky_deed", defArgs s_l_sky_deed, defBody s_l_sky_deed, defScope s_l_sky_deed, [], []⟩,
  ⟨("_law_kind", none), "_law_kind", "_law_kind", defArgs s_l_kind, defBody s_l_kind, defScope s_l_kind, [], []⟩,
  ⟨("_law_do", none), "_law_do", "_law_do", defArgs s_l_do, defBody s_l_do, defScope s_l_do, [], []⟩,
  ⟨("_law_tried", none), "_law_tried", "_law_tried", defArgs s_l_tried, defBody s_l_tried, defScope s_l_tried, [], []⟩,
  ⟨("law", none), "law", "law", defArgs s_law, defBody s_law, defScope s_law, [], []⟩]
def asL : List Addr := [3, 57, 70, 82, 94, 106, 118, 130, 142, 154, 166, 178, 190, 202, 214, 226, 238, 250, 262, 274, 286, 298, 310, 322, 334, 346, 440, 567, 751, 1076, 56, 69, 81, 93, 105, 117, 129, 141, 153, 165, 177, 189, 201, 213, 225, 237, 249, 261, 273, 285, 297, 309, 321, 333, 345, 439, 566, 750, 1075, 404, 403, 463, 462, 578, 577, 585, 584, 592, 591, 606, 605, 618, 617, 632, 631, 646, 645, 653, 652, 660, 659, 686, 685, 769, 768, 776, 775, 860, 859, 867, 866, 874, 873, 881, 880, 970, 969, 977, 976, 1087, 1086, 1094, 1093, 1099, 1098, 1106, 1105, 1113, 1112, 1120, 1119, 1134, 1133, 1141, 1140]
abbrev Txt (K : PySem.W.Frag) (mg : Str → Option Value) : Prop := TopB factsL fnL K mg
abbrev Txt.a_MastError {K : PySem.W.Frag} {mg : Str → Option Value} (T : Txt K mg) : Addr := He.ga K "MastError"
theorem Txt.g_MastError {K : PySem.W.Frag} {mg : Str → Option Value} (T : Txt K mg) : mg "MastError" = some (.ref (T.a_MastError)) := (TopB.exc T 0 rfl : ExcT K mg "MastError").g
theorem Txt.x_MastError {K : PySem.W.Frag} {mg : Str → Option Value} (T : Txt K mg) : PySem.W.excIn K (T.a_MastError) He.veBase "ValueError.__new__" = true := (TopB.exc T 0 rfl : ExcT K mg "MastError").x
theorem Txt.k_MastError {K : PySem.W.Frag} {mg : Str → Option Value} (T : Txt K mg) : PySem.W.keepIn K (.ref (T.a_MastError)) = true := (TopB.exc T 0 rfl : ExcT K mg "MastError").k
theorem Txt.b_MastError {K : PySem.W.Frag} {mg : Str → Option Value} (T : Txt K mg) : PySem.W.subIn K (.ref (T.a_MastError)) (.type "BaseException") = some true := (TopB.exc T 0 rfl : ExcT K mg "MastError").b
theorem Txt.t_MastError {K : PySem.W.Frag} {mg : Str → Option Value} (T : Txt K mg) : PySem.W.typeIn K (.ref (T.a_MastError)) = some (.type "type") := (TopB.exc T 0 rfl : ExcT K mg "MastError").t
theorem Txt.i_MastError {K : PySem.W.Frag} {mg : Str → Option Value} (T : Txt K mg) : PySem.W.isClsIn K (T.a_MastError) = true := (TopB.exc T 0 rfl : ExcT K mg "MastError").i
theorem Txt.h_MastError {K : PySem.W.Frag} {mg : Str → Option Value} (T : Txt K mg) : PySem.W.hasDictIn K (T.a_MastError) = true := (TopB.exc T 0 rfl : ExcT K mg "MastError").h
theorem Txt.ga_MastError {K : PySem.W.Frag} {mg : Str → Option Value} (T : Txt K mg) : PySem.W.findIn K (.ref (T.a_MastError)) "__getattribute__" = some (some (.builtin "BaseException.__getattribute__")) := (TopB.exc T 0 rfl : ExcT K mg "MastError").ga
theorem Txt.gg_MastError {K : PySem.W.Frag} {mg : Str → Option Value} (T : Txt K mg) : PySem.W.findIn K (.ref (T.a_MastError)) "__getattr__" = some none := (TopB.exc T 0 rfl : ExcT K mg "MastError").gg
theorem Txt.cl_MastError {K : PySem.W.Frag} {mg : Str → Option Value} (T : Txt K mg) : PySem.W.findIn K (.ref (T.a_MastError)) "__class__" = some (some (.builtin "object.__class__")) := (TopB.exc T 0 rfl : ExcT K mg "MastError").cl
theorem Txt.mo_MastError {K : PySem.W.Frag} {mg : Str → Option Value} (T : Txt K mg) : PySem.W.mroIn K (T.a_MastError) (.type "object") = some true := (TopB.exc T 0 rfl : ExcT K mg "MastError").mo
abbrev Txt.a_BadCount {K : PySem.W.Frag} {mg : Str → Option Value} (T : Txt K mg) : Addr := He.ga K "BadCount"
theorem Txt.g_BadCount {K : PySem.W.Frag} {mg : Str → Option Value} (T : Txt K mg) : mg "BadCount" = some (.ref (T.a_BadCount)) := (TopB.exc T 1 rfl : ExcT K mg "BadCount").g
theorem Txt.x_BadCount {K : PySem.W.Frag} {mg : Str → Option Value} (T : Txt K mg) : PySem.W.excIn K (T.a_BadCount) He.veBase "ValueError.__new__" = true := (TopB.exc T 1 rfl : ExcT K mg "BadCount").x
theorem Txt.k_BadCount {K : PySem.W.Frag} {mg : Str → Option Value} (T : Txt K mg) : PySem.W.keepIn K (.ref (T.a_BadCount)) = true := (TopB.exc T 1 rfl : ExcT K mg "BadCount").k
theorem Txt.b_BadCount {K : PySem.W.Frag} {mg : Str → Option Value} (T : Txt K mg) : PySem.W.subIn K (.ref (T.a_BadCount)) (.type "BaseException") = some true := (TopB.exc T 1 rfl : ExcT K mg "BadCount").b
theorem Txt.t_BadCount {K : PySem.W.Frag} {mg : Str → Option Value} (T : Txt K mg) : PySem.W.typeIn K (.ref (T.a_BadCount)) = some (.type "type") := (TopB.exc T 1 rfl : ExcT K mg "BadCount").t
theorem Txt.i_BadCount {K : PySem.W.Frag} {mg : Str → Option Value} (T : Txt K mg) : PySem.W.isClsIn K (T.a_BadCount) = true := (TopB.exc T 1 rfl : ExcT K mg "BadCount").i
theorem Txt.h_BadCount {K : PySem.W.Frag} {mg : Str → Option Value} (T : Txt K mg) : PySem.W.hasDictIn K (T.a_BadCount) = true := (TopB.exc T 1 rfl : ExcT K mg "BadCount").h
theorem Txt.ga_BadCount {K : PySem.W.Frag} {mg : Str → Option Value} (T : Txt K mg) : PySem.W.findIn K (.ref (T.a_BadCount)) "__getattribute__" = some (some (.builtin "BaseException.__getattribute__")) := (TopB.exc T 1 rfl : ExcT K mg "BadCount").ga
theorem Txt.gg_BadCount {K : PySem.W.Frag} {mg : Str → Option Value} (T : Txt K mg) : PySem.W.findIn K (.ref (T.a_BadCount)) "__getattr__" = some none := (TopB.exc T 1 rfl : ExcT K mg "BadCount").gg
theorem Txt.cl_BadCount {K : PySem.W.Frag} {mg : Str → Option Value} (T : Txt K mg) : PySem.W.findIn K (.ref (T.a_BadCount)) "__class__" = some (some (.builtin "object.__class__")) := (TopB.exc T 1 rfl : ExcT K mg "BadCount").cl
theorem Txt.mo_BadCount {K : PySem.W.Frag} {mg : Str → Option Value} (T : Txt K mg) : PySem.W.mroIn K (T.a_BadCount) (.type "object") = some true := (TopB.exc T 1 rfl : ExcT K mg "BadCount").mo
theorem Txt.s_BadCount_MastError {K : PySem.W.Frag} {mg : Str → Option Value} (T : Txt K mg) : PySem.W.subIn K (.ref (T.a_BadCount)) (.ref (He.ga K "MastError")) = some true := (TopB.exc T 1 rfl : ExcT K mg "BadCount").s
abbrev Txt.a_NoMast {K : PySem.W.Frag} {mg : Str → Option Value} (T : Txt K mg) : Addr := He.ga K "NoMast"
theorem Txt.g_NoMast {K : PySem.W.Frag} {mg : Str → Option Value} (T : Txt K mg) : mg "NoMast" = some (.ref (T.a_NoMast)) := (TopB.exc T 2 rfl : ExcT K mg "NoMast").g
theorem Txt.x_NoMast {K : PySem.W.Frag} {mg : Str → Option Value} (T : Txt K mg) : PySem.W.excIn K (T.a_NoMast) He.veBase "ValueError.__new__" = true := (TopB.exc T 2 rfl : ExcT K mg "NoMast").x
theorem Txt.k_NoMast {K : PySem.W.Frag} {mg : Str → Option Value} (T : Txt K mg) : PySem.W.keepIn K (.ref (T.a_NoMast)) = true := (TopB.exc T 2 rfl : ExcT K mg "NoMast").k
theorem Txt.b_NoMast {K : PySem.W.Frag} {mg : Str → Option Value} (T : Txt K mg) : PySem.W.subIn K (.ref (T.a_NoMast)) (.type "BaseException") = some true := (TopB.exc T 2 rfl : ExcT K mg "NoMast").b
theorem Txt.t_NoMast {K : PySem.W.Frag} {mg : Str → Option Value} (T : Txt K mg) : PySem.W.typeIn K (.ref (T.a_NoMast)) = some (.type "type") := (TopB.exc T 2 rfl : ExcT K mg "NoMast").t
theorem Txt.i_NoMast {K : PySem.W.Frag} {mg : Str → Option Value} (T : Txt K mg) : PySem.W.isClsIn K (T.a_NoMast) = true := (TopB.exc T 2 rfl : ExcT K mg "NoMast").i
theorem Txt.h_NoMast {K : PySem.W.Frag} {mg : Str → Option Value} (T : Txt K mg) : PySem.W.hasDictIn K (T.a_NoMast) = true := (TopB.exc T 2 rfl : ExcT K mg "NoMast").h
theorem Txt.ga_NoMast {K : PySem.W.Frag} {mg : Str → Option Value} (T : Txt K mg) : PySem.W.findIn K (.ref (T.a_NoMast)) "__getattribute__" = some (some (.builtin "BaseException.__getattribute__")) := (TopB.exc T 2 rfl : ExcT K mg "NoMast").ga
theorem Txt.gg_NoMast {K : PySem.W.Frag} {mg : Str → Option Value} (T : Txt K mg) : PySem.W.findIn K (.ref (T.a_NoMast)) "__getattr__" = some none := (TopB.exc T 2 rfl : ExcT K mg "NoMast").gg
theorem Txt.cl_NoMast {K : PySem.W.Frag} {mg : Str → Option Value} (T : Txt K mg) : PySem.W.findIn K (.ref (T.a_NoMast)) "__class__" = some (some (.builtin "object.__class__")) := (TopB.exc T 2 rfl : ExcT K mg "NoMast").cl
theorem Txt.mo_NoMast {K : PySem.W.Frag} {mg : Str → Option Value} (T : Txt K mg) : PySem.W.mroIn K (T.a_NoMast) (.type "object") = some true := (TopB.exc T 2 rfl : ExcT K mg "NoMast").mo
theorem Txt.s_NoMast_MastError {K : PySem.W.Frag} {mg : Str → Option Value} (T : Txt K mg) : PySem.W.subIn K (.ref (T.a_NoMast)) (.ref (He.ga K "MastError")) = some true := (TopB.exc T 2 rfl : ExcT K mg "NoMast").s
abbrev Txt.a_BadWay {K : PySem.W.Frag} {mg : Str → Option Value} (T : Txt K mg) : Addr := He.ga K "BadWay"
theorem Txt.g_BadWay {K : PySem.W.Frag} {mg : Str → Option Value} (T : Txt K mg) : mg "BadWay" = some (.ref (T.a_BadWay)) := (TopB.exc T 3 rfl : ExcT K mg "BadWay").g
theorem Txt.x_BadWay {K : PySem.W.Frag} {mg : Str → Option Value} (T : Txt K mg) : PySem.W.excIn K (T.a_BadWay) He.veBase "ValueError.__new__" = true := (TopB.exc T 3 rfl : ExcT K mg "BadWay").x
theorem Txt.k_BadWay {K : PySem.W.Frag} {mg : Str → Option Value} (T : Txt K mg) : PySem.W.keepIn K (.ref (T.a_BadWay)) = true := (TopB.exc T 3 rfl : ExcT K mg "BadWay").k
theorem Txt.b_BadWay {K : PySem.W.Frag} {mg : Str → Option Value} (T : Txt K mg) : PySem.W.subIn K (.ref (T.a_BadWay)) (.type "BaseException") = some true := (TopB.exc T 3 rfl : ExcT K mg "BadWay").b
theorem Txt.t_BadWay {K : PySem.W.Frag} {mg : Str → Option Value} (T : Txt K mg) : PySem.W.typeIn K (.ref (T.a_BadWay)) = some (.type "type") := (TopB.exc T 3 rfl : ExcT K mg "BadWay").t
theorem Txt.i_BadWay {K : PySem.W.Frag} {mg : Str → Option Value} (T : Txt K mg) : PySem.W.isClsIn K (T.a_BadWay) = true := (TopB.exc T 3 rfl : ExcT K mg "BadWay").i
theorem Txt.h_BadWay {K : PySem.W.Frag} {mg : Str → Option Value} (T : Txt K mg) : PySem.W.hasDictIn K (T.a_BadWay) = true := (TopB.exc T 3 rfl : ExcT K mg "BadWay").h
theorem Txt.ga_BadWay {K : PySem.W.Frag} {mg : Str → Option Value} (T : Txt K mg) : PySem.W.findIn K (.ref (T.a_BadWay)) "__getattribute__" = some (some (.builtin "BaseException.__getattribute__")) := (TopB.exc T 3 rfl : ExcT K mg "BadWay").ga
theorem Txt.gg_BadWay {K : PySem.W.Frag} {mg : Str → Option Value} (T : Txt K mg) : PySem.W.findIn K (.ref (T.a_BadWay)) "__getattr__" = some none := (TopB.exc T 3 rfl : ExcT K mg "BadWay").gg
theorem Txt.cl_BadWay {K : PySem.W.Frag} {mg : Str → Option Value} (T : Txt K mg) : PySem.W.findIn K (.ref (T.a_BadWay)) "__class__" = some (some (.builtin "object.__class__")) := (TopB.exc T 3 rfl : ExcT K mg "BadWay").cl
theorem Txt.mo_BadWay {K : PySem.W.Frag} {mg : Str → Option Value} (T : Txt K mg) : PySem.W.mroIn K (T.a_BadWay) (.type "object") = some true := (TopB.exc T 3 rfl : ExcT K mg "BadWay").mo
theorem Txt.s_BadWay_MastError {K : PySem.W.Frag} {mg : Str → Option Value} (T : Txt K mg) : PySem.W.subIn K (.ref (T.a_BadWay)) (.ref (He.ga K "MastError")) = some true := (TopB.exc T 3 rfl : ExcT K mg "BadWay").s
abbrev Txt.a_BadSign {K : PySem.W.Frag} {mg : Str → Option Value} (T : Txt K mg) : Addr := He.ga K "BadSign"
theorem Txt.g_BadSign {K : PySem.W.Frag} {mg : Str → Option Value} (T : Txt K mg) : mg "BadSign" = some (.ref (T.a_BadSign)) := (TopB.exc T 4 rfl : ExcT K mg "BadSign").g
theorem Txt.x_BadSign {K : PySem.W.Frag} {mg : Str → Option Value} (T : Txt K mg) : PySem.W.excIn K (T.a_BadSign) He.veBase "ValueError.__new__" = true := (TopB.exc T 4 rfl : ExcT K mg "BadSign").x
theorem Txt.k_BadSign {K : PySem.W.Frag} {mg : Str → Option Value} (T : Txt K mg) : PySem.W.keepIn K (.ref (T.a_BadSign)) = true := (TopB.exc T 4 rfl : ExcT K mg "BadSign").k
theorem Txt.b_BadSign {K : PySem.W.Frag} {mg : Str → Option Value} (T : Txt K mg) : PySem.W.subIn K (.ref (T.a_BadSign)) (.type "BaseException") = some true := (TopB.exc T 4 rfl : ExcT K mg "BadSign").b
theorem Txt.t_BadSign {K : PySem.W.Frag} {mg : Str → Option Value} (T : Txt K mg) : PySem.W.typeIn K (.ref (T.a_BadSign)) = some (.type "type") := (TopB.exc T 4 rfl : ExcT K mg "BadSign").t
theorem Txt.i_BadSign {K : PySem.W.Frag} {mg : Str → Option Value} (T : Txt K mg) : PySem.W.isClsIn K (T.a_BadSign) = true := (TopB.exc T 4 rfl : ExcT K mg "BadSign").i
theorem Txt.h_BadSign {K : PySem.W.Frag} {mg : Str → Option Value} (T : Txt K mg) : PySem.W.hasDictIn K (T.a_BadSign) = true := (TopB.exc T 4 rfl : ExcT K mg "BadSign").h
theorem Txt.ga_BadSign {K : PySem.W.Frag} {mg : Str → Option Value} (T : Txt K mg) : PySem.W.findIn K (.ref (T.a_BadSign)) "__getattribute__" = some (some (.builtin "BaseException.__getattribute__")) := (TopB.exc T 4 rfl : ExcT K mg "BadSign").ga
theorem Txt.gg_BadSign {K : PySem.W.Frag} {mg : Str → Option Value} (T : Txt K mg) : PySem.W.findIn K (.ref (T.a_BadSign)) "__getattr__" = some none := (TopB.exc T 4 rfl : ExcT K mg "BadSign").gg
theorem Txt.cl_BadSign {K : PySem.W.Frag} {mg : Str → Option Value} (T : Txt K mg) : PySem.W.findIn K (.ref (T.a_BadSign)) "__class__" = some (some (.builtin "object.__class__")) := (TopB.exc T 4 rfl : ExcT K mg "BadSign").cl
theorem Txt.mo_BadSign {K : PySem.W.Frag} {mg : Str → Option Value} (T : Txt K mg) : PySem.W.mroIn K (T.a_BadSign) (.type "object") = some true := (TopB.exc T 4 rfl : ExcT K mg "BadSign").mo
theorem Txt.s_BadSign_MastError {K : PySem.W.Frag} {mg : Str → Option Value} (T : Txt K mg) : PySem.W.subIn K (.ref (T.a_BadSign)) (.ref (He.ga K "MastError")) = some true := (TopB.exc T 4 rfl : ExcT K mg "BadSign").s
abbrev Txt.a_Full {K : PySem.W.Frag} {mg : Str → Option Value} (T : Txt K mg) : Addr := He.ga K "Full"
theorem Txt.g_Full {K : PySem.W.Frag} {mg : Str → Option Value} (T : Txt K mg) : mg "Full" = some (.ref (T.a_Full)) := (TopB.exc T 5 rfl : ExcT K mg "Full").g
theorem Txt.x_Full {K : PySem.W.Frag} {mg : Str → Option Value} (T : Txt K mg) : PySem.W.excIn K (T.a_Full) He.veBase "ValueError.__new__" = true := (TopB.exc T 5 rfl : ExcT K mg "Full").x
theorem Txt.k_Full {K : PySem.W.Frag} {mg : Str → Option Value} (T : Txt K mg) : PySem.W.keepIn K (.ref (T.a_Full)) = true := (TopB.exc T 5 rfl : ExcT K mg "Full").k
theorem Txt.b_Full {K : PySem.W.Frag} {mg : Str → Option Value} (T : Txt K mg) : PySem.W.subIn K (.ref (T.a_Full)) (.type "BaseException") = some true := (TopB.exc T 5 rfl : ExcT K mg "Full").b
theorem Txt.t_Full {K : PySem.W.Frag} {mg : Str → Option Value} (T : Txt K mg) : PySem.W.typeIn K (.ref (T.a_Full)) = some (.type "type") := (TopB.exc T 5 rfl : ExcT K mg "Full").t
theorem Txt.i_Full {K : PySem.W.Frag} {mg : Str → Option Value} (T : Txt K mg) : PySem.W.isClsIn K (T.a_Full) = true := (TopB.exc T 5 rfl : ExcT K mg "Full").i
theorem Txt.h_Full {K : PySem.W.Frag} {mg : Str → Option Value} (T : Txt K mg) : PySem.W.hasDictIn K (T.a_Full) = true := (TopB.exc T 5 rfl : ExcT K mg "Full").h
theorem Txt.ga_Full {K : PySem.W.Frag} {mg : Str → Option Value} (T : Txt K mg) : PySem.W.findIn K (.ref (T.a_Full)) "__getattribute__" = some (some (.builtin "BaseException.__getattribute__")) := (TopB.exc T 5 rfl : ExcT K mg "Full").ga
theorem Txt.gg_Full {K : PySem.W.Frag} {mg : Str → Option Value} (T : Txt K mg) : PySem.W.findIn K (.ref (T.a_Full)) "__getattr__" = some none := (TopB.exc T 5 rfl : ExcT K mg "Full").gg
theorem Txt.cl_Full {K : PySem.W.Frag} {mg : Str → Option Value} (T : Txt K mg) : PySem.W.findIn K (.ref (T.a_Full)) "__class__" = some (some (.builtin "object.__class__")) := (TopB.exc T 5 rfl : ExcT K mg "Full").cl
theorem Txt.mo_Full {K : PySem.W.Frag} {mg : Str → Option Value} (T : Txt K mg) : PySem.W.mroIn K (T.a_Full) (.type "object") = some true := (TopB.exc T 5 rfl : ExcT K mg "Full").mo
theorem Txt.s_Full_MastError {K : PySem.W.Frag} {mg : Str → Option Value} (T : Txt K mg) : PySem.W.subIn K (.ref (T.a_Full)) (.ref (He.ga K "MastError")) = some true := (TopB.exc T 5 rfl : ExcT K mg "Full").s
abbrev Txt.a_NothingWaits {K : PySem.W.Frag} {mg : Str → Option Value} (T : Txt K mg) : Addr := He.ga K "NothingWaits"
theorem Txt.g_NothingWaits {K : PySem.W.Frag} {mg : Str → Option Value} (T : Txt K mg) : mg "NothingWaits" = some (.ref (T.a_NothingWaits)) := (TopB.exc T 6 rfl : ExcT K mg "NothingWaits").g
theorem Txt.x_NothingWaits {K : PySem.W.Frag} {mg : Str → Option Value} (T : Txt K mg) : PySem.W.excIn K (T.a_NothingWaits) He.veBase "ValueError.__new__" = true := (TopB.exc T 6 rfl : ExcT K mg "NothingWaits").x
theorem Txt.k_NothingWaits {K : PySem.W.Frag} {mg : Str → Option Value} (T : Txt K mg) : PySem.W.keepIn K (.ref (T.a_NothingWaits)) = true := (TopB.exc T 6 rfl : ExcT K mg "NothingWaits").k
theorem Txt.b_NothingWaits {K : PySem.W.Frag} {mg : Str → Option Value} (T : Txt K mg) : PySem.W.subIn K (.ref (T.a_NothingWaits)) (.type "BaseException") = some true := (TopB.exc T 6 rfl : ExcT K mg "NothingWaits").b
theorem Txt.t_NothingWaits {K : PySem.W.Frag} {mg : Str → Option Value} (T : Txt K mg) : PySem.W.typeIn K (.ref (T.a_NothingWaits)) = some (.type "type") := (TopB.exc T 6 rfl : ExcT K mg "NothingWaits").t
theorem Txt.i_NothingWaits {K : PySem.W.Frag} {mg : Str → Option Value} (T : Txt K mg) : PySem.W.isClsIn K (T.a_NothingWaits) = true := (TopB.exc T 6 rfl : ExcT K mg "NothingWaits").i
theorem Txt.h_NothingWaits {K : PySem.W.Frag} {mg : Str → Option Value} (T : Txt K mg) : PySem.W.hasDictIn K (T.a_NothingWaits) = true := (TopB.exc T 6 rfl : ExcT K mg "NothingWaits").h
theorem Txt.ga_NothingWaits {K : PySem.W.Frag} {mg : Str → Option Value} (T : Txt K mg) : PySem.W.findIn K (.ref (T.a_NothingWaits)) "__getattribute__" = some (some (.builtin "BaseException.__getattribute__")) := (TopB.exc T 6 rfl : ExcT K mg "NothingWaits").ga
theorem Txt.gg_NothingWaits {K : PySem.W.Frag} {mg : Str → Option Value} (T : Txt K mg) : PySem.W.findIn K (.ref (T.a_NothingWaits)) "__getattr__" = some none := (TopB.exc T 6 rfl : ExcT K mg "NothingWaits").gg
theorem Txt.cl_NothingWaits {K : PySem.W.Frag} {mg : Str → Option Value} (T : Txt K mg) : PySem.W.findIn K (.ref (T.a_NothingWaits)) "__class__" = some (some (.builtin "object.__class__")) := (TopB.exc T 6 rfl : ExcT K mg "NothingWaits").cl
theorem Txt.mo_NothingWaits {K : PySem.W.Frag} {mg : Str → Option Value} (T : Txt K mg) : PySem.W.mroIn K (T.a_NothingWaits) (.type "object") = some true := (TopB.exc T 6 rfl : ExcT K mg "NothingWaits").mo
theorem Txt.s_NothingWaits_MastError {K : PySem.W.Frag} {mg : Str → Option Value} (T : Txt K mg) : PySem.W.subIn K (.ref (T.a_NothingWaits)) (.ref (He.ga K "MastError")) = some true := (TopB.exc T 6 rfl : ExcT K mg "NothingWaits").s
abbrev Txt.a_NotReady {K : PySem.W.Frag} {mg : Str → Option Value} (T : Txt K mg) : Addr := He.ga K "NotReady"
theorem Txt.g_NotReady {K : PySem.W.Frag} {mg : Str → Option Value} (T : Txt K mg) : mg "NotReady" = some (.ref (T.a_NotReady)) := (TopB.exc T 7 rfl : ExcT K mg "NotReady").g
theorem Txt.x_NotReady {K : PySem.W.Frag} {mg : Str → Option Value} (T : Txt K mg) : PySem.W.excIn K (T.a_NotReady) He.veBase "ValueError.__new__" = true := (TopB.exc T 7 rfl : ExcT K mg "NotReady").x
theorem Txt.k_NotReady {K : PySem.W.Frag} {mg : Str → Option Value} (T : Txt K mg) : PySem.W.keepIn K (.ref (T.a_NotReady)) = true := (TopB.exc T 7 rfl : ExcT K mg "NotReady").k
theorem Txt.b_NotReady {K : PySem.W.Frag} {mg : Str → Option Value} (T : Txt K mg) : PySem.W.subIn K (.ref (T.a_NotReady)) (.type "BaseException") = some true := (TopB.exc T 7 rfl : ExcT K mg "NotReady").b
theorem Txt.t_NotReady {K : PySem.W.Frag} {mg : Str → Option Value} (T : Txt K mg) : PySem.W.typeIn K (.ref (T.a_NotReady)) = some (.type "type") := (TopB.exc T 7 rfl : ExcT K mg "NotReady").t
theorem Txt.i_NotReady {K : PySem.W.Frag} {mg : Str → Option Value} (T : Txt K mg) : PySem.W.isClsIn K (T.a_NotReady) = true := (TopB.exc T 7 rfl : ExcT K mg "NotReady").i
theorem Txt.h_NotReady {K : PySem.W.Frag} {mg : Str → Option Value} (T : Txt K mg) : PySem.W.hasDictIn K (T.a_NotReady) = true := (TopB.exc T 7 rfl : ExcT K mg "NotReady").h
theorem Txt.ga_NotReady {K : PySem.W.Frag} {mg : Str → Option Value} (T : Txt K mg) : PySem.W.findIn K (.ref (T.a_NotReady)) "__getattribute__" = some (some (.builtin "BaseException.__getattribute__")) := (TopB.exc T 7 rfl : ExcT K mg "NotReady").ga
theorem Txt.gg_NotReady {K : PySem.W.Frag} {mg : Str → Option Value} (T : Txt K mg) : PySem.W.findIn K (.ref (T.a_NotReady)) "__getattr__" = some none := (TopB.exc T 7 rfl : ExcT K mg "NotReady").gg
theorem Txt.cl_NotReady {K : PySem.W.Frag} {mg : Str → Option Value} (T : Txt K mg) : PySem.W.findIn K (.ref (T.a_NotReady)) "__class__" = some (some (.builtin "object.__class__")) := (TopB.exc T 7 rfl : ExcT K mg "NotReady").cl
theorem Txt.mo_NotReady {K : PySem.W.Frag} {mg : Str → Option Value} (T : Txt K mg) : PySem.W.mroIn K (T.a_NotReady) (.type "object") = some true := (TopB.exc T 7 rfl : ExcT K mg "NotReady").mo
theorem Txt.s_NotReady_MastError {K : PySem.W.Frag} {mg : Str → Option Value} (T : Txt K mg) : PySem.W.subIn K (.ref (T.a_NotReady)) (.ref (He.ga K "MastError")) = some true := (TopB.exc T 7 rfl : ExcT K mg "NotReady").s
abbrev Txt.a_NotRaising {K : PySem.W.Frag} {mg : Str → Option Value} (T : Txt K mg) : Addr := He.ga K "NotRaising"
theorem Txt.g_NotRaising {K : PySem.W.Frag} {mg : Str → Option Value} (T : Txt K mg) : mg "NotRaising" = some (.ref (T.a_NotRaising)) := (TopB.exc T 8 rfl : ExcT K mg "NotRaising").g
theorem Txt.x_NotRaising {K : PySem.W.Frag} {mg : Str → Option Value} (T : Txt K mg) : PySem.W.excIn K (T.a_NotRaising) He.veBase "ValueError.__new__" = true := (TopB.exc T 8 rfl : ExcT K mg "NotRaising").x
theorem Txt.k_NotRaising {K : PySem.W.Frag} {mg : Str → Option Value} (T : Txt K mg) : PySem.W.keepIn K (.ref (T.a_NotRaising)) = true := (TopB.exc T 8 rfl : ExcT K mg "NotRaising").k
theorem Txt.b_NotRaising {K : PySem.W.Frag} {mg : Str → Option Value} (T : Txt K mg) : PySem.W.subIn K (.ref (T.a_NotRaising)) (.type "BaseException") = some true := (TopB.exc T 8 rfl : ExcT K mg "NotRaising").b
theorem Txt.t_NotRaising {K : PySem.W.Frag} {mg : Str → Option Value} (T : Txt K mg) : PySem.W.typeIn K (.ref (T.a_NotRaising)) = some (.type "type") := (TopB.exc T 8 rfl : ExcT K mg "NotRaising").t
theorem Txt.i_NotRaising {K : PySem.W.Frag} {mg : Str → Option Value} (T : Txt K mg) : PySem.W.isClsIn K (T.a_NotRaising) = true := (TopB.exc T 8 rfl : ExcT K mg "NotRaising").i
theorem Txt.h_NotRaising {K : PySem.W.Frag} {mg : Str → Option Value} (T : Txt K mg) : PySem.W.hasDictIn K (T.a_NotRaising) = true := (TopB.exc T 8 rfl : ExcT K mg "NotRaising").h
theorem Txt.ga_NotRaising {K : PySem.W.Frag} {mg : Str → Option Value} (T : Txt K mg) : PySem.W.findIn K (.ref (T.a_NotRaising)) "__getattribute__" = some (some (.builtin "BaseException.__getattribute__")) := (TopB.exc T 8 rfl : ExcT K mg "NotRaising").ga
theorem Txt.gg_NotRaising {K : PySem.W.Frag} {mg : Str → Option Value} (T : Txt K mg) : PySem.W.findIn K (.ref (T.a_NotRaising)) "__getattr__" = some none := (TopB.exc T 8 rfl : ExcT K mg "NotRaising").gg
theorem Txt.cl_NotRaising {K : PySem.W.Frag} {mg : Str → Option Value} (T : Txt K mg) : PySem.W.findIn K (.ref (T.a_NotRaising)) "__class__" = some (some (.builtin "object.__class__")) := (TopB.exc T 8 rfl : ExcT K mg "NotRaising").cl
theorem Txt.mo_NotRaising {K : PySem.W.Frag} {mg : Str → Option Value} (T : Txt K mg) : PySem.W.mroIn K (T.a_NotRaising) (.type "object") = some true := (TopB.exc T 8 rfl : ExcT K mg "NotRaising").mo
theorem Txt.s_NotRaising_MastError {K : PySem.W.Frag} {mg : Str → Option Value} (T : Txt K mg) : PySem.W.subIn K (.ref (T.a_NotRaising)) (.ref (He.ga K "MastError")) = some true := (TopB.exc T 8 rfl : ExcT K mg "NotRaising").s
abbrev Txt.a_BadSlip {K : PySem.W.Frag} {mg : Str → Option Value} (T : Txt K mg) : Addr := He.ga K "BadSlip"
theorem Txt.g_BadSlip {K : PySem.W.Frag} {mg : Str → Option Value} (T : Txt K mg) : mg "BadSlip" = some (.ref (T.a_BadSlip)) := (TopB.exc T 9 rfl : ExcT K mg "BadSlip").g
theorem Txt.x_BadSlip {K : PySem.W.Frag} {mg : Str → Option Value} (T : Txt K mg) : PySem.W.excIn K (T.a_BadSlip) He.veBase "ValueError.__new__" = true := (TopB.exc T 9 rfl : ExcT K mg "BadSlip").x
theorem Txt.k_BadSlip {K : PySem.W.Frag} {mg : Str → Option Value} (T : Txt K mg) : PySem.W.keepIn K (.ref (T.a_BadSlip)) = true := (TopB.exc T 9 rfl : ExcT K mg "BadSlip").k
theorem Txt.b_BadSlip {K : PySem.W.Frag} {mg : Str → Option Value} (T : Txt K mg) : PySem.W.subIn K (.ref (T.a_BadSlip)) (.type "BaseException") = some true := (TopB.exc T 9 rfl : ExcT K mg "BadSlip").b
theorem Txt.t_BadSlip {K : PySem.W.Frag} {mg : Str → Option Value} (T : Txt K mg) : PySem.W.typeIn K (.ref (T.a_BadSlip)) = some (.type "type") := (TopB.exc T 9 rfl : ExcT K mg "BadSlip").t
theorem Txt.i_BadSlip {K : PySem.W.Frag} {mg : Str → Option Value} (T : Txt K mg) : PySem.W.isClsIn K (T.a_BadSlip) = true := (TopB.exc T 9 rfl : ExcT K mg "BadSlip").i
theorem Txt.h_BadSlip {K : PySem.W.Frag} {mg : Str → Option Value} (T : Txt K mg) : PySem.W.hasDictIn K (T.a_BadSlip) = true := (TopB.exc T 9 rfl : ExcT K mg "BadSlip").h
theorem Txt.ga_BadSlip {K : PySem.W.Frag} {mg : Str → Option Value} (T : Txt K mg) : PySem.W.findIn K (.ref (T.a_BadSlip)) "__getattribute__" = some (some (.builtin "BaseException.__getattribute__")) := (TopB.exc T 9 rfl : ExcT K mg "BadSlip").ga
theorem Txt.gg_BadSlip {K : PySem.W.Frag} {mg : Str → Option Value} (T : Txt K mg) : PySem.W.findIn K (.ref (T.a_BadSlip)) "__getattr__" = some none := (TopB.exc T 9 rfl : ExcT K mg "BadSlip").gg
theorem Txt.cl_BadSlip {K : PySem.W.Frag} {mg : Str → Option Value} (T : Txt K mg) : PySem.W.findIn K (.ref (T.a_BadSlip)) "__class__" = some (some (.builtin "object.__class__")) := (TopB.exc T 9 rfl : ExcT K mg "BadSlip").cl
theorem Txt.mo_BadSlip {K : PySem.W.Frag} {mg : Str → Option Value} (T : Txt K mg) : PySem.W.mroIn K (T.a_BadSlip) (.type "object") = some true := (TopB.exc T 9 rfl : ExcT K mg "BadSlip").mo
theorem Txt.s_BadSlip_MastError {K : PySem.W.Frag} {mg : Str → Option Value} (T : Txt K mg) : PySem.W.subIn K (.ref (T.a_BadSlip)) (.ref (He.ga K "MastError")) = some true := (TopB.exc T 9 rfl : ExcT K mg "BadSlip").s
abbrev Txt.a_Asleep {K : PySem.W.Frag} {mg : Str → Option Value} (T : Txt K mg) : Addr := He.ga K "Asleep"
theorem Txt.g_Asleep {K : PySem.W.Frag} {mg : Str → Option Value} (T : Txt K mg) : mg "Asleep" = some (.ref (T.a_Asleep)) := (TopB.exc T 10 rfl : ExcT K mg "Asleep").g
theorem Txt.x_Asleep {K : PySem.W.Frag} {mg : Str → Option Value} (T : Txt K mg) : PySem.W.excIn K (T.a_Asleep) He.veBase "ValueError.__new__" = true := (TopB.exc T 10 rfl : ExcT K mg "Asleep").x
theorem Txt.k_Asleep {K : PySem.W.Frag} {mg : Str → Option Value} (T : Txt K mg) : PySem.W.keepIn K (.ref (T.a_Asleep)) = true := (TopB.exc T 10 rfl : ExcT K mg "Asleep").k
theorem Txt.b_Asleep {K : PySem.W.Frag} {mg : Str → Option Value} (T : Txt K mg) : PySem.W.subIn K (.ref (T.a_Asleep)) (.type "BaseException") = some true := (TopB.exc T 10 rfl : ExcT K mg "Asleep").b
theorem Txt.t_Asleep {K : PySem.W.Frag} {mg : Str → Option Value} (T : Txt K mg) : PySem.W.typeIn K (.ref (T.a_Asleep)) = some (.type "type") := (TopB.exc T 10 rfl : ExcT K mg "Asleep").t
theorem Txt.i_Asleep {K : PySem.W.Frag} {mg : Str → Option Value} (T : Txt K mg) : PySem.W.isClsIn K (T.a_Asleep) = true := (TopB.exc T 10 rfl : ExcT K mg "Asleep").i
theorem Txt.h_Asleep {K : PySem.W.Frag} {mg : Str → Option Value} (T : Txt K mg) : PySem.W.hasDictIn K (T.a_Asleep) = true := (TopB.exc T 10 rfl : ExcT K mg "Asleep").h
theorem Txt.ga_Asleep {K : PySem.W.Frag} {mg : Str → Option Value} (T : Txt K mg) : PySem.W.findIn K (.ref (T.a_Asleep)) "__getattribute__" = some (some (.builtin "BaseException.__getattribute__")) := (TopB.exc T 10 rfl : ExcT K mg "Asleep").ga
theorem Txt.gg_Asleep {K : PySem.W.Frag} {mg : Str → Option Value} (T : Txt K mg) : PySem.W.findIn K (.ref (T.a_Asleep)) "__getattr__" = some none := (TopB.exc T 10 rfl : ExcT K mg "Asleep").gg
theorem Txt.cl_Asleep {K : PySem.W.Frag} {mg : Str → Option Value} (T : Txt K mg) : PySem.W.findIn K (.ref (T.a_Asleep)) "__class__" = some (some (.builtin "object.__class__")) := (TopB.exc T 10 rfl : ExcT K mg "Asleep").cl
theorem Txt.mo_Asleep {K : PySem.W.Frag} {mg : Str → Option Value} (T : Txt K mg) : PySem.W.mroIn K (T.a_Asleep) (.type "object") = some true := (TopB.exc T 10 rfl : ExcT K mg "Asleep").mo
theorem Txt.s_Asleep_MastError {K : PySem.W.Frag} {mg : Str → Option Value} (T : Txt K mg) : PySem.W.subIn K (.ref (T.a_Asleep)) (.ref (He.ga K "MastError")) = some true := (TopB.exc T 10 rfl : ExcT K mg "Asleep").s
abbrev Txt.a_Awake {K : PySem.W.Frag} {mg : Str → Option Value} (T : Txt K mg) : Addr := He.ga K "Awake"
theorem Txt.g_Awake {K : PySem.W.Frag} {mg : Str → Option Value} (T : Txt K mg) : mg "Awake" = some (.ref (T.a_Awake)) := (TopB.exc T 11 rfl : ExcT K mg "Awake").g
theorem Txt.x_Awake {K : PySem.W.Frag} {mg : Str → Option Value} (T : Txt K mg) : PySem.W.excIn K (T.a_Awake) He.veBase "ValueError.__new__" = true := (TopB.exc T 11 rfl : ExcT K mg "Awake").x
theorem Txt.k_Awake {K : PySem.W.Frag} {mg : Str → Option Value} (T : Txt K mg) : PySem.W.keepIn K (.ref (T.a_Awake)) = true := (TopB.exc T 11 rfl : ExcT K mg "Awake").k
theorem Txt.b_Awake {K : PySem.W.Frag} {mg : Str → Option Value} (T : Txt K mg) : PySem.W.subIn K (.ref (T.a_Awake)) (.type "BaseException") = some true := (TopB.exc T 11 rfl : ExcT K mg "Awake").b
theorem Txt.t_Awake {K : PySem.W.Frag} {mg : Str → Option Value} (T : Txt K mg) : PySem.W.typeIn K (.ref (T.a_Awake)) = some (.type "type") := (TopB.exc T 11 rfl : ExcT K mg "Awake").t
theorem Txt.i_Awake {K : PySem.W.Frag} {mg : Str → Option Value} (T : Txt K mg) : PySem.W.isClsIn K (T.a_Awake) = true := (TopB.exc T 11 rfl : ExcT K mg "Awake").i
theorem Txt.h_Awake {K : PySem.W.Frag} {mg : Str → Option Value} (T : Txt K mg) : PySem.W.hasDictIn K (T.a_Awake) = true := (TopB.exc T 11 rfl : ExcT K mg "Awake").h
theorem Txt.ga_Awake {K : PySem.W.Frag} {mg : Str → Option Value} (T : Txt K mg) : PySem.W.findIn K (.ref (T.a_Awake)) "__getattribute__" = some (some (.builtin "BaseException.__getattribute__")) := (TopB.exc T 11 rfl : ExcT K mg "Awake").ga
theorem Txt.gg_Awake {K : PySem.W.Frag} {mg : Str → Option Value} (T : Txt K mg) : PySem.W.findIn K (.ref (T.a_Awake)) "__getattr__" = some none := (TopB.exc T 11 rfl : ExcT K mg "Awake").gg
theorem Txt.cl_Awake {K : PySem.W.Frag} {mg : Str → Option Value} (T : Txt K mg) : PySem.W.findIn K (.ref (T.a_Awake)) "__class__" = some (some (.builtin "object.__class__")) := (TopB.exc T 11 rfl : ExcT K mg "Awake").cl
theorem Txt.mo_Awake {K : PySem.W.Frag} {mg : Str → Option Value} (T : Txt K mg) : PySem.W.mroIn K (T.a_Awake) (.type "object") = some true := (TopB.exc T 11 rfl : ExcT K mg "Awake").mo
theorem Txt.s_Awake_MastError {K : PySem.W.Frag} {mg : Str → Option Value} (T : Txt K mg) : PySem.W.subIn K (.ref (T.a_Awake)) (.ref (He.ga K "MastError")) = some true := (TopB.exc T 11 rfl : ExcT K mg "Awake").s
abbrev Txt.a_Fogged {K : PySem.W.Frag} {mg : Str → Option Value} (T : Txt K mg) : Addr := He.ga K "Fogged"
theorem Txt.g_Fogged {K : PySem.W.Frag} {mg : Str → Option Value} (T : Txt K mg) : mg "Fogged" = some (.ref (T.a_Fogged)) := (TopB.exc T 12 rfl : ExcT K mg "Fogged").g
theorem Txt.x_Fogged {K : PySem.W.Frag} {mg : Str → Option Value} (T : Txt K mg) : PySem.W.excIn K (T.a_Fogged) He.veBase "ValueError.__new__" = true := (TopB.exc T 12 rfl : ExcT K mg "Fogged").x
theorem Txt.k_Fogged {K : PySem.W.Frag} {mg : Str → Option Value} (T : Txt K mg) : PySem.W.keepIn K (.ref (T.a_Fogged)) = true := (TopB.exc T 12 rfl : ExcT K mg "Fogged").k
theorem Txt.b_Fogged {K : PySem.W.Frag} {mg : Str → Option Value} (T : Txt K mg) : PySem.W.subIn K (.ref (T.a_Fogged)) (.type "BaseException") = some true := (TopB.exc T 12 rfl : ExcT K mg "Fogged").b
theorem Txt.t_Fogged {K : PySem.W.Frag} {mg : Str → Option Value} (T : Txt K mg) : PySem.W.typeIn K (.ref (T.a_Fogged)) = some (.type "type") := (TopB.exc T 12 rfl : ExcT K mg "Fogged").t
theorem Txt.i_Fogged {K : PySem.W.Frag} {mg : Str → Option Value} (T : Txt K mg) : PySem.W.isClsIn K (T.a_Fogged) = true := (TopB.exc T 12 rfl : ExcT K mg "Fogged").i
theorem Txt.h_Fogged {K : PySem.W.Frag} {mg : Str → Option Value} (T : Txt K mg) : PySem.W.hasDictIn K (T.a_Fogged) = true := (TopB.exc T 12 rfl : ExcT K mg "Fogged").h
theorem Txt.ga_Fogged {K : PySem.W.Frag} {mg : Str → Option Value} (T : Txt K mg) : PySem.W.findIn K (.ref (T.a_Fogged)) "__getattribute__" = some (some (.builtin "BaseException.__getattribute__")) := (TopB.exc T 12 rfl : ExcT K mg "Fogged").ga
theorem Txt.gg_Fogged {K : PySem.W.Frag} {mg : Str → Option Value} (T : Txt K mg) : PySem.W.findIn K (.ref (T.a_Fogged)) "__getattr__" = some none := (TopB.exc T 12 rfl : ExcT K mg "Fogged").gg
theorem Txt.cl_Fogged {K : PySem.W.Frag} {mg : Str → Option Value} (T : Txt K mg) : PySem.W.findIn K (.ref (T.a_Fogged)) "__class__" = some (some (.builtin "object.__class__")) := (TopB.exc T 12 rfl : ExcT K mg "Fogged").cl
theorem Txt.mo_Fogged {K : PySem.W.Frag} {mg : Str → Option Value} (T : Txt K mg) : PySem.W.mroIn K (T.a_Fogged) (.type "object") = some true := (TopB.exc T 12 rfl : ExcT K mg "Fogged").mo
theorem Txt.s_Fogged_MastError {K : PySem.W.Frag} {mg : Str → Option Value} (T : Txt K mg) : PySem.W.subIn K (.ref (T.a_Fogged)) (.ref (He.ga K "MastError")) = some true := (TopB.exc T 12 rfl : ExcT K mg "Fogged").s
abbrev Txt.a_Clear {K : PySem.W.Frag} {mg : Str → Option Value} (T : Txt K mg) : Addr := He.ga K "Clear"
theorem Txt.g_Clear {K : PySem.W.Frag} {mg : Str → Option Value} (T : Txt K mg) : mg "Clear" = some (.ref (T.a_Clear)) := (TopB.exc T 13 rfl : ExcT K mg "Clear").g
theorem Txt.x_Clear {K : PySem.W.Frag} {mg : Str → Option Value} (T : Txt K mg) : PySem.W.excIn K (T.a_Clear) He.veBase "ValueError.__new__" = true := (TopB.exc T 13 rfl : ExcT K mg "Clear").x
theorem Txt.k_Clear {K : PySem.W.Frag} {mg : Str → Option Value} (T : Txt K mg) : PySem.W.keepIn K (.ref (T.a_Clear)) = true := (TopB.exc T 13 rfl : ExcT K mg "Clear").k
theorem Txt.b_Clear {K : PySem.W.Frag} {mg : Str → Option Value} (T : Txt K mg) : PySem.W.subIn K (.ref (T.a_Clear)) (.type "BaseException") = some true := (TopB.exc T 13 rfl : ExcT K mg "Clear").b
theorem Txt.t_Clear {K : PySem.W.Frag} {mg : Str → Option Value} (T : Txt K mg) : PySem.W.typeIn K (.ref (T.a_Clear)) = some (.type "type") := (TopB.exc T 13 rfl : ExcT K mg "Clear").t
theorem Txt.i_Clear {K : PySem.W.Frag} {mg : Str → Option Value} (T : Txt K mg) : PySem.W.isClsIn K (T.a_Clear) = true := (TopB.exc T 13 rfl : ExcT K mg "Clear").i
theorem Txt.h_Clear {K : PySem.W.Frag} {mg : Str → Option Value} (T : Txt K mg) : PySem.W.hasDictIn K (T.a_Clear) = true := (TopB.exc T 13 rfl : ExcT K mg "Clear").h
theorem Txt.ga_Clear {K : PySem.W.Frag} {mg : Str → Option Value} (T : Txt K mg) : PySem.W.findIn K (.ref (T.a_Clear)) "__getattribute__" = some (some (.builtin "BaseException.__getattribute__")) := (TopB.exc T 13 rfl : ExcT K mg "Clear").ga
theorem Txt.gg_Clear {K : PySem.W.Frag} {mg : Str → Option Value} (T : Txt K mg) : PySem.W.findIn K (.ref (T.a_Clear)) "__getattr__" = some none := (TopB.exc T 13 rfl : ExcT K mg "Clear").gg
theorem Txt.cl_Clear {K : PySem.W.Frag} {mg : Str → Option Value} (T : Txt K mg) : PySem.W.findIn K (.ref (T.a_Clear)) "__class__" = some (some (.builtin "object.__class__")) := (TopB.exc T 13 rfl : ExcT K mg "Clear").cl
theorem Txt.mo_Clear {K : PySem.W.Frag} {mg : Str → Option Value} (T : Txt K mg) : PySem.W.mroIn K (T.a_Clear) (.type "object") = some true := (TopB.exc T 13 rfl : ExcT K mg "Clear").mo
theorem Txt.s_Clear_MastError {K : PySem.W.Frag} {mg : Str → Option Value} (T : Txt K mg) : PySem.W.subIn K (.ref (T.a_Clear)) (.ref (He.ga K "MastError")) = some true := (TopB.exc T 13 rfl : ExcT K mg "Clear").s
abbrev Txt.a_Busy {K : PySem.W.Frag} {mg : Str → Option Value} (T : Txt K mg) : Addr := He.ga K "Busy"
theorem Txt.g_Busy {K : PySem.W.Frag} {mg : Str → Option Value} (T : Txt K mg) : mg "Busy" = some (.ref (T.a_Busy)) := (TopB.exc T 14 rfl : ExcT K mg "Busy").g
theorem Txt.x_Busy {K : PySem.W.Frag} {mg : Str → Option Value} (T : Txt K mg) : PySem.W.excIn K (T.a_Busy) He.veBase "ValueError.__new__" = true := (TopB.exc T 14 rfl : ExcT K mg "Busy").x
theorem Txt.k_Busy {K : PySem.W.Frag} {mg : Str → Option Value} (T : Txt K mg) : PySem.W.keepIn K (.ref (T.a_Busy)) = true := (TopB.exc T 14 rfl : ExcT K mg "Busy").k
theorem Txt.b_Busy {K : PySem.W.Frag} {mg : Str → Option Value} (T : Txt K mg) : PySem.W.subIn K (.ref (T.a_Busy)) (.type "BaseException") = some true := (TopB.exc T 14 rfl : ExcT K mg "Busy").b
theorem Txt.t_Busy {K : PySem.W.Frag} {mg : Str → Option Value} (T : Txt K mg) : PySem.W.typeIn K (.ref (T.a_Busy)) = some (.type "type") := (TopB.exc T 14 rfl : ExcT K mg "Busy").t
theorem Txt.i_Busy {K : PySem.W.Frag} {mg : Str → Option Value} (T : Txt K mg) : PySem.W.isClsIn K (T.a_Busy) = true := (TopB.exc T 14 rfl : ExcT K mg "Busy").i
theorem Txt.h_Busy {K : PySem.W.Frag} {mg : Str → Option Value} (T : Txt K mg) : PySem.W.hasDictIn K (T.a_Busy) = true := (TopB.exc T 14 rfl : ExcT K mg "Busy").h
theorem Txt.ga_Busy {K : PySem.W.Frag} {mg : Str → Option Value} (T : Txt K mg) : PySem.W.findIn K (.ref (T.a_Busy)) "__getattribute__" = some (some (.builtin "BaseException.__getattribute__")) := (TopB.exc T 14 rfl : ExcT K mg "Busy").ga
theorem Txt.gg_Busy {K : PySem.W.Frag} {mg : Str → Option Value} (T : Txt K mg) : PySem.W.findIn K (.ref (T.a_Busy)) "__getattr__" = some none := (TopB.exc T 14 rfl : ExcT K mg "Busy").gg
theorem Txt.cl_Busy {K : PySem.W.Frag} {mg : Str → Option Value} (T : Txt K mg) : PySem.W.findIn K (.ref (T.a_Busy)) "__class__" = some (some (.builtin "object.__class__")) := (TopB.exc T 14 rfl : ExcT K mg "Busy").cl
theorem Txt.mo_Busy {K : PySem.W.Frag} {mg : Str → Option Value} (T : Txt K mg) : PySem.W.mroIn K (T.a_Busy) (.type "object") = some true := (TopB.exc T 14 rfl : ExcT K mg "Busy").mo
theorem Txt.s_Busy_MastError {K : PySem.W.Frag} {mg : Str → Option Value} (T : Txt K mg) : PySem.W.subIn K (.ref (T.a_Busy)) (.ref (He.ga K "MastError")) = some true := (TopB.exc T 14 rfl : ExcT K mg "Busy").s
abbrev Txt.a_NoRow {K : PySem.W.Frag} {mg : Str → Option Value} (T : Txt K mg) : Addr := He.ga K "NoRow"
theorem Txt.g_NoRow {K : PySem.W.Frag} {mg : Str → Option Value} (T : Txt K mg) : mg "NoRow" = some (.ref (T.a_NoRow)) := (TopB.exc T 15 rfl : ExcT K mg "NoRow").g
theorem Txt.x_NoRow {K : PySem.W.Frag} {mg : Str → Option Value} (T : Txt K mg) : PySem.W.excIn K (T.a_NoRow) He.veBase "ValueError.__new__" = true := (TopB.exc T 15 rfl : ExcT K mg "NoRow").x
theorem Txt.k_NoRow {K : PySem.W.Frag} {mg : Str → Option Value} (T : Txt K mg) : PySem.W.keepIn K (.ref (T.a_NoRow)) = true := (TopB.exc T 15 rfl : ExcT K mg "NoRow").k
theorem Txt.b_NoRow {K : PySem.W.Frag} {mg : Str → Option Value} (T : Txt K mg) : PySem.W.subIn K (.ref (T.a_NoRow)) (.type "BaseException") = some true := (TopB.exc T 15 rfl : ExcT K mg "NoRow").b
theorem Txt.t_NoRow {K : PySem.W.Frag} {mg : Str → Option Value} (T : Txt K mg) : PySem.W.typeIn K (.ref (T.a_NoRow)) = some (.type "type") := (TopB.exc T 15 rfl : ExcT K mg "NoRow").t
theorem Txt.i_NoRow {K : PySem.W.Frag} {mg : Str → Option Value} (T : Txt K mg) : PySem.W.isClsIn K (T.a_NoRow) = true := (TopB.exc T 15 rfl : ExcT K mg "NoRow").i
theorem Txt.h_NoRow {K : PySem.W.Frag} {mg : Str → Option Value} (T : Txt K mg) : PySem.W.hasDictIn K (T.a_NoRow) = true := (TopB.exc T 15 rfl : ExcT K mg "NoRow").h
theorem Txt.ga_NoRow {K : PySem.W.Frag} {mg : Str → Option Value} (T : Txt K mg) : PySem.W.findIn K (.ref (T.a_NoRow)) "__getattribute__" = some (some (.builtin "BaseException.__getattribute__")) := (TopB.exc T 15 rfl : ExcT K mg "NoRow").ga
theorem Txt.gg_NoRow {K : PySem.W.Frag} {mg : Str → Option Value} (T : Txt K mg) : PySem.W.findIn K (.ref (T.a_NoRow)) "__getattr__" = some none := (TopB.exc T 15 rfl : ExcT K mg "NoRow").gg
theorem Txt.cl_NoRow {K : PySem.W.Frag} {mg : Str → Option Value} (T : Txt K mg) : PySem.W.findIn K (.ref (T.a_NoRow)) "__class__" = some (some (.builtin "object.__class__")) := (TopB.exc T 15 rfl : ExcT K mg "NoRow").cl
theorem Txt.mo_NoRow {K : PySem.W.Frag} {mg : Str → Option Value} (T : Txt K mg) : PySem.W.mroIn K (T.a_NoRow) (.type "object") = some true := (TopB.exc T 15 rfl : ExcT K mg "NoRow").mo
theorem Txt.s_NoRow_MastError {K : PySem.W.Frag} {mg : Str → Option Value} (T : Txt K mg) : PySem.W.subIn K (.ref (T.a_NoRow)) (.ref (He.ga K "MastError")) = some true := (TopB.exc T 15 rfl : ExcT K mg "NoRow").s
abbrev Txt.a_NoBook {K : PySem.W.Frag} {mg : Str → Option Value} (T : Txt K mg) : Addr := He.ga K "NoBook"
theorem Txt.g_NoBook {K : PySem.W.Frag} {mg : Str → Option Value} (T : Txt K mg) : mg "NoBook" = some (.ref (T.a_NoBook)) := (TopB.exc T 16 rfl : ExcT K mg "NoBook").g
theorem Txt.x_NoBook {K : PySem.W.Frag} {mg : Str → Option Value} (T : Txt K mg) : PySem.W.excIn K (T.a_NoBook) He.veBase "ValueError.__new__" = true := (TopB.exc T 16 rfl : ExcT K mg "NoBook").x
theorem Txt.k_NoBook {K : PySem.W.Frag} {mg : Str → Option Value} (T : Txt K mg) : PySem.W.keepIn K (.ref (T.a_NoBook)) = true := (TopB.exc T 16 rfl : ExcT K mg "NoBook").k
theorem Txt.b_NoBook {K : PySem.W.Frag} {mg : Str → Option Value} (T : Txt K mg) : PySem.W.subIn K (.ref (T.a_NoBook)) (.type "BaseException") = some true := (TopB.exc T 16 rfl : ExcT K mg "NoBook").b
theorem Txt.t_NoBook {K : PySem.W.Frag} {mg : Str → Option Value} (T : Txt K mg) : PySem.W.typeIn K (.ref (T.a_NoBook)) = some (.type "type") := (TopB.exc T 16 rfl : ExcT K mg "NoBook").t
theorem Txt.i_NoBook {K : PySem.W.Frag} {mg : Str → Option Value} (T : Txt K mg) : PySem.W.isClsIn K (T.a_NoBook) = true := (TopB.exc T 16 rfl : ExcT K mg "NoBook").i
theorem Txt.h_NoBook {K : PySem.W.Frag} {mg : Str → Option Value} (T : Txt K mg) : PySem.W.hasDictIn K (T.a_NoBook) = true := (TopB.exc T 16 rfl : ExcT K mg "NoBook").h
theorem Txt.ga_NoBook {K : PySem.W.Frag} {mg : Str → Option Value} (T : Txt K mg) : PySem.W.findIn K (.ref (T.a_NoBook)) "__getattribute__" = some (some (.builtin "BaseException.__getattribute__")) := (TopB.exc T 16 rfl : ExcT K mg "NoBook").ga
theorem Txt.gg_NoBook {K : PySem.W.Frag} {mg : Str → Option Value} (T : Txt K mg) : PySem.W.findIn K (.ref (T.a_NoBook)) "__getattr__" = some none := (TopB.exc T 16 rfl : ExcT K mg "NoBook").gg
theorem Txt.cl_NoBook {K : PySem.W.Frag} {mg : Str → Option Value} (T : Txt K mg) : PySem.W.findIn K (.ref (T.a_NoBook)) "__class__" = some (some (.builtin "object.__class__")) := (TopB.exc T 16 rfl : ExcT K mg "NoBook").cl
theorem Txt.mo_NoBook {K : PySem.W.Frag} {mg : Str → Option Value} (T : Txt K mg) : PySem.W.mroIn K (T.a_NoBook) (.type "object") = some true := (TopB.exc T 16 rfl : ExcT K mg "NoBook").mo
theorem Txt.s_NoBook_MastError {K : PySem.W.Frag} {mg : Str → Option Value} (T : Txt K mg) : PySem.W.subIn K (.ref (T.a_NoBook)) (.ref (He.ga K "MastError")) = some true := (TopB.exc T 16 rfl : ExcT K mg "NoBook").s
abbrev Txt.a_Lost {K : PySem.W.Frag} {mg : Str → Option Value} (T : Txt K mg) : Addr := He.ga K "Lost"
theorem Txt.g_Lost {K : PySem.W.Frag} {mg : Str → Option Value} (T : Txt K mg) : mg "Lost" = some (.ref (T.a_Lost)) := (TopB.exc T 17 rfl : ExcT K mg "Lost").g
theorem Txt.x_Lost {K : PySem.W.Frag} {mg : Str → Option Value} (T : Txt K mg) : PySem.W.excIn K (T.a_Lost) He.veBase "ValueError.__new__" = true := (TopB.exc T 17 rfl : ExcT K mg "Lost").x
theorem Txt.k_Lost {K : PySem.W.Frag} {mg : Str → Option Value} (T : Txt K mg) : PySem.W.keepIn K (.ref (T.a_Lost)) = true := (TopB.exc T 17 rfl : ExcT K mg "Lost").k
theorem Txt.b_Lost {K : PySem.W.Frag} {mg : Str → Option Value} (T : Txt K mg) : PySem.W.subIn K (.ref (T.a_Lost)) (.type "BaseException") = some true := (TopB.exc T 17 rfl : ExcT K mg "Lost").b
theorem Txt.t_Lost {K : PySem.W.Frag} {mg : Str → Option Value} (T : Txt K mg) : PySem.W.typeIn K (.ref (T.a_Lost)) = some (.type "type") := (TopB.exc T 17 rfl : ExcT K mg "Lost").t
theorem Txt.i_Lost {K : PySem.W.Frag} {mg : Str → Option Value} (T : Txt K mg) : PySem.W.isClsIn K (T.a_Lost) = true := (TopB.exc T 17 rfl : ExcT K mg "Lost").i
theorem Txt.h_Lost {K : PySem.W.Frag} {mg : Str → Option Value} (T : Txt K mg) : PySem.W.hasDictIn K (T.a_Lost) = true := (TopB.exc T 17 rfl : ExcT K mg "Lost").h
theorem Txt.ga_Lost {K : PySem.W.Frag} {mg : Str → Option Value} (T : Txt K mg) : PySem.W.findIn K (.ref (T.a_Lost)) "__getattribute__" = some (some (.builtin "BaseException.__getattribute__")) := (TopB.exc T 17 rfl : ExcT K mg "Lost").ga
theorem Txt.gg_Lost {K : PySem.W.Frag} {mg : Str → Option Value} (T : Txt K mg) : PySem.W.findIn K (.ref (T.a_Lost)) "__getattr__" = some none := (TopB.exc T 17 rfl : ExcT K mg "Lost").gg
theorem Txt.cl_Lost {K : PySem.W.Frag} {mg : Str → Option Value} (T : Txt K mg) : PySem.W.findIn K (.ref (T.a_Lost)) "__class__" = some (some (.builtin "object.__class__")) := (TopB.exc T 17 rfl : ExcT K mg "Lost").cl
theorem Txt.mo_Lost {K : PySem.W.Frag} {mg : Str → Option Value} (T : Txt K mg) : PySem.W.mroIn K (T.a_Lost) (.type "object") = some true := (TopB.exc T 17 rfl : ExcT K mg "Lost").mo
theorem Txt.s_Lost_MastError {K : PySem.W.Frag} {mg : Str → Option Value} (T : Txt K mg) : PySem.W.subIn K (.ref (T.a_Lost)) (.ref (He.ga K "MastError")) = some true := (TopB.exc T 17 rfl : ExcT K mg "Lost").s
abbrev Txt.a_Legible {K : PySem.W.Frag} {mg : Str → Option Value} (T : Txt K mg) : Addr := He.ga K "Legible"
theorem Txt.g_Legible {K : PySem.W.Frag} {mg : Str → Option Value} (T : Txt K mg) : mg "Legible" = some (.ref (T.a_Legible)) := (TopB.exc T 18 rfl : ExcT K mg "Legible").g
theorem Txt.x_Legible {K : PySem.W.Frag} {mg : Str → Option Value} (T : Txt K mg) : PySem.W.excIn K (T.a_Legible) He.veBase "ValueError.__new__" = true := (TopB.exc T 18 rfl : ExcT K mg "Legible").x
theorem Txt.k_Legible {K : PySem.W.Frag} {mg : Str → Option Value} (T : Txt K mg) : PySem.W.keepIn K (.ref (T.a_Legible)) = true := (TopB.exc T 18 rfl : ExcT K mg "Legible").k
theorem Txt.b_Legible {K : PySem.W.Frag} {mg : Str → Option Value} (T : Txt K mg) : PySem.W.subIn K (.ref (T.a_Legible)) (.type "BaseException") = some true := (TopB.exc T 18 rfl : ExcT K mg "Legible").b
theorem Txt.t_Legible {K : PySem.W.Frag} {mg : Str → Option Value} (T : Txt K mg) : PySem.W.typeIn K (.ref (T.a_Legible)) = some (.type "type") := (TopB.exc T 18 rfl : ExcT K mg "Legible").t
theorem Txt.i_Legible {K : PySem.W.Frag} {mg : Str → Option Value} (T : Txt K mg) : PySem.W.isClsIn K (T.a_Legible) = true := (TopB.exc T 18 rfl : ExcT K mg "Legible").i
theorem Txt.h_Legible {K : PySem.W.Frag} {mg : Str → Option Value} (T : Txt K mg) : PySem.W.hasDictIn K (T.a_Legible) = true := (TopB.exc T 18 rfl : ExcT K mg "Legible").h
theorem Txt.ga_Legible {K : PySem.W.Frag} {mg : Str → Option Value} (T : Txt K mg) : PySem.W.findIn K (.ref (T.a_Legible)) "__getattribute__" = some (some (.builtin "BaseException.__getattribute__")) := (TopB.exc T 18 rfl : ExcT K mg "Legible").ga
theorem Txt.gg_Legible {K : PySem.W.Frag} {mg : Str → Option Value} (T : Txt K mg) : PySem.W.findIn K (.ref (T.a_Legible)) "__getattr__" = some none := (TopB.exc T 18 rfl : ExcT K mg "Legible").gg
theorem Txt.cl_Legible {K : PySem.W.Frag} {mg : Str → Option Value} (T : Txt K mg) : PySem.W.findIn K (.ref (T.a_Legible)) "__class__" = some (some (.builtin "object.__class__")) := (TopB.exc T 18 rfl : ExcT K mg "Legible").cl
theorem Txt.mo_Legible {K : PySem.W.Frag} {mg : Str → Option Value} (T : Txt K mg) : PySem.W.mroIn K (T.a_Legible) (.type "object") = some true := (TopB.exc T 18 rfl : ExcT K mg "Legible").mo
theorem Txt.s_Legible_MastError {K : PySem.W.Frag} {mg : Str → Option Value} (T : Txt K mg) : PySem.W.subIn K (.ref (T.a_Legible)) (.ref (He.ga K "MastError")) = some true := (TopB.exc T 18 rfl : ExcT K mg "Legible").s
abbrev Txt.a_NothingLeft {K : PySem.W.Frag} {mg : Str → Option Value} (T : Txt K mg) : Addr := He.ga K "NothingLeft"
theorem Txt.g_NothingLeft {K : PySem.W.Frag} {mg : Str → Option Value} (T : Txt K mg) : mg "NothingLeft" = some (.ref (T.a_NothingLeft)) := (TopB.exc T 19 rfl : ExcT K mg "NothingLeft").g
theorem Txt.x_NothingLeft {K : PySem.W.Frag} {mg : Str → Option Value} (T : Txt K mg) : PySem.W.excIn K (T.a_NothingLeft) He.veBase "ValueError.__new__" = true := (TopB.exc T 19 rfl : ExcT K mg "NothingLeft").x
theorem Txt.k_NothingLeft {K : PySem.W.Frag} {mg : Str → Option Value} (T : Txt K mg) : PySem.W.keepIn K (.ref (T.a_NothingLeft)) = true := (TopB.exc T 19 rfl : ExcT K mg "NothingLeft").k
theorem Txt.b_NothingLeft {K : PySem.W.Frag} {mg : Str → Option Value} (T : Txt K mg) : PySem.W.subIn K (.ref (T.a_NothingLeft)) (.type "BaseException") = some true := (TopB.exc T 19 rfl : ExcT K mg "NothingLeft").b
theorem Txt.t_NothingLeft {K : PySem.W.Frag} {mg : Str → Option Value} (T : Txt K mg) : PySem.W.typeIn K (.ref (T.a_NothingLeft)) = some (.type "type") := (TopB.exc T 19 rfl : ExcT K mg "NothingLeft").t
theorem Txt.i_NothingLeft {K : PySem.W.Frag} {mg : Str → Option Value} (T : Txt K mg) : PySem.W.isClsIn K (T.a_NothingLeft) = true := (TopB.exc T 19 rfl : ExcT K mg "NothingLeft").i
theorem Txt.h_NothingLeft {K : PySem.W.Frag} {mg : Str → Option Value} (T : Txt K mg) : PySem.W.hasDictIn K (T.a_NothingLeft) = true := (TopB.exc T 19 rfl : ExcT K mg "NothingLeft").h
theorem Txt.ga_NothingLeft {K : PySem.W.Frag} {mg : Str → Option Value} (T : Txt K mg) : PySem.W.findIn K (.ref (T.a_NothingLeft)) "__getattribute__" = some (some (.builtin "BaseException.__getattribute__")) := (TopB.exc T 19 rfl : ExcT K mg "NothingLeft").ga
theorem Txt.gg_NothingLeft {K : PySem.W.Frag} {mg : Str → Option Value} (T : Txt K mg) : PySem.W.findIn K (.ref (T.a_NothingLeft)) "__getattr__" = some none := (TopB.exc T 19 rfl : ExcT K mg "NothingLeft").gg
theorem Txt.cl_NothingLeft {K : PySem.W.Frag} {mg : Str → Option Value} (T : Txt K mg) : PySem.W.findIn K (.ref (T.a_NothingLeft)) "__class__" = some (some (.builtin "object.__class__")) := (TopB.exc T 19 rfl : ExcT K mg "NothingLeft").cl
theorem Txt.mo_NothingLeft {K : PySem.W.Frag} {mg : Str → Option Value} (T : Txt K mg) : PySem.W.mroIn K (T.a_NothingLeft) (.type "object") = some true := (TopB.exc T 19 rfl : ExcT K mg "NothingLeft").mo
theorem Txt.s_NothingLeft_MastError {K : PySem.W.Frag} {mg : Str → Option Value} (T : Txt K mg) : PySem.W.subIn K (.ref (T.a_NothingLeft)) (.ref (He.ga K "MastError")) = some true := (TopB.exc T 19 rfl : ExcT K mg "NothingLeft").s
abbrev Txt.a_BadPlace {K : PySem.W.Frag} {mg : Str → Option Value} (T : Txt K mg) : Addr := He.ga K "BadPlace"
theorem Txt.g_BadPlace {K : PySem.W.Frag} {mg : Str → Option Value} (T : Txt K mg) : mg "BadPlace" = some (.ref (T.a_BadPlace)) := (TopB.exc T 20 rfl : ExcT K mg "BadPlace").g
theorem Txt.x_BadPlace {K : PySem.W.Frag} {mg : Str → Option Value} (T : Txt K mg) : PySem.W.excIn K (T.a_BadPlace) He.veBase "ValueError.__new__" = true := (TopB.exc T 20 rfl : ExcT K mg "BadPlace").x
theorem Txt.k_BadPlace {K : PySem.W.Frag} {mg : Str → Option Value} (T : Txt K mg) : PySem.W.keepIn K (.ref (T.a_BadPlace)) = true := (TopB.exc T 20 rfl : ExcT K mg "BadPlace").k
theorem Txt.b_BadPlace {K : PySem.W.Frag} {mg : Str → Option Value} (T : Txt K mg) : PySem.W.subIn K (.ref (T.a_BadPlace)) (.type "BaseException") = some true := (TopB.exc T 20 rfl : ExcT K mg "BadPlace").b
theorem Txt.t_BadPlace {K : PySem.W.Frag} {mg : Str → Option Value} (T : Txt K mg) : PySem.W.typeIn K (.ref (T.a_BadPlace)) = some (.type "type") := (TopB.exc T 20 rfl : ExcT K mg "BadPlace").t
theorem Txt.i_BadPlace {K : PySem.W.Frag} {mg : Str → Option Value} (T : Txt K mg) : PySem.W.isClsIn K (T.a_BadPlace) = true := (TopB.exc T 20 rfl : ExcT K mg "BadPlace").i
theorem Txt.h_BadPlace {K : PySem.W.Frag} {mg : Str → Option Value} (T : Txt K mg) : PySem.W.hasDictIn K (T.a_BadPlace) = true := (TopB.exc T 20 rfl : ExcT K mg "BadPlace").h
theorem Txt.ga_BadPlace {K : PySem.W.Frag} {mg : Str → Option Value} (T : Txt K mg) : PySem.W.findIn K (.ref (T.a_BadPlace)) "__getattribute__" = some (some (.builtin "BaseException.__getattribute__")) := (TopB.exc T 20 rfl : ExcT K mg "BadPlace").ga
theorem Txt.gg_BadPlace {K : PySem.W.Frag} {mg : Str → Option Value} (T : Txt K mg) : PySem.W.findIn K (.ref (T.a_BadPlace)) "__getattr__" = some none := (TopB.exc T 20 rfl : ExcT K mg "BadPlace").gg
theorem Txt.cl_BadPlace {K : PySem.W.Frag} {mg : Str → Option Value} (T : Txt K mg) : PySem.W.findIn K (.ref (T.a_BadPlace)) "__class__" = some (some (.builtin "object.__class__")) := (TopB.exc T 20 rfl : ExcT K mg "BadPlace").cl
theorem Txt.mo_BadPlace {K : PySem.W.Frag} {mg : Str → Option Value} (T : Txt K mg) : PySem.W.mroIn K (T.a_BadPlace) (.type "object") = some true := (TopB.exc T 20 rfl : ExcT K mg "BadPlace").mo
theorem Txt.s_BadPlace_MastError {K : PySem.W.Frag} {mg : Str → Option Value} (T : Txt K mg) : PySem.W.subIn K (.ref (T.a_BadPlace)) (.ref (He.ga K "MastError")) = some true := (TopB.exc T 20 rfl : ExcT K mg "BadPlace").s
abbrev Txt.a_BadWord {K : PySem.W.Frag} {mg : Str → Option Value} (T : Txt K mg) : Addr := He.ga K "BadWord"
theorem Txt.g_BadWord {K : PySem.W.Frag} {mg : Str → Option Value} (T : Txt K mg) : mg "BadWord" = some (.ref (T.a_BadWord)) := (TopB.exc T 21 rfl : ExcT K mg "BadWord").g
theorem Txt.x_BadWord {K : PySem.W.Frag} {mg : Str → Option Value} (T : Txt K mg) : PySem.W.excIn K (T.a_BadWord) He.veBase "ValueError.__new__" = true := (TopB.exc T 21 rfl : ExcT K mg "BadWord").x
theorem Txt.k_BadWord {K : PySem.W.Frag} {mg : Str → Option Value} (T : Txt K mg) : PySem.W.keepIn K (.ref (T.a_BadWord)) = true := (TopB.exc T 21 rfl : ExcT K mg "BadWord").k
theorem Txt.b_BadWord {K : PySem.W.Frag} {mg : Str → Option Value} (T : Txt K mg) : PySem.W.subIn K (.ref (T.a_BadWord)) (.type "BaseException") = some true := (TopB.exc T 21 rfl : ExcT K mg "BadWord").b
theorem Txt.t_BadWord {K : PySem.W.Frag} {mg : Str → Option Value} (T : Txt K mg) : PySem.W.typeIn K (.ref (T.a_BadWord)) = some (.type "type") := (TopB.exc T 21 rfl : ExcT K mg "BadWord").t
theorem Txt.i_BadWord {K : PySem.W.Frag} {mg : Str → Option Value} (T : Txt K mg) : PySem.W.isClsIn K (T.a_BadWord) = true := (TopB.exc T 21 rfl : ExcT K mg "BadWord").i
theorem Txt.h_BadWord {K : PySem.W.Frag} {mg : Str → Option Value} (T : Txt K mg) : PySem.W.hasDictIn K (T.a_BadWord) = true := (TopB.exc T 21 rfl : ExcT K mg "BadWord").h
theorem Txt.ga_BadWord {K : PySem.W.Frag} {mg : Str → Option Value} (T : Txt K mg) : PySem.W.findIn K (.ref (T.a_BadWord)) "__getattribute__" = some (some (.builtin "BaseException.__getattribute__")) := (TopB.exc T 21 rfl : ExcT K mg "BadWord").ga
theorem Txt.gg_BadWord {K : PySem.W.Frag} {mg : Str → Option Value} (T : Txt K mg) : PySem.W.findIn K (.ref (T.a_BadWord)) "__getattr__" = some none := (TopB.exc T 21 rfl : ExcT K mg "BadWord").gg
theorem Txt.cl_BadWord {K : PySem.W.Frag} {mg : Str → Option Value} (T : Txt K mg) : PySem.W.findIn K (.ref (T.a_BadWord)) "__class__" = some (some (.builtin "object.__class__")) := (TopB.exc T 21 rfl : ExcT K mg "BadWord").cl
theorem Txt.mo_BadWord {K : PySem.W.Frag} {mg : Str → Option Value} (T : Txt K mg) : PySem.W.mroIn K (T.a_BadWord) (.type "object") = some true := (TopB.exc T 21 rfl : ExcT K mg "BadWord").mo
theorem Txt.s_BadWord_MastError {K : PySem.W.Frag} {mg : Str → Option Value} (T : Txt K mg) : PySem.W.subIn K (.ref (T.a_BadWord)) (.ref (He.ga K "MastError")) = some true := (TopB.exc T 21 rfl : ExcT K mg "BadWord").s
abbrev Txt.a_Taken {K : PySem.W.Frag} {mg : Str → Option Value} (T : Txt K mg) : Addr := He.ga K "Taken"
theorem Txt.g_Taken {K : PySem.W.Frag} {mg : Str → Option Value} (T : Txt K mg) : mg "Taken" = some (.ref (T.a_Taken)) := (TopB.exc T 22 rfl : ExcT K mg "Taken").g
theorem Txt.x_Taken {K : PySem.W.Frag} {mg : Str → Option Value} (T : Txt K mg) : PySem.W.excIn K (T.a_Taken) He.veBase "ValueError.__new__" = true := (TopB.exc T 22 rfl : ExcT K mg "Taken").x
theorem Txt.k_Taken {K : PySem.W.Frag} {mg : Str → Option Value} (T : Txt K mg) : PySem.W.keepIn K (.ref (T.a_Taken)) = true := (TopB.exc T 22 rfl : ExcT K mg "Taken").k
theorem Txt.b_Taken {K : PySem.W.Frag} {mg : Str → Option Value} (T : Txt K mg) : PySem.W.subIn K (.ref (T.a_Taken)) (.type "BaseException") = some true := (TopB.exc T 22 rfl : ExcT K mg "Taken").b
theorem Txt.t_Taken {K : PySem.W.Frag} {mg : Str → Option Value} (T : Txt K mg) : PySem.W.typeIn K (.ref (T.a_Taken)) = some (.type "type") := (TopB.exc T 22 rfl : ExcT K mg "Taken").t
theorem Txt.i_Taken {K : PySem.W.Frag} {mg : Str → Option Value} (T : Txt K mg) : PySem.W.isClsIn K (T.a_Taken) = true := (TopB.exc T 22 rfl : ExcT K mg "Taken").i
theorem Txt.h_Taken {K : PySem.W.Frag} {mg : Str → Option Value} (T : Txt K mg) : PySem.W.hasDictIn K (T.a_Taken) = true := (TopB.exc T 22 rfl : ExcT K mg "Taken").h
theorem Txt.ga_Taken {K : PySem.W.Frag} {mg : Str → Option Value} (T : Txt K mg) : PySem.W.findIn K (.ref (T.a_Taken)) "__getattribute__" = some (some (.builtin "BaseException.__getattribute__")) := (TopB.exc T 22 rfl : ExcT K mg "Taken").ga
theorem Txt.gg_Taken {K : PySem.W.Frag} {mg : Str → Option Value} (T : Txt K mg) : PySem.W.findIn K (.ref (T.a_Taken)) "__getattr__" = some none := (TopB.exc T 22 rfl : ExcT K mg "Taken").gg
theorem Txt.cl_Taken {K : PySem.W.Frag} {mg : Str → Option Value} (T : Txt K mg) : PySem.W.findIn K (.ref (T.a_Taken)) "__class__" = some (some (.builtin "object.__class__")) := (TopB.exc T 22 rfl : ExcT K mg "Taken").cl
theorem Txt.mo_Taken {K : PySem.W.Frag} {mg : Str → Option Value} (T : Txt K mg) : PySem.W.mroIn K (T.a_Taken) (.type "object") = some true := (TopB.exc T 22 rfl : ExcT K mg "Taken").mo
theorem Txt.s_Taken_MastError {K : PySem.W.Frag} {mg : Str → Option Value} (T : Txt K mg) : PySem.W.subIn K (.ref (T.a_Taken)) (.ref (He.ga K "MastError")) = some true := (TopB.exc T 22 rfl : ExcT K mg "Taken").s
abbrev Txt.a_Known {K : PySem.W.Frag} {mg : Str → Option Value} (T : Txt K mg) : Addr := He.ga K "Known"
theorem Txt.g_Known {K : PySem.W.Frag} {mg : Str → Option Value} (T : Txt K mg) : mg "Known" = some (.ref (T.a_Known)) := (TopB.exc T 23 rfl : ExcT K mg "Known").g
theorem Txt.x_Known {K : PySem.W.Frag} {mg : Str → Option Value} (T : Txt K mg) : PySem.W.excIn K (T.a_Known) He.veBase "ValueError.__new__" = true := (TopB.exc T 23 rfl : ExcT K mg "Known").x
theorem Txt.k_Known {K : PySem.W.Frag} {mg : Str → Option Value} (T : Txt K mg) : PySem.W.keepIn K (.ref (T.a_Known)) = true := (TopB.exc T 23 rfl : ExcT K mg "Known").k
theorem Txt.b_Known {K : PySem.W.Frag} {mg : Str → Option Value} (T : Txt K mg) : PySem.W.subIn K (.ref (T.a_Known)) (.type "BaseException") = some true := (TopB.exc T 23 rfl : ExcT K mg "Known").b
theorem Txt.t_Known {K : PySem.W.Frag} {mg : Str → Option Value} (T : Txt K mg) : PySem.W.typeIn K (.ref (T.a_Known)) = some (.type "type") := (TopB.exc T 23 rfl : ExcT K mg "Known").t
theorem Txt.i_Known {K : PySem.W.Frag} {mg : Str → Option Value} (T : Txt K mg) : PySem.W.isClsIn K (T.a_Known) = true := (TopB.exc T 23 rfl : ExcT K mg "Known").i
theorem Txt.h_Known {K : PySem.W.Frag} {mg : Str → Option Value} (T : Txt K mg) : PySem.W.hasDictIn K (T.a_Known) = true := (TopB.exc T 23 rfl : ExcT K mg "Known").h
theorem Txt.ga_Known {K : PySem.W.Frag} {mg : Str → Option Value} (T : Txt K mg) : PySem.W.findIn K (.ref (T.a_Known)) "__getattribute__" = some (some (.builtin "BaseException.__getattribute__")) := (TopB.exc T 23 rfl : ExcT K mg "Known").ga
theorem Txt.gg_Known {K : PySem.W.Frag} {mg : Str → Option Value} (T : Txt K mg) : PySem.W.findIn K (.ref (T.a_Known)) "__getattr__" = some none := (TopB.exc T 23 rfl : ExcT K mg "Known").gg
theorem Txt.cl_Known {K : PySem.W.Frag} {mg : Str → Option Value} (T : Txt K mg) : PySem.W.findIn K (.ref (T.a_Known)) "__class__" = some (some (.builtin "object.__class__")) := (TopB.exc T 23 rfl : ExcT K mg "Known").cl
theorem Txt.mo_Known {K : PySem.W.Frag} {mg : Str → Option Value} (T : Txt K mg) : PySem.W.mroIn K (T.a_Known) (.type "object") = some true := (TopB.exc T 23 rfl : ExcT K mg "Known").mo
theorem Txt.s_Known_MastError {K : PySem.W.Frag} {mg : Str → Option Value} (T : Txt K mg) : PySem.W.subIn K (.ref (T.a_Known)) (.ref (He.ga K "MastError")) = some true := (TopB.exc T 23 rfl : ExcT K mg "Known").s
abbrev Txt.a_NoWord {K : PySem.W.Frag} {mg : Str → Option Value} (T : Txt K mg) : Addr := He.ga K "NoWord"
theorem Txt.g_NoWord {K : PySem.W.Frag} {mg : Str → Option Value} (T : Txt K mg) : mg "NoWord" = some (.ref (T.a_NoWord)) := (TopB.exc T 24 rfl : ExcT K mg "NoWord").g
theorem Txt.x_NoWord {K : PySem.W.Frag} {mg : Str → Option Value} (T : Txt K mg) : PySem.W.excIn K (T.a_NoWord) He.veBase "ValueError.__new__" = true := (TopB.exc T 24 rfl : ExcT K mg "NoWord").x
theorem Txt.k_NoWord {K : PySem.W.Frag} {mg : Str → Option Value} (T : Txt K mg) : PySem.W.keepIn K (.ref (T.a_NoWord)) = true := (TopB.exc T 24 rfl : ExcT K mg "NoWord").k
theorem Txt.b_NoWord {K : PySem.W.Frag} {mg : Str → Option Value} (T : Txt K mg) : PySem.W.subIn K (.ref (T.a_NoWord)) (.type "BaseException") = some true := (TopB.exc T 24 rfl : ExcT K mg "NoWord").b
theorem Txt.t_NoWord {K : PySem.W.Frag} {mg : Str → Option Value} (T : Txt K mg) : PySem.W.typeIn K (.ref (T.a_NoWord)) = some (.type "type") := (TopB.exc T 24 rfl : ExcT K mg "NoWord").t
theorem Txt.i_NoWord {K : PySem.W.Frag} {mg : Str → Option Value} (T : Txt K mg) : PySem.W.isClsIn K (T.a_NoWord) = true := (TopB.exc T 24 rfl : ExcT K mg "NoWord").i
theorem Txt.h_NoWord {K : PySem.W.Frag} {mg : Str → Option Value} (T : Txt K mg) : PySem.W.hasDictIn K (T.a_NoWord) = true := (TopB.exc T 24 rfl : ExcT K mg "NoWord").h
theorem Txt.ga_NoWord {K : PySem.W.Frag} {mg : Str → Option Value} (T : Txt K mg) : PySem.W.findIn K (.ref (T.a_NoWord)) "__getattribute__" = some (some (.builtin "BaseException.__getattribute__")) := (TopB.exc T 24 rfl : ExcT K mg "NoWord").ga
theorem Txt.gg_NoWord {K : PySem.W.Frag} {mg : Str → Option Value} (T : Txt K mg) : PySem.W.findIn K (.ref (T.a_NoWord)) "__getattr__" = some none := (TopB.exc T 24 rfl : ExcT K mg "NoWord").gg
theorem Txt.cl_NoWord {K : PySem.W.Frag} {mg : Str → Option Value} (T : Txt K mg) : PySem.W.findIn K (.ref (T.a_NoWord)) "__class__" = some (some (.builtin "object.__class__")) := (TopB.exc T 24 rfl : ExcT K mg "NoWord").cl
theorem Txt.mo_NoWord {K : PySem.W.Frag} {mg : Str → Option Value} (T : Txt K mg) : PySem.W.mroIn K (T.a_NoWord) (.type "object") = some true := (TopB.exc T 24 rfl : ExcT K mg "NoWord").mo
theorem Txt.s_NoWord_MastError {K : PySem.W.Frag} {mg : Str → Option Value} (T : Txt K mg) : PySem.W.subIn K (.ref (T.a_NoWord)) (.ref (He.ga K "MastError")) = some true := (TopB.exc T 24 rfl : ExcT K mg "NoWord").s
abbrev Txt.a_Phrasebook {K : PySem.W.Frag} {mg : Str → Option Value} (T : Txt K mg) : Addr := He.ga K "Phrasebook"
theorem Txt.g_Phrasebook {K : PySem.W.Frag} {mg : Str → Option Value} (T : Txt K mg) : mg "Phrasebook" = some (.ref (T.a_Phrasebook)) := TopB.glo T 1 rfl
theorem Txt.cl_Phrasebook {K : PySem.W.Frag} {mg : Str → Option Value} (T : Txt K mg) : Cls K (T.a_Phrasebook) := He.cls_ok (TopB.one T (f := .cls "Phrasebook") 2 rfl)
theorem Txt.n_Phrasebook_word_by_place {K : PySem.W.Frag} {mg : Str → Option Value} (T : Txt K mg) : NoAttr K (T.a_Phrasebook) "word_by_place" := He.noat_ok (TopB.one T (f := .noat "Phrasebook" "word_by_place") 3 rfl)
theorem Txt.n_Phrasebook_place_by_word {K : PySem.W.Frag} {mg : Str → Option Value} (T : Txt K mg) : NoAttr K (T.a_Phrasebook) "place_by_word" := He.noat_ok (TopB.one T (f := .noat "Phrasebook" "place_by_word") 4 rfl)
theorem Txt.K_Phrasebook {K : PySem.W.Frag} {mg : Str → Option Value} (T : Txt K mg) : Mk K (T.a_Phrasebook) (He.fAd K ("Phrasebook", some "__init__")) := He.mkr_ok (TopB.one T (f := .mkr "Phrasebook") 5 rfl)
abbrev Txt.a_State {K : PySem.W.Frag} {mg : Str → Option Value} (T : Txt K mg) : Addr := He.ga K "State"
theorem Txt.g_State {K : PySem.W.Frag} {mg : Str → Option Value} (T : Txt K mg) : mg "State" = some (.ref (T.a_State)) := TopB.glo T 6 rfl
theorem Txt.cl_State {K : PySem.W.Frag} {mg : Str → Option Value} (T : Txt K mg) : Cls K (T.a_State) := He.cls_ok (TopB.one T (f := .cls "State") 7 rfl)
theorem Txt.n_State_rows {K : PySem.W.Frag} {mg : Str → Option Value} (T : Txt K mg) : NoAttr K (T.a_State) "rows" := He.noat_ok (TopB.one T (f := .noat "State" "rows") 8 rfl)
theorem Txt.n_State_phrasebook {K : PySem.W.Frag} {mg : Str → Option Value} (T : Txt K mg) : NoAttr K (T.a_State) "phrasebook" := He.noat_ok (TopB.one T (f := .noat "State" "phrasebook") 9 rfl)
theorem Txt.K_State {K : PySem.W.Frag} {mg : Str → Option Value} (T : Txt K mg) : Mk K (T.a_State) (He.fAd K ("State", some "__init__")) := He.mkr_ok (TopB.one T (f := .mkr "State") 10 rfl)
abbrev Txt.a_Line {K : PySem.W.Frag} {mg : Str → Option Value} (T : Txt K mg) : Addr := He.ga K "Line"
theorem Txt.g_Line {K : PySem.W.Frag} {mg : Str → Option Value} (T : Txt K mg) : mg "Line" = some (.ref (T.a_Line)) := TopB.glo T 11 rfl
theorem Txt.cl_Line {K : PySem.W.Frag} {mg : Str → Option Value} (T : Txt K mg) : Cls K (T.a_Line) := He.cls_ok (TopB.one T (f := .cls "Line") 12 rfl)
theorem Txt.n_Line_state {K : PySem.W.Frag} {mg : Str → Option Value} (T : Txt K mg) : NoAttr K (T.a_Line) "state" := He.noat_ok (TopB.one T (f := .noat "Line" "state") 13 rfl)
theorem Txt.n_Line_past {K : PySem.W.Frag} {mg : Str → Option Value} (T : Txt K mg) : NoAttr K (T.a_Line) "past" := He.noat_ok (TopB.one T (f := .noat "Line" "past") 14 rfl)
theorem Txt.n_Line_future {K : PySem.W.Frag} {mg : Str → Option Value} (T : Txt K mg) : NoAttr K (T.a_Line) "future" := He.noat_ok (TopB.one T (f := .noat "Line" "future") 15 rfl)
theorem Txt.K_Line {K : PySem.W.Frag} {mg : Str → Option Value} (T : Txt K mg) : Mk K (T.a_Line) (He.fAd K ("Line", some "__init__")) := He.mkr_ok (TopB.one T (f := .mkr "Line") 16 rfl)
abbrev Txt.f_p_Phrasebook_init {K : PySem.W.Frag} {mg : Str → Option Value} (T : Txt K mg) : Addr := He.fAd K ("Phrasebook", some "__init__")
abbrev Txt.d_p_Phrasebook_init {K : PySem.W.Frag} {mg : Str → Option Value} (T : Txt K mg) : FuncData := fdOf K (He.fAd K ("Phrasebook", some "__init__"))
theorem Txt.F_p_Phrasebook_init {K : PySem.W.Frag} {mg : Str → Option Value} (T : Txt K mg) : Fun K "__init__" "Phrasebook.__init__" s_p_Phrasebook_init (T.f_p_Phrasebook_init) (T.d_p_Phrasebook_init) := TopB.fun_ T (a := ("Phrasebook", some "__init__")) 0 rfl
theorem Txt.b_p_Phrasebook_init {K : PySem.W.Frag} {mg : Str → Option Value} (T : Txt K mg) : Binds K (T.d_p_Phrasebook_init) ["self"] [] := (T.F_p_Phrasebook_init).binds (ps := ["self"]) fun _ _ _ _ _ _ us hl => match us, hl with | [_], _ => rfl
theorem Txt.M_p_Phrasebook_init {K : PySem.W.Frag} {mg : Str → Option Value} (T : Txt K mg) : Meth K (T.a_Phrasebook) "__init__" (T.f_p_Phrasebook_init) := He.meth_ok (TopB.one T (f := .meth "Phrasebook" "__init__") 17 rfl)
abbrev Txt.f_p_check_mast {K : PySem.W.Frag} {mg : Str → Option Value} (T : Txt K mg) : Addr := He.fAd K ("check_mast", none)
abbrev Txt.d_p_check_mast {K : PySem.W.Frag} {mg : Str → Option Value} (T : Txt K mg) : FuncData := fdOf K (He.fAd K ("check_mast", none))
theorem Txt.F_p_check_mast {K : PySem.W.Frag} {mg : Str → Option Value} (T : Txt K mg) : Fun K "check_mast" "check_mast" s_p_check_mast (T.f_p_check_mast) (T.d_p_check_mast) := TopB.fun_ T (a := ("check_mast", none)) 1 rfl
theorem Txt.b_p_check_mast {K : PySem.W.Frag} {mg : Str → Option Value} (T : Txt K mg) : Binds K (T.d_p_check_mast) ["masts", "mast"] [] := (T.F_p_check_mast).binds (ps := ["masts", "mast"]) fun _ _ _ _ _ _ us hl => match us, hl with | [_, _], _ => rfl
theorem Txt.g_p_check_mast {K : PySem.W.Frag} {mg : Str → Option Value} (T : Txt K mg) : mg "check_mast" = some (.ref (T.f_p_check_mast)) := TopB.glo T 18 rfl
abbrev Txt.f_p_queue_of {K : PySem.W.Frag} {mg : Str → Option Value} (T : Txt K mg) : Addr := He.fAd K ("queue_of", none)
abbrev Txt.d_p_queue_of {K : PySem.W.Frag} {mg : Str → Option Value} (T : Txt K mg) : FuncData := fdOf K (He.fAd K ("queue_of", none))
theorem Txt.F_p_queue_of {K : PySem.W.Frag} {mg : Str → Option Value} (T : Txt K mg) : Fun K "queue_of" "queue_of" s_p_queue_of (T.f_p_queue_of) (T.d_p_queue_of) := TopB.fun_ T (a := ("queue_of", none)) 2 rfl
theorem Txt.b_p_queue_of {K : PySem.W.Frag} {mg : Str → Option Value} (T : Txt K mg) : Binds K (T.d_p_queue_of) ["way"] [] := (T.F_p_queue_of).binds (ps := ["way"]) fun _ _ _ _ _ _ us hl => match us, hl with | [_], _ => rfl
theorem Txt.g_p_queue_of {K : PySem.W.Frag} {mg : Str → Option Value} (T : Txt K mg) : mg "queue_of" = some (.ref (T.f_p_queue_of)) := TopB.glo T 19 rfl
abbrev Txt.f_p_book_of {K : PySem.W.Frag} {mg : Str → Option Value} (T : Txt K mg) : Addr := He.fAd K ("book_of", none)
abbrev Txt.d_p_book_of {K : PySem.W.Frag} {mg : Str → Option Value} (T : Txt K mg) : FuncData := fdOf K (He.fAd K ("book_of", none))
theorem Txt.F_p_book_of {K : PySem.W.Frag} {mg : Str → Option Value} (T : Txt K mg) : Fun K "book_of" "book_of" s_p_book_of (T.f_p_book_of) (T.d_p_book_of) := TopB.fun_ T (a := ("book_of", none)) 3 rfl
theorem Txt.b_p_book_of {K : PySem.W.Frag} {mg : Str → Option Value} (T : Txt K mg) : Binds K (T.d_p_book_of) ["way", "mast"] [] := (T.F_p_book_of).binds (ps := ["way", "mast"]) fun _ _ _ _ _ _ us hl => match us, hl with | [_, _], _ => rfl
theorem Txt.g_p_book_of {K : PySem.W.Frag} {mg : Str → Option Value} (T : Txt K mg) : mg "book_of" = some (.ref (T.f_p_book_of)) := TopB.glo T 20 rfl
abbrev Txt.f_p_new_rows {K : PySem.W.Frag} {mg : Str → Option Value} (T : Txt K mg) : Addr := He.fAd K ("new_rows", none)
abbrev Txt.d_p_new_rows {K : PySem.W.Frag} {mg : Str → Option Value} (T : Txt K mg) : FuncData := fdOf K (He.fAd K ("new_rows", none))
theorem Txt.F_p_new_rows {K : PySem.W.Frag} {mg : Str → Option Value} (T : Txt K mg) : Fun K "new_rows" "new_rows" s_p_new_rows (T.f_p_new_rows) (T.d_p_new_rows) := TopB.fun_ T (a := ("new_rows", none)) 4 rfl
theorem Txt.b_p_new_rows {K : PySem.W.Frag} {mg : Str → Option Value} (T : Txt K mg) : Binds K (T.d_p_new_rows) ["masts"] [] := (T.F_p_new_rows).binds (ps := ["masts"]) fun _ _ _ _ _ _ us hl => match us, hl with | [_], _ => rfl
theorem Txt.g_p_new_rows {K : PySem.W.Frag} {mg : Str → Option Value} (T : Txt K mg) : mg "new_rows" = some (.ref (T.f_p_new_rows)) := TopB.glo T 21 rfl
abbrev Txt.f_p_State_init {K : PySem.W.Frag} {mg : Str → Option Value} (T : Txt K mg) : Addr := He.fAd K ("State", some "__init__")
abbrev Txt.d_p_State_init {K : PySem.W.Frag} {mg : Str → Option Value} (T : Txt K mg) : FuncData := fdOf K (He.fAd K ("State", some "__init__"))
theorem Txt.F_p_State_init {K : PySem.W.Frag} {mg : Str → Option Value} (T : Txt K mg) : Fun K "__init__" "State.__init__" s_p_State_init (T.f_p_State_init) (T.d_p_State_init) := TopB.fun_ T (a := ("State", some "__init__")) 5 rfl
theorem Txt.b_p_State_init {K : PySem.W.Frag} {mg : Str → Option Value} (T : Txt K mg) : Binds K (T.d_p_State_init) ["self", "masts"] [] := (T.F_p_State_init).binds (ps := ["self", "masts"]) fun _ _ _ _ _ _ us hl => match us, hl with | [_, _], _ => rfl
theorem Txt.M_p_State_init {K : PySem.W.Frag} {mg : Str → Option Value} (T : Txt K mg) : Meth K (T.a_State) "__init__" (T.f_p_State_init) := He.meth_ok (TopB.one T (f := .meth "State" "__init__") 22 rfl)
abbrev Txt.f_p_State_make {K : PySem.W.Frag} {mg : Str → Option Value} (T : Txt K mg) : Addr := He.fAd K ("State", some "make")
abbrev Txt.d_p_State_make {K : PySem.W.Frag} {mg : Str → Option Value} (T : Txt K mg) : FuncData := fdOf K (He.fAd K ("State", some "make"))
theorem Txt.F_p_State_make {K : PySem.W.Frag} {mg : Str → Option Value} (T : Txt K mg) : Fun K "make" "State.make" s_p_State_make (T.f_p_State_make) (T.d_p_State_make) := TopB.fun_ T (a := ("State", some "make")) 6 rfl
theorem Txt.b_p_State_make {K : PySem.W.Frag} {mg : Str → Option Value} (T : Txt K mg) : Binds K (T.d_p_State_make) ["self", "changes"] [] := (T.F_p_State_make).binds (ps := ["self", "changes"]) fun _ _ _ _ _ _ us hl => match us, hl with | [_, _], _ => rfl
theorem Txt.M_p_State_make {K : PySem.W.Frag} {mg : Str → Option Value} (T : Txt K mg) : Meth K (T.a_State) "make" (T.f_p_State_make) := He.meth_ok (TopB.one T (f := .meth "State" "make") 23 rfl)
abbrev Txt.f_p_State_swap {K : PySem.W.Frag} {mg : Str → Option Value} (T : Txt K mg) : Addr := He.fAd K ("State", some "swap")
abbrev Txt.d_p_State_swap {K : PySem.W.Frag} {mg : Str → Option Value} (T : Txt K mg) : FuncData := fdOf K (He.fAd K ("State", some "swap"))
theorem Txt.F_p_State_swap {K : PySem.W.Frag} {mg : Str → Option Value} (T : Txt K mg) : Fun K "swap" "State.swap" s_p_State_swap (T.f_p_State_swap) (T.d_p_State_swap) := TopB.fun_ T (a := ("State", some "swap")) 7 rfl
theorem Txt.b_p_State_swap {K : PySem.W.Frag} {mg : Str → Option Value} (T : Txt K mg) : Binds K (T.d_p_State_swap) ["self", "where", "at", "taken", "put"] [] := (T.F_p_State_swap).binds (ps := ["self", "where", "at", "taken", "put"]) fun _ _ _ _ _ _ us hl => match us, hl with | [_, _, _, _, _], _ => rfl
theorem Txt.M_p_State_swap {K : PySem.W.Frag} {mg : Str → Option Value} (T : Txt K mg) : Meth K (T.a_State) "swap" (T.f_p_State_swap) := He.meth_ok (TopB.one T (f := .meth "State" "swap") 24 rfl)
abbrev Txt.f_p_State_size {K : PySem.W.Frag} {mg : Str → Option Value} (T : Txt K mg) : Addr := He.fAd K ("State", some "size")
abbrev Txt.d_p_State_size {K : PySem.W.Frag} {mg : Str → Option Value} (T : Txt K mg) : FuncData := fdOf K (He.fAd K ("State", some "size"))
theorem Txt.F_p_State_size {K : PySem.W.Frag} {mg : Str → Option Value} (T : Txt K mg) : Fun K "size" "State.size" s_p_State_size (T.f_p_State_size) (T.d_p_State_size) := TopB.fun_ T (a := ("State", some "size")) 8 rfl
theorem Txt.b_p_State_size {K : PySem.W.Frag} {mg : Str → Option Value} (T : Txt K mg) : Binds K (T.d_p_State_size) ["self"] [] := (T.F_p_State_size).binds (ps := ["self"]) fun _ _ _ _ _ _ us hl => match us, hl with | [_], _ => rfl
theorem Txt.M_p_State_size {K : PySem.W.Frag} {mg : Str → Option Value} (T : Txt K mg) : Meth K (T.a_State) "size" (T.f_p_State_size) := He.meth_ok (TopB.one T (f := .meth "State" "size") 25 rfl)
abbrev Txt.f_p_State_check_mast {K : PySem.W.Frag} {mg : Str → Option Value} (T : Txt K mg) : Addr := He.fAd K ("State", some "check_mast")
abbrev Txt.d_p_State_check_mast {K : PySem.W.Frag} {mg : Str → Option Value} (T : Txt K mg) : FuncData := fdOf K (He.fAd K ("State", some "check_mast"))
theorem Txt.F_p_State_check_mast {K : PySem.W.Frag} {mg : Str → Option Value} (T : Txt K mg) : Fun K "check_mast" "State.check_mast" s_p_State_check_mast (T.f_p_State_check_mast) (T.d_p_State_check_mast) := TopB.fun_ T (a := ("State", some "check_mast")) 9 rfl
theorem Txt.b_p_State_check_mast {K : PySem.W.Frag} {mg : Str → Option Value} (T : Txt K mg) : Binds K (T.d_p_State_check_mast) ["self", "mast"] [] := (T.F_p_State_check_mast).binds (ps := ["self", "mast"]) fun _ _ _ _ _ _ us hl => match us, hl with | [_, _], _ => rfl
theorem Txt.M_p_State_check_mast {K : PySem.W.Frag} {mg : Str → Option Value} (T : Txt K mg) : Meth K (T.a_State) "check_mast" (T.f_p_State_check_mast) := He.meth_ok (TopB.one T (f := .meth "State" "check_mast") 26 rfl)
abbrev Txt.f_p_State_check_gap {K : PySem.W.Frag} {mg : Str → Option Value} (T : Txt K mg) : Addr := He.fAd K ("State", some "check_gap")
abbrev Txt.d_p_State_check_gap {K : PySem.W.Frag} {mg : Str → Option Value} (T : Txt K mg) : FuncData := fdOf K (He.fAd K ("State", some "check_gap"))
theorem Txt.F_p_State_check_gap {K : PySem.W.Frag} {mg : Str → Option Value} (T : Txt K mg) : Fun K "check_gap" "State.check_gap" s_p_State_check_gap (T.f_p_State_check_gap) (T.d_p_State_check_gap) := TopB.fun_ T (a := ("State", some "check_gap")) 10 rfl
theorem Txt.b_p_State_check_gap {K : PySem.W.Frag} {mg : Str → Option Value} (T : Txt K mg) : Binds K (T.d_p_State_check_gap) ["self", "gap"] [] := (T.F_p_State_check_gap).binds (ps := ["self", "gap"]) fun _ _ _ _ _ _ us hl => match us, hl with | [_, _], _ => rfl
theorem Txt.M_p_State_check_gap {K : PySem.W.Frag} {mg : Str → Option Value} (T : Txt K mg) : Meth K (T.a_State) "check_gap" (T.f_p_State_check_gap) := He.meth_ok (TopB.one T (f := .meth "State" "check_gap") 27 rfl)
abbrev Txt.f_p_State_marked {K : PySem.W.Frag} {mg : Str → Option Value} (T : Txt K mg) : Addr := He.fAd K ("State", some "marked")
abbrev Txt.d_p_State_marked {K : PySem.W.Frag} {mg : Str → Option Value} (T : Txt K mg) : FuncData := fdOf K (He.fAd K ("State", some "marked"))
theorem Txt.F_p_State_marked {K : PySem.W.Frag} {mg : Str → Option Value} (T : Txt K mg) : Fun K "marked" "State.marked" s_p_State_marked (T.f_p_State_marked) (T.d_p_State_marked) := TopB.fun_ T (a := ("State", some "marked")) 11 rfl
theorem Txt.b_p_State_marked {K : PySem.W.Frag} {mg : Str → Option Value} (T : Txt K mg) : Binds K (T.d_p_State_marked) ["self", "where"] [] := (T.F_p_State_marked).binds (ps := ["self", "where"]) fun _ _ _ _ _ _ us hl => match us, hl with | [_, _], _ => rfl
theorem Txt.M_p_State_marked {K : PySem.W.Frag} {mg : Str → Option Value} (T : Txt K mg) : Meth K (T.a_State) "marked" (T.f_p_State_marked) := He.meth_ok (TopB.one T (f := .meth "State" "marked") 28 rfl)
abbrev Txt.f_p_Line_init {K : PySem.W.Frag} {mg : Str → Option Value} (T : Txt K mg) : Addr := He.fAd K ("Line", some "__init__")
abbrev Txt.d_p_Line_init {K : PySem.W.Frag} {mg : Str → Option Value} (T : Txt K mg) : FuncData := fdOf K (He.fAd K ("Line", some "__init__"))
theorem Txt.F_p_Line_init {K : PySem.W.Frag} {mg : Str → Option Value} (T : Txt K mg) : Fun K "__init__" "Line.__init__" s_p_Line_init (T.f_p_Line_init) (T.d_p_Line_init) := TopB.fun_ T (a := ("Line", some "__init__")) 12 rfl
theorem Txt.b_p_Line_init {K : PySem.W.Frag} {mg : Str → Option Value} (T : Txt K mg) : Binds K (T.d_p_Line_init) ["self", "masts"] [] := (T.F_p_Line_init).binds (ps := ["self", "masts"]) fun _ _ _ _ _ _ us hl => match us, hl with | [_, _], _ => rfl
theorem Txt.M_p_Line_init {K : PySem.W.Frag} {mg : Str → Option Value} (T : Txt K mg) : Meth K (T.a_Line) "__init__" (T.f_p_Line_init) := He.meth_ok (TopB.one T (f := .meth "Line" "__init__") 29 rfl)
abbrev Txt.f_p_Line_do {K : PySem.W.Frag} {mg : Str → Option Value} (T : Txt K mg) : Addr := He.fAd K ("Line", some "do")
abbrev Txt.d_p_Line_do {K : PySem.W.Frag} {mg : Str → Option Value} (T : Txt K mg) : FuncData := fdOf K (He.fAd K ("Line", some "do"))
theorem Txt.F_p_Line_do {K : PySem.W.Frag} {mg : Str → Option Value} (T : Txt K mg) : Fun K "do" "Line.do" s_p_Line_do (T.f_p_Line_do) (T.d_p_Line_do) := TopB.fun_ T (a := ("Line", some "do")) 13 rfl
theorem Txt.b_p_Line_do {K : PySem.W.Frag} {mg : Str → Option Value} (T : Txt K mg) : Binds K (T.d_p_Line_do) ["self", "deed", "changes"] [] := (T.F_p_Line_do).binds (ps := ["self", "deed", "changes"]) fun _ _ _ _ _ _ us hl => match us, hl with | [_, _, _], _ => rfl
theorem Txt.M_p_Line_do {K : PySem.W.Frag} {mg : Str → Option Value} (T : Txt K mg) : Meth K (T.a_Line) "do" (T.f_p_Line_do) := He.meth_ok (TopB.one T (f := .meth "Line" "do") 30 rfl)
abbrev Txt.f_p_Line_doze {K : PySem.W.Frag} {mg : Str → Option Value} (T : Txt K mg) : Addr := He.fAd K ("Line", some "doze")
abbrev Txt.d_p_Line_doze {K : PySem.W.Frag} {mg : Str → Option Value} (T : Txt K mg) : FuncData := fdOf K (He.fAd K ("Line", some "doze"))
theorem Txt.F_p_Line_doze {K : PySem.W.Frag} {mg : Str → Option Value} (T : Txt K mg) : Fun K "doze" "Line.doze" s_p_Line_doze (T.f_p_Line_doze) (T.d_p_Line_doze) := TopB.fun_ T (a := ("Line", some "doze")) 14 rfl
theorem Txt.b_p_Line_doze {K : PySem.W.Frag} {mg : Str → Option Value} (T : Txt K mg) : Binds K (T.d_p_Line_doze) ["self", "mast"] [] := (T.F_p_Line_doze).binds (ps := ["self", "mast"]) fun _ _ _ _ _ _ us hl => match us, hl with | [_, _], _ => rfl
theorem Txt.M_p_Line_doze {K : PySem.W.Frag} {mg : Str → Option Value} (T : Txt K mg) : Meth K (T.a_Line) "doze" (T.f_p_Line_doze) := He.meth_ok (TopB.one T (f := .meth "Line" "doze") 31 rfl)
abbrev Txt.f_p_Line_wake {K : PySem.W.Frag} {mg : Str → Option Value} (T : Txt K mg) : Addr := He.fAd K ("Line", some "wake")
abbrev Txt.d_p_Line_wake {K : PySem.W.Frag} {mg : Str → Option Value} (T : Txt K mg) : FuncData := fdOf K (He.fAd K ("Line", some "wake"))
theorem Txt.F_p_Line_wake {K : PySem.W.Frag} {mg : Str → Option Value} (T : Txt K mg) : Fun K "wake" "Line.wake" s_p_Line_wake (T.f_p_Line_wake) (T.d_p_Line_wake) := TopB.fun_ T (a := ("Line", some "wake")) 15 rfl
theorem Txt.b_p_Line_wake {K : PySem.W.Frag} {mg : Str → Option Value} (T : Txt K mg) : Binds K (T.d_p_Line_wake) ["self", "mast"] [] := (T.F_p_Line_wake).binds (ps := ["self", "mast"]) fun _ _ _ _ _ _ us hl => match us, hl with | [_, _], _ => rfl
theorem Txt.M_p_Line_wake {K : PySem.W.Frag} {mg : Str → Option Value} (T : Txt K mg) : Meth K (T.a_Line) "wake" (T.f_p_Line_wake) := He.meth_ok (TopB.one T (f := .meth "Line" "wake") 32 rfl)
abbrev Txt.f_p_Line_fog {K : PySem.W.Frag} {mg : Str → Option Value} (T : Txt K mg) : Addr := He.fAd K ("Line", some "fog")
abbrev Txt.d_p_Line_fog {K : PySem.W.Frag} {mg : Str → Option Value} (T : Txt K mg) : FuncData := fdOf K (He.fAd K ("Line", some "fog"))
theorem Txt.F_p_Line_fog {K : PySem.W.Frag} {mg : Str → Option Value} (T : Txt K mg) : Fun K "fog" "Line.fog" s_p_Line_fog (T.f_p_Line_fog) (T.d_p_Line_fog) := TopB.fun_ T (a := ("Line", some "fog")) 16 rfl
theorem Txt.b_p_Line_fog {K : PySem.W.Frag} {mg : Str → Option Value} (T : Txt K mg) : Binds K (T.d_p_Line_fog) ["self", "gap"] [] := (T.F_p_Line_fog).binds (ps := ["self", "gap"]) fun _ _ _ _ _ _ us hl => match us, hl with | [_, _], _ => rfl
theorem Txt.M_p_Line_fog {K : PySem.W.Frag} {mg : Str → Option Value} (T : Txt K mg) : Meth K (T.a_Line) "fog" (T.f_p_Line_fog) := He.meth_ok (TopB.one T (f := .meth "Line" "fog") 33 rfl)
abbrev Txt.f_p_Line_lift {K : PySem.W.Frag} {mg : Str → Option Value} (T : Txt K mg) : Addr := He.fAd K ("Line", some "lift")
abbrev Txt.d_p_Line_lift {K : PySem.W.Frag} {mg : Str → Option Value} (T : Txt K mg) : FuncData := fdOf K (He.fAd K ("Line", some "lift"))
theorem Txt.F_p_Line_lift {K : PySem.W.Frag} {mg : Str → Option Value} (T : Txt K mg) : Fun K "lift" "Line.lift" s_p_Line_lift (T.f_p_Line_lift) (T.d_p_Line_lift) := TopB.fun_ T (a := ("Line", some "lift")) 17 rfl
theorem Txt.b_p_Line_lift {K : PySem.W.Frag} {mg : Str → Option Value} (T : Txt K mg) : Binds K (T.d_p_Line_lift) ["self", "gap"] [] := (T.F_p_Line_lift).binds (ps := ["self", "gap"]) fun _ _ _ _ _ _ us hl => match us, hl with | [_, _], _ => rfl
theorem Txt.M_p_Line_lift {K : PySem.W.Frag} {mg : Str → Option Value} (T : Txt K mg) : Meth K (T.a_Line) "lift" (T.f_p_Line_lift) := He.meth_ok (TopB.one T (f := .meth "Line" "lift") 34 rfl)
abbrev Txt.f_p_Line_asleep {K : PySem.W.Frag} {mg : Str → Option Value} (T : Txt K mg) : Addr := He.fAd K ("Line", some "asleep")
abbrev Txt.d_p_Line_asleep {K : PySem.W.Frag} {mg : Str → Option Value} (T : Txt K mg) : FuncData := fdOf K (He.fAd K ("Line", some "asleep"))
theorem Txt.F_p_Line_asleep {K : PySem.W.Frag} {mg : Str → Option Value} (T : Txt K mg) : Fun K "asleep" "Line.asleep" s_p_Line_asleep (T.f_p_Line_asleep) (T.d_p_Line_asleep) := TopB.fun_ T (a := ("Line", some "asleep")) 18 rfl
theorem Txt.b_p_Line_asleep {K : PySem.W.Frag} {mg : Str → Option Value} (T : Txt K mg) : Binds K (T.d_p_Line_asleep) ["self"] [] := (T.F_p_Line_asleep).binds (ps := ["self"]) fun _ _ _ _ _ _ us hl => match us, hl with | [_], _ => rfl
theorem Txt.M_p_Line_asleep {K : PySem.W.Frag} {mg : Str → Option Value} (T : Txt K mg) : Meth K (T.a_Line) "asleep" (T.f_p_Line_asleep) := He.meth_ok (TopB.one T (f := .meth "Line" "asleep") 35 rfl)
abbrev Txt.f_p_Line_fogs {K : PySem.W.Frag} {mg : Str → Option Value} (T : Txt K mg) : Addr := He.fAd K ("Line", some "fogs")
abbrev Txt.d_p_Line_fogs {K : PySem.W.Frag} {mg : Str → Option Value} (T : Txt K mg) : FuncData := fdOf K (He.fAd K ("Line", some "fogs"))
theorem Txt.F_p_Line_fogs {K : PySem.W.Frag} {mg : Str → Option Value} (T : Txt K mg) : Fun K "fogs" "Line.fogs" s_p_Line_fogs (T.f_p_Line_fogs) (T.d_p_Line_fogs) := TopB.fun_ T (a := ("Line", some "fogs")) 19 rfl
theorem Txt.b_p_Line_fogs {K : PySem.W.Frag} {mg : Str → Option Value} (T : Txt K mg) : Binds K (T.d_p_Line_fogs) ["self"] [] := (T.F_p_Line_fogs).binds (ps := ["self"]) fun _ _ _ _ _ _ us hl => match us, hl with | [_], _ => rfl
theorem Txt.M_p_Line_fogs {K : PySem.W.Frag} {mg : Str → Option Value} (T : Txt K mg) : Meth K (T.a_Line) "fogs" (T.f_p_Line_fogs) := He.meth_ok (TopB.one T (f := .meth "Line" "fogs") 36 rfl)
abbrev Txt.f_l_cell {K : PySem.W.Frag} {mg : Str → Option Value} (T : Txt K mg) : Addr := He.fAd K ("_law_cell", none)
abbrev Txt.d_l_cell {K : PySem.W.Frag} {mg : Str → Option Value} (T : Txt K mg) : FuncData := fdOf K (He.fAd K ("_law_cell", none))
theorem Txt.F_l_cell {K : PySem.W.Frag} {mg : Str → Option Value} (T : Txt K mg) : Fun K "_law_cell" "_law_cell" s_l_cell (T.f_l_cell) (T.d_l_cell) := TopB.fun_ T (a := ("_law_cell", none)) 20 rfl
theorem Txt.b_l_cell {K : PySem.W.Frag} {mg : Str → Option Value} (T : Txt K mg) : Binds K (T.d_l_cell) ["_law_script", "_law_at"] [] := (T.F_l_cell).binds (ps := ["_law_script", "_law_at"]) fun _ _ _ _ _ _ us hl => match us, hl with | [_, _], _ => rfl
theorem Txt.g_l_cell {K : PySem.W.Frag} {mg : Str → Option Value} (T : Txt K mg) : mg "_law_cell" = some (.ref (T.f_l_cell)) := TopB.glo T 37 rfl
abbrev Txt.f_l_row {K : PySem.W.Frag} {mg : Str → Option Value} (T : Txt K mg) : Addr := He.fAd K ("_law_row", none)
abbrev Txt.d_l_row {K : PySem.W.Frag} {mg : Str → Option Value} (T : Txt K mg) : FuncData := fdOf K (He.fAd K ("_law_row", none))
theorem Txt.F_l_row {K : PySem.W.Frag} {mg : Str → Option Value} (T : Txt K mg) : Fun K "_law_row" "_law_row" s_l_row (T.f_l_row) (T.d_l_row) := TopB.fun_ T (a := ("_law_row", none)) 21 rfl
theorem Txt.b_l_row {K : PySem.W.Frag} {mg : Str → Option Value} (T : Txt K mg) : Binds K (T.d_l_row) ["_law_cell_here", "_law_many", "_law_size"] [] := (T.F_l_row).binds (ps := ["_law_cell_here", "_law_many", "_law_size"]) fun _ _ _ _ _ _ us hl => match us, hl with | [_, _, _], _ => rfl
theorem Txt.g_l_row {K : PySem.W.Frag} {mg : Str → Option Value} (T : Txt K mg) : mg "_law_row" = some (.ref (T.f_l_row)) := TopB.glo T 38 rfl
abbrev Txt.f_l_like {K : PySem.W.Frag} {mg : Str → Option Value} (T : Txt K mg) : Addr := He.fAd K ("_law_like", none)
abbrev Txt.d_l_like {K : PySem.W.Frag} {mg : Str → Option Value} (T : Txt K mg) : FuncData := fdOf K (He.fAd K ("_law_like", none))
theorem Txt.F_l_like {K : PySem.W.Frag} {mg : Str → Option Value} (T : Txt K mg) : Fun K "_law_like" "_law_like" s_l_like (T.f_l_like) (T.d_l_like) := TopB.fun_ T (a := ("_law_like", none)) 22 rfl
theorem Txt.b_l_like {K : PySem.W.Frag} {mg : Str → Option Value} (T : Txt K mg) : Binds K (T.d_l_like) ["_law_found", "_law_due"] [] := (T.F_l_like).binds (ps := ["_law_found", "_law_due"]) fun _ _ _ _ _ _ us hl => match us, hl with | [_, _], _ => rfl
theorem Txt.g_l_like {K : PySem.W.Frag} {mg : Str → Option Value} (T : Txt K mg) : mg "_law_like" = some (.ref (T.f_l_like)) := TopB.glo T 39 rfl
abbrev Txt.f_l_sky_deed {K : PySem.W.Frag} {mg : Str → Option Value} (T : Txt K mg) : Addr := He.fAd K ("_law_sky_deed", none)
abbrev Txt.d_l_sky_deed {K : PySem.W.Frag} {mg : Str → Option Value} (T : Txt K mg) : FuncData := fdOf K (He.fAd K ("_law_sky_deed", none))
theorem Txt.F_l_sky_deed {K : PySem.W.Frag} {mg : Str → Option Value} (T : Txt K mg) : Fun K "_law_sky_deed" "_law_sky_deed" s_l_sky_deed (T.f_l_sky_deed) (T.d_l_sky_deed) := TopB.fun_ T (a := ("_law_sky_deed", none)) 23 rfl
theorem Txt.b_l_sky_deed {K : PySem.W.Frag} {mg : Str → Option Value} (T : Txt K mg) : Binds K (T.d_l_sky_deed) ["_law_state", "_law_deed"] [] := (T.F_l_sky_deed).binds (ps := ["_law_state", "_law_deed"]) fun _ _ _ _ _ _ us hl => match us, hl with | [_, _], _ => rfl
theorem Txt.g_l_sky_deed {K : PySem.W.Frag} {mg : Str → Option Value} (T : Txt K mg) : mg "_law_sky_deed" = some (.ref (T.f_l_sky_deed)) := TopB.glo T 40 rfl
abbrev Txt.f_l_kind {K : PySem.W.Frag} {mg : Str → Option Value} (T : Txt K mg) : Addr := He.fAd K ("_law_kind", none)
abbrev Txt.d_l_kind {K : PySem.W.Frag} {mg : Str → Option Value} (T : Txt K mg) : FuncData := fdOf K (He.fAd K ("_law_kind", none))
theorem Txt.F_l_kind {K : PySem.W.Frag} {mg : Str → Option Value} (T : Txt K mg) : Fun K "_law_kind" "_law_kind" s_l_kind (T.f_l_kind) (T.d_l_kind) := TopB.fun_ T (a := ("_law_kind", none)) 24 rfl
theorem Txt.b_l_kind {K : PySem.W.Frag} {mg : Str → Option Value} (T : Txt K mg) : Binds K (T.d_l_kind) ["_law_e"] [] := (T.F_l_kind).binds (ps := ["_law_e"]) fun _ _ _ _ _ _ us hl => match us, hl with | [_], _ => rfl
theorem Txt.g_l_kind {K : PySem.W.Frag} {mg : Str → Option Value} (T : Txt K mg) : mg "_law_kind" = some (.ref (T.f_l_kind)) := TopB.glo T 41 rfl
abbrev Txt.f_l_do {K : PySem.W.Frag} {mg : Str → Option Value} (T : Txt K mg) : Addr := He.fAd K ("_law_do", none)
abbrev Txt.d_l_do {K : PySem.W.Frag} {mg : Str → Option Value} (T : Txt K mg) : FuncData := fdOf K (He.fAd K ("_law_do", none))
theorem Txt.F_l_do {K : PySem.W.Frag} {mg : Str → Option Value} (T : Txt K mg) : Fun K "_law_do" "_law_do" s_l_do (T.f_l_do) (T.d_l_do) := TopB.fun_ T (a := ("_law_do", none)) 25 rfl
theorem Txt.b_l_do {K : PySem.W.Frag} {mg : Str → Option Value} (T : Txt K mg) : Binds K (T.d_l_do) ["_law_line", "_law_deed"] [] := (T.F_l_do).binds (ps := ["_law_line", "_law_deed"]) fun _ _ _ _ _ _ us hl => match us, hl with | [_, _], _ => rfl
theorem Txt.g_l_do {K : PySem.W.Frag} {mg : Str → Option Value} (T : Txt K mg) : mg "_law_do" = some (.ref (T.f_l_do)) := TopB.glo T 42 rfl
abbrev Txt.f_l_tried {K : PySem.W.Frag} {mg : Str → Option Value} (T : Txt K mg) : Addr := He.fAd K ("_law_tried", none)
abbrev Txt.d_l_tried {K : PySem.W.Frag} {mg : Str → Option Value} (T : Txt K mg) : FuncData := fdOf K (He.fAd K ("_law_tried", none))
theorem Txt.F_l_tried {K : PySem.W.Frag} {mg : Str → Option Value} (T : Txt K mg) : Fun K "_law_tried" "_law_tried" s_l_tried (T.f_l_tried) (T.d_l_tried) := TopB.fun_ T (a := ("_law_tried", none)) 26 rfl
theorem Txt.b_l_tried {K : PySem.W.Frag} {mg : Str → Option Value} (T : Txt K mg) : Binds K (T.d_l_tried) ["_law_line", "_law_deed"] [] := (T.F_l_tried).binds (ps := ["_law_line", "_law_deed"]) fun _ _ _ _ _ _ us hl => match us, hl with | [_, _], _ => rfl
theorem Txt.g_l_tried {K : PySem.W.Frag} {mg : Str → Option Value} (T : Txt K mg) : mg "_law_tried" = some (.ref (T.f_l_tried)) := TopB.glo T 43 rfl
abbrev Txt.u_REST {K : PySem.W.Frag} {mg : Str → Option Value} (T : Txt K mg) : Value := (mg "REST").getD .none
theorem Txt.c_REST {K : PySem.W.Frag} {mg : Str → Option Value} (T : Txt K mg) : mg "REST" = some (T.u_REST) := (TopB.int T (x := "REST") (z := 0) 44 rfl).1
theorem Txt.r_REST {K : PySem.W.Frag} {mg : Str → Option Value} (T : Txt K mg) : RelV (.int 0) (T.u_REST) := (TopB.int T (x := "REST") (z := 0) 44 rfl).2
abbrev Txt.u_UP {K : PySem.W.Frag} {mg : Str → Option Value} (T : Txt K mg) : Value := (mg "UP").getD .none
theorem Txt.c_UP {K : PySem.W.Frag} {mg : Str → Option Value} (T : Txt K mg) : mg "UP" = some (T.u_UP) := (TopB.str T (x := "UP") (z := "up") 45 rfl).1
theorem Txt.r_UP {K : PySem.W.Frag} {mg : Str → Option Value} (T : Txt K mg) : RelV (.str "up") (T.u_UP) := (TopB.str T (x := "UP") (z := "up") 45 rfl).2
abbrev Txt.u_DOWN {K : PySem.W.Frag} {mg : Str → Option Value} (T : Txt K mg) : Value := (mg "DOWN").getD .none
theorem Txt.c_DOWN {K : PySem.W.Frag} {mg : Str → Option Value} (T : Txt K mg) : mg "DOWN" = some (T.u_DOWN) := (TopB.str T (x := "DOWN") (z := "down") 46 rfl).1
theorem Txt.r_DOWN {K : PySem.W.Frag} {mg : Str → Option Value} (T : Txt K mg) : RelV (.str "down") (T.u_DOWN) := (TopB.str T (x := "DOWN") (z := "down") 46 rfl).2
abbrev Txt.u_FEWEST_MASTS {K : PySem.W.Frag} {mg : Str → Option Value} (T : Txt K mg) : Value := (mg "FEWEST_MASTS").getD .none
theorem Txt.c_FEWEST_MASTS {K : PySem.W.Frag} {mg : Str → Option Value} (T : Txt K mg) : mg "FEWEST_MASTS" = some (T.u_FEWEST_MASTS) := (TopB.int T (x := "FEWEST_MASTS") (z := 2) 47 rfl).1
theorem Txt.r_FEWEST_MASTS {K : PySem.W.Frag} {mg : Str → Option Value} (T : Txt K mg) : RelV (.int 2) (T.u_FEWEST_MASTS) := (TopB.int T (x := "FEWEST_MASTS") (z := 2) 47 rfl).2
abbrev Txt.u_MOST_MASTS {K : PySem.W.Frag} {mg : Str → Option Value} (T : Txt K mg) : Value := (mg "MOST_MASTS").getD .none
theorem Txt.c_MOST_MASTS {K : PySem.W.Frag} {mg : Str → Option Value} (T : Txt K mg) : mg "MOST_MASTS" = some (T.u_MOST_MASTS) := (TopB.int T (x := "MOST_MASTS") (z := 12) 48 rfl).1
theorem Txt.r_MOST_MASTS {K : PySem.W.Frag} {mg : Str → Option Value} (T : Txt K mg) : RelV (.int 12) (T.u_MOST_MASTS) := (TopB.int T (x := "MOST_MASTS") (z := 12) 48 rfl).2
abbrev Txt.u_WAY {K : PySem.W.Frag} {mg : Str → Option Value} (T : Txt K mg) : Value := (mg "WAY").getD .none
theorem Txt.c_WAY {K : PySem.W.Frag} {mg : Str → Option Value} (T : Txt K mg) : mg "WAY" = some (T.u_WAY) := (TopB.str T (x := "WAY") (z := "way") 49 rfl).1
theorem Txt.r_WAY {K : PySem.W.Frag} {mg : Str → Option Value} (T : Txt K mg) : RelV (.str "way") (T.u_WAY) := (TopB.str T (x := "WAY") (z := "way") 49 rfl).2
abbrev Txt.u_ARMS {K : PySem.W.Frag} {mg : Str → Option Value} (T : Txt K mg) : Value := (mg "ARMS").getD .none
theorem Txt.c_ARMS {K : PySem.W.Frag} {mg : Str → Option Value} (T : Txt K mg) : mg "ARMS" = some (T.u_ARMS) := (TopB.str T (x := "ARMS") (z := "arms") 50 rfl).1
theorem Txt.r_ARMS {K : PySem.W.Frag} {mg : Str → Option Value} (T : Txt K mg) : RelV (.str "arms") (T.u_ARMS) := (TopB.str T (x := "ARMS") (z := "arms") 50 rfl).2
abbrev Txt.u_SLEEP {K : PySem.W.Frag} {mg : Str → Option Value} (T : Txt K mg) : Value := (mg "SLEEP").getD .none
theorem Txt.c_SLEEP {K : PySem.W.Frag} {mg : Str → Option Value} (T : Txt K mg) : mg "SLEEP" = some (T.u_SLEEP) := (TopB.str T (x := "SLEEP") (z := "sleep") 51 rfl).1
theorem Txt.r_SLEEP {K : PySem.W.Frag} {mg : Str → Option Value} (T : Txt K mg) : RelV (.str "sleep") (T.u_SLEEP) := (TopB.str T (x := "SLEEP") (z := "sleep") 51 rfl).2
abbrev Txt.u_FOG {K : PySem.W.Frag} {mg : Str → Option Value} (T : Txt K mg) : Value := (mg "FOG").getD .none
theorem Txt.c_FOG {K : PySem.W.Frag} {mg : Str → Option Value} (T : Txt K mg) : mg "FOG" = some (T.u_FOG) := (TopB.str T (x := "FOG") (z := "fog") 52 rfl).1
theorem Txt.r_FOG {K : PySem.W.Frag} {mg : Str → Option Value} (T : Txt K mg) : RelV (.str "fog") (T.u_FOG) := (TopB.str T (x := "FOG") (z := "fog") 52 rfl).2
abbrev Txt.u_WORDS {K : PySem.W.Frag} {mg : Str → Option Value} (T : Txt K mg) : Value := (mg "WORDS").getD .none
theorem Txt.c_WORDS {K : PySem.W.Frag} {mg : Str → Option Value} (T : Txt K mg) : mg "WORDS" = some (T.u_WORDS) := (TopB.str T (x := "WORDS") (z := "words") 53 rfl).1
theorem Txt.r_WORDS {K : PySem.W.Frag} {mg : Str → Option Value} (T : Txt K mg) : RelV (.str "words") (T.u_WORDS) := (TopB.str T (x := "WORDS") (z := "words") 53 rfl).2
theorem Txt.m_all {K : PySem.W.Frag} {mg : Str → Option Value} (T : Txt K mg) : mg "all" = none := TopB.free T 54 rfl
theorem Txt.m_bool {K : PySem.W.Frag} {mg : Str → Option Value} (T : Txt K mg) : mg "bool" = none := TopB.free T 55 rfl
theorem Txt.m_enumerate {K : PySem.W.Frag} {mg : Str → Option Value} (T : Txt K mg) : mg "enumerate" = none := TopB.free T 56 rfl
theorem Txt.m_int {K : PySem.W.Frag} {mg : Str → Option Value} (T : Txt K mg) : mg "int" = none := TopB.free T 57 rfl
theorem Txt.m_isinstance {K : PySem.W.Frag} {mg : Str → Option Value} (T : Txt K mg) : mg "isinstance" = none := TopB.free T 58 rfl
theorem Txt.m_len {K : PySem.W.Frag} {mg : Str → Option Value} (T : Txt K mg) : mg "len" = none := TopB.free T 59 rfl
theorem Txt.m_list {K : PySem.W.Frag} {mg : Str → Option Value} (T : Txt K mg) : mg "list" = none := TopB.free T 60 rfl
theorem Txt.m_max {K : PySem.W.Frag} {mg : Str → Option Value} (T : Txt K mg) : mg "max" = none := TopB.free T 61 rfl
theorem Txt.m_min {K : PySem.W.Frag} {mg : Str → Option Value} (T : Txt K mg) : mg "min" = none := TopB.free T 62 rfl
theorem Txt.m_range {K : PySem.W.Frag} {mg : Str → Option Value} (T : Txt K mg) : mg "range" = none := TopB.free T 63 rfl
theorem Txt.m_sorted {K : PySem.W.Frag} {mg : Str → Option Value} (T : Txt K mg) : mg "sorted" = none := TopB.free T 64 rfl
theorem Txt.m_str {K : PySem.W.Frag} {mg : Str → Option Value} (T : Txt K mg) : mg "str" = none := TopB.free T 65 rfl
theorem Txt.m_tuple {K : PySem.W.Frag} {mg : Str → Option Value} (T : Txt K mg) : mg "tuple" = none := TopB.free T 66 rfl
theorem Txt.g_al_check_mast_ways {K : PySem.W.Frag} {mg : Str → Option Value} (T : Txt K mg) : mg "check_mast_ways" = some (.ref (He.fAd K ("check_mast", none))) := TopB.ali T (p := ("check_mast_ways", "check_mast")) 0 rfl
theorem Txt.oc_get {K : PySem.W.Frag} {mg : Str → Option Value} (T : Txt K mg) : PySem.W.specialIn K (.builtin "object.__class__") "__get__" = some (some (.builtin "getset_descriptor.__get__")) := TopB.oget T
theorem Txt.oc_tak {K : PySem.W.Frag} {mg : Str → Option Value} (T : Txt K mg) : PySem.W.takesIn K (.builtin "object.__class__") = some true := TopB.otak T
def looseL : List PySem.Str := (["_wall", "REST", "READY", "reason", "hindrance_behind", "hindrance_ahead", "ready", "MastError", "BadCount", "NoMast", "BadWay", "BadSign", "Full", "NothingWaits", "NotReady", "NotRaising", "BadSlip", "Asleep", "Awake", "Fogged", "Clear", "Busy", "NoRow", "NoBook", "Lost", "Legible", "NothingLeft", "BadPlace", "BadWord", "Taken"] : List Str) ++ (["Known", "NoWord", "LETTERS", "LAST_PAGE", "FIRST_LETTER", "END", "LAST_SIGN", "is_sign", "check_signs", "sign_of", "LONGEST_WORD", "is_word", "check_word", "check_place", "Phrasebook", "signs_of", "UP", "DOWN", "FEWEST_MASTS", "MOST_MASTS", "check_way", "check_mast", "check_mast_ways", "place_of", "mast_at", "along", "deed_text", "Motion", "WAY", "ARMS"] : List Str) ++ (["SLEEP", "FOG", "WORDS", "queue_of", "book_of", "new_rows", "State", "MOST_WAITING", "Line", "_law_cell", "_law_row", "_law_like", "_law_sky_deed", "_law_kind", "_law_do", "_law_do_further", "_law_tried"] : List Str)
abbrev rowR : PySem.W.OpenRow := PySem.W.OpenLaw.row PySem.Challenge.rw_mastword_k25_sleep_and_fog
def obL (s : PySem.W.SharedT) : Bool × List He.FnW := obsB asL factsL fnL (HandSHeadRun.getT s)
theorem obL_eq (s : PySem.W.SharedT) : obL s = (hookB asL factsL fnL).obs s.abs := obsB_eq (HandSHeadRun.getT_eq s)
theorem runL (w : World) : HandSHeadRun.RunEq rowR (PySem.W.view rowR.prog [87]) (hookB asL factsL fnL) obL 16000 looseL w := by
  intro os
  kernel_rfl

section
variable {P : Program} {w : World} {K : PySem.W.Frag} {mg : Str → Option Value} {base : Heap}
/-! ### _law_cell: an int of the script -/
def cellV (ns : List Int) (j : Nat) : Int :=
  if j < ns.length then ns.getD j 0 else if ns.length = 0 then 29 * (j : Int) + 5 else ns.getD (j % ns.length) 0 % 1000003 + 103 * (j : Int)
def sp_l_cell (K : PySem.W.Frag) : Sp := fun vs H Q _ => ∃ (l : Addr) (ns : List Int) (j : Nat), vs = [.ref l, .int j] ∧ SqL K H l (ns.map V.int) ∧ j ≤ 100000 ∧ Q (.int (cellV ns j)) H
theorem getD_at {ns : List Int} {j : Nat} (h : j < ns.length) : atI (ns.map V.int) (j : Int) = some (.int (ns.getD j 0)) := by
  rw [at_int h, List.getD_eq_getElem?_getD, List.getElem?_eq_getElem h]
  rfl
theorem ok_l_cell (T : Txt K mg) : FnOk P w K mg base CX0 1 T.f_l_cell T.d_l_cell ["_law_script", "_law_at"] (sp_l_cell K) := by
  refine T.F_l_cell.ok sc_l_cell (fun vs H Q E h => ?_) (fun cdv A outer s H vs Q E hr h => ?_)
  · obtain ⟨l, ns, j, rfl, _⟩ := h
    rfl
  · obtain ⟨l, ns, j, rfl, hS, hj, k⟩ := h
    have hlen : ((ns.map V.int).length : Int) = (ns.length : Int) := by rw [List.length_map]
    refine ⟨_, (pss_cons (ps_if (pt_cmpR op_lt (pv 1) (pe_callB call_len_seq (by rfl) T.m_len PySem.boot_len (pa_cons (pv 0) pa_nil)) (nomark _))
      (pss_one (ps_ret (pe_ix ix_list (pv 0) (pv 1) (fun _ _ => rfl))))
      pss_nil)
      (pss_cons (ps_if (pt_cmpR op_eq (pe_callB call_len_seq (by rfl) T.m_len PySem.boot_len (pa_cons (pv 0) pa_nil)) pe_int (nomark _))
      (pss_one (ps_ret (pe_op op_add (pe_op op_mul pe_int (pv 1)) pe_int)))
      pss_nil)
      (pss_one (ps_ret (pe_op op_add (pe_op op_mod (pe_ix ix_list (pv 0) (pe_op op_mod (pv 1) (pe_callB call_len_seq (by rfl) T.m_len PySem.boot_len (pa_cons (pv 0) pa_nil))) (fun _ _ => rfl)) pe_int) (pe_op op_mul pe_int (pv 1))))))), ?_⟩
    refine ⟨_, rfl, _, rfl, l, _, rfl, .inl hS, _, _, rfl, rfl, _, rfl, iteD (fun c => ?_) (fun c => ?_)⟩
    · rw [hlen] at c
      refine ⟨_, rfl, _, rfl, l, _, _, _, rfl, rfl, hS, getD_at (show j < ns.length by omega), ?_⟩
      have e : cellV ns j = ns.getD j 0 := if_pos (by omega)
      rw [e] at k
      exact k
    · rw [hlen] at c
      refine ⟨_, rfl, l, _, rfl, .inl hS, rfl, _, rfl, iteD (fun c2 => ?_) (fun c2 => ?_)⟩
      · have c3 : (ns.length : Int) = 0 := by
          have z := V.int.inj c2
          rw [hlen] at z
          exact z
        have e : cellV ns j = 29 * (j : Int) + 5 := by
          unfold cellV
          rw [if_neg (by omega), if_pos (by omega)]
        rw [e] at k
        exact ⟨_, rfl, _, _, rfl, rfl, .inl ⟨by decide, by decide⟩, _, _, rfl, rfl, k⟩
      · have c3 : ns.length ≠ 0 := fun z => c2 (by rw [hlen, z]; rfl)
        have hm : j % ns.length < ns.length := Nat.mod_lt _ (by omega)
        have e : cellV ns j = ns.getD (j % ns.length) 0 % 1000003 + 103 * (j : Int) := by
          unfold cellV
          rw [if_neg (by omega), if_neg c3]
        rw [e] at k
        have ea : atI (ns.map V.int) ((j : Int) % ((ns.map V.int).length : Int)) = some (.int (ns.getD (j % ns.length) 0)) := by
          rw [hlen, ← Int.natCast_emod]
          exact getD_at hm
        exact ⟨_, rfl, _, rfl, _, rfl, l, _, rfl, .inl hS, _, _, rfl, rfl, (by show (0 : Int) < ((ns.map V.int).length : Int); rw [hlen]; omega), l, _, _, _, rfl, rfl, hS, ea, _, _, rfl, rfl, (by show (0 : Int) < 1000003; decide), _, rfl, _, _, rfl, rfl, .inl ⟨by decide, by decide⟩, _, _, rfl, rfl, k⟩
/-! ### _law_like of one datum with itself -/
inductive Dn : Nat → PyData → Prop
  | non (n : Nat) : Dn (n + 1) .none
  | bl (n : Nat) (b : Bool) : Dn (n + 1) (.bool b)
  | int (n : Nat) (i : Int) : Dn (n + 1) (.int i)
  | str (n : Nat) (x : Str) : Dn (n + 1) (.str x)
  | lst {n : Nat} {ds : List PyData} : (∀ d ∈ ds, Dn n d) → ds.length ≤ 10000 → Dn (n + 1) (.list ds)
  | tup {n : Nat} {ds : List PyData} : (∀ d ∈ ds, Dn n d) → ds.length ≤ 10000 → Dn (n + 1) (.tuple ds)
def tyN : PyData → String
  | .none => "NoneType" | .bool _ => "bool" | .int _ => "int" | .str _ => "str" | .list _ => "list" | .tuple _ => "tuple" | .dict _ => "dict"
theorem ty_of {K : PySem.W.Frag} {H : Hp} {v : V} {d : PyData} (h : Dp K H v d) : TyX K H v (.type (tyN d)) := by
  cases h with
  | non => exact .base .non
  | bl b => exact .base (.bl b)
  | int i => exact .base (.int i)
  | str x => exact .base (.str x)
  | lst h _ =>
    rcases h with (h | ⟨o, h⟩) | ⟨o, its, n, e, c, _⟩
    · exact .base (.lst h)
    · exact .base (.frz h)
    · exact .kList e c
  | tup h _ =>
    rcases h with (h | ⟨o, h⟩) | ⟨o, its, n, e, c, _⟩
    · exact .base (.tup h)
    · exact .fTuple h
    · exact .kTuple e c
def sp_l_like (K : PySem.W.Frag) (n : Nat) : Sp := fun vs H Q _ => ∃ (u v : V) (d : PyData), vs = [u, v] ∧ Dp K H u d ∧ Dp K H v d ∧ Dn n d ∧ ∀ H', Kp H H' → Q (.bl true) H'
theorem fn_none {P : Program} {w : World} {K : PySem.W.Frag} {mg : Str → Option Value} {base : Heap} {f : Addr} {fd : FuncData} {ps : List Str} {sp : Sp} {k : Nat} (h : ∀ vs H Q E, ¬ sp vs H Q E) : FnOk P w K mg base CX0 k f fd ps sp :=
  ⟨fun vs H Q E q => (h vs H Q E q).elim, fun _ _ _ H _ _ vs Q E _ _ _ _ q => (h vs H Q E q).elim⟩
theorem bl_all {n : Nat} : ((List.replicate n true).map V.bl) = List.replicate n (V.bl true) := List.map_replicate
theorem all_rep (n : Nat) : (List.replicate n true).all id = true := by
  rw [List.all_eq_true]
  intro x hx
  rw [List.eq_of_mem_replicate hx]
  rfl
theorem k_bb : kitB "bool" "bool" = some true := by decide +kernel
theorem k_bi : kitB "bool" "int" = some true := by decide +kernel
theorem k_bs : kitB "bool" "str" = some false := by decide +kernel
theorem k_bl : kitB "bool" "list" = some false := by decide +kernel
theorem k_bt : kitB "bool" "tuple" = some false := by decide +kernel
theorem k_ib : kitB "int" "bool" = some false := by decide +kernel
theorem k_ii : kitB "int" "int" = some true := by decide +kernel
theorem k_is : kitB "int" "str" = some false := by decide +kernel
theorem k_il : kitB "int" "list" = some false := by decide +kernel
theorem k_it : kitB "int" "tuple" = some false := by decide +kernel
theorem k_sb : kitB "str" "bool" = some false := by decide +kernel
theorem k_si : kitB "str" "int" = some false := by decide +kernel
theorem k_ss : kitB "str" "str" = some true := by decide +kernel
theorem k_sl : kitB "str" "list" = some false := by decide +kernel
theorem k_st : kitB "str" "tuple" = some false := by decide +kernel
theorem k_lb : kitB "list" "bool" = some false := by decide +kernel
theorem k_li : kitB "list" "int" = some false := by decide +kernel
theorem k_ls : kitB "list" "str" = some false := by decide +kernel
theorem k_ll : kitB "list" "list" = some true := by decide +kernel
theorem k_lt : kitB "list" "tuple" = some false := by decide +kernel
theorem k_tb : kitB "tuple" "bool" = some false := by decide +kernel
theorem k_ti : kitB "tuple" "int" = some false := by decide +kernel
theorem k_ts : kitB "tuple" "str" = some false := by decide +kernel
theorem k_tl : kitB "tuple" "list" = some false := by decide +kernel
theorem k_tt : kitB "tuple" "tuple" = some true := by decide +kernel
theorem dec_self {x : V} : decide (x = x) = true := decide_eq_true rfl
theorem ok_l_like (T : Txt K mg) : ∀ n : Nat, FnOk P w K mg base CX0 n T.f_l_like T.d_l_like ["_law_found", "_law_due"] (sp_l_like K n)
  | 0 => fn_none fun vs H Q E ⟨u, v, d, _, _, _, h, _⟩ => nomatch h
  | n + 1 => by
    have IH := ok_l_like T n
    refine T.F_l_like.ok sc_l_like (fun vs H Q E h => ?_) (fun cdv A outer s H vs Q E hr h => ?_)
    · obtain ⟨u, v, d, rfl, _⟩ := h
      rfl
    · obtain ⟨u, v, d, rfl, hu, hv, hn, k⟩ := h
      have tu := ty_of hu
      have tv := ty_of hv
      refine ⟨_, (pss_cons (ps_if (pt_cmpR op_isN (pv 1) pe_non (nomark _))
      (pss_one (ps_ret (pe_cmpR op_isN (pv 0) pe_non (nomark _))))
      pss_nil)
      (pss_cons (ps_if (pt_val (pe_callB call_isi (by rfl) T.m_isinstance (by decide +kernel) (pa_cons (pv 1) (pa_cons (pe_bltn (v := .ty "bool") (by rfl) T.m_bool (by decide +kernel) rfl) pa_nil))))
      (pss_one (ps_ret (pe_and (pe_callB call_isi (by rfl) T.m_isinstance (by decide +kernel) (pa_cons (pv 0) (pa_cons (pe_bltn (v := .ty "bool") (by rfl) T.m_bool (by decide +kernel) rfl) pa_nil))) (pe_one (pe_cmpR op_eq (pv 0) (pv 1) (nomark _))))))
      pss_nil)
      (pss_cons (ps_if (pt_val (pe_callB call_isi (by rfl) T.m_isinstance (by decide +kernel) (pa_cons (pv 1) (pa_cons (pe_bltn (v := .ty "int") (by rfl) T.m_int (by decide +kernel) rfl) pa_nil))))
      (pss_one (ps_ret (pe_and (pe_callB call_isi (by rfl) T.m_isinstance (by decide +kernel) (pa_cons (pv 0) (pa_cons (pe_bltn (v := .ty "int") (by rfl) T.m_int (by decide +kernel) rfl) pa_nil))) (pe_and (pe_not (pe_callB call_isi (by rfl) T.m_isinstance (by decide +kernel) (pa_cons (pv 0) (pa_cons (pe_bltn (v := .ty "bool") (by rfl) T.m_bool (by decide +kernel) rfl) pa_nil)))) (pe_one (pe_cmpR op_eq (pv 0) (pv 1) (nomark _)))))))
      pss_nil)
      (pss_cons (ps_if (pt_val (pe_callB call_isi (by rfl) T.m_isinstance (by decide +kernel) (pa_cons (pv 1) (pa_cons (pe_bltn (v := .ty "str") (by rfl) T.m_str (by decide +kernel) rfl) pa_nil))))
      (pss_one (ps_ret (pe_and (pe_callB call_isi (by rfl) T.m_isinstance (by decide +kernel) (pa_cons (pv 0) (pa_cons (pe_bltn (v := .ty "str") (by rfl) T.m_str (by decide +kernel) rfl) pa_nil))) (pe_one (pe_cmpR op_eq (pv 0) (pv 1) (nomark _))))))
      pss_nil)
      (pss_cons (ps_if (PW.pt (pw_or (pt_cmpR op_ne (pe_callB call_isi (by rfl) T.m_isinstance (by decide +kernel) (pa_cons (pv 1) (pa_cons (pe_bltn (v := .ty "list") (by rfl) T.m_list (by decide +kernel) rfl) pa_nil))) (pe_callB call_isi (by rfl) T.m_isinstance (by decide +kernel) (pa_cons (pv 0) (pa_cons (pe_bltn (v := .ty "list") (by rfl) T.m_list (by decide +kernel) rfl) pa_nil))) (nomark _)) (pw_or1 (pt_cmpR op_ne (pe_callB call_isi (by rfl) T.m_isinstance (by decide +kernel) (pa_cons (pv 1) (pa_cons (pe_bltn (v := .ty "tuple") (by rfl) T.m_tuple (by decide +kernel) rfl) pa_nil))) (pe_callB call_isi (by rfl) T.m_isinstance (by decide +kernel) (pa_cons (pv 0) (pa_cons (pe_bltn (v := .ty "tuple") (by rfl) T.m_tuple (by decide +kernel) rfl) pa_nil))) (nomark _)))))
      (pss_one (ps_ret pe_bl))
      pss_nil)
      (pss_one (ps_ret (pe_and (pe_cmpR op_eq (pe_callB call_len (by rfl) T.m_len PySem.boot_len (pa_cons (pv 0) pa_nil)) (pe_callB call_len (by rfl) T.m_len PySem.boot_len (pa_cons (pv 1) pa_nil)) (nomark _)) (pe_one (pe_callB (cr_all rfl) (by rfl) T.m_all (by decide +kernel) (pa_cons (pe_lc (own := [("_law_k", 2)]) (g := gName 2) (tt := tYes) (by rfl) sc_l_like.nd (pi_range1 (by rfl) T.m_range (pa_cons (pe_callB call_len (by rfl) T.m_len PySem.boot_len (pa_cons (pv 1) pa_nil)) pa_nil)) (blkOk_by (own := [("_law_k", 2)]) (N := ["_law_found", "_law_due", "_law_k"]) (sc := defScope s_l_like) (by decide +kernel)) (fun _ _ _ _ _ => (pg_name (i := 2) sc_l_like.nd rfl (by first | exact Or.inl rfl | exact Or.inr rfl))) (fun _ _ _ _ _ => pts_nil) (fun _ _ _ _ _ => (pe_call IH hr rfl T.g_l_like T.F_l_like.kp T.b_l_like .nil pass0 (pa_cons (pe_ix (ix_seqK K rfl) (pv 0) (pv 2) (fun _ _ => rfl)) (pa_cons (pe_ix (ix_seqK K rfl) (pv 1) (pv 2) (fun _ _ => rfl)) pa_nil))))) pa_nil))))))))))), ?_⟩
      cases hn with
      | non n =>
        cases hu
        cases hv
        refine ⟨_, rfl, rfl, _, rfl, iteTo dec_self ?_⟩
        exact ⟨_, rfl, rfl, k _ (.refl _)⟩
      | bl n b =>
        cases hu
        cases hv
        refine ⟨_, rfl, rfl, _, rfl, iteFo rfl ?_⟩
        refine ⟨_, rfl, _, _, _, _, true, rfl, .ty _, tv, kit_ty k_bb, _, rfl, iteTo rfl ?_⟩
        refine ⟨_, rfl, _, _, _, _, true, rfl, .ty _, tu, kit_ty k_bb, _, rfl, iteTo rfl ?_⟩
        refine ⟨_, rfl, _, rfl, rfl, ?_⟩
        rw [dec_self]
        exact k _ (.refl _)
      | int n i =>
        cases hu
        cases hv
        refine ⟨_, rfl, rfl, _, rfl, iteFo rfl ?_⟩
        refine ⟨_, rfl, _, _, _, _, false, rfl, .ty _, tv, kit_ty k_ib, _, rfl, iteFo rfl ?_⟩
        refine ⟨_, rfl, _, _, _, _, true, rfl, .ty _, tv, kit_ty k_ii, _, rfl, iteTo rfl ?_⟩
        refine ⟨_, rfl, _, _, _, _, true, rfl, .ty _, tu, kit_ty k_ii, _, rfl, iteTo rfl ?_⟩
        refine ⟨_, rfl, _, _, _, _, false, rfl, .ty _, tu, kit_ty k_ib, _, rfl, _, rfl, iteTo rfl ?_⟩
        refine ⟨_, rfl, _, rfl, rfl, ?_⟩
        rw [dec_self]
        exact k _ (.refl _)
      | str n x =>
        cases hu
        cases hv
        refine ⟨_, rfl, rfl, _, rfl, iteFo rfl ?_⟩
        refine ⟨_, rfl, _, _, _, _, false, rfl, .ty _, tv, kit_ty k_sb, _, rfl, iteFo rfl ?_⟩
        refine ⟨_, rfl, _, _, _, _, false, rfl, .ty _, tv, kit_ty k_si, _, rfl, iteFo rfl ?_⟩
        refine ⟨_, rfl, _, _, _, _, true, rfl, .ty _, tv, kit_ty k_ss, _, rfl, iteTo rfl ?_⟩
        refine ⟨_, rfl, _, _, _, _, true, rfl, .ty _, tu, kit_ty k_ss, _, rfl, iteTo rfl ?_⟩
        refine ⟨_, rfl, _, rfl, rfl, ?_⟩
        rw [dec_self]
        exact k _ (.refl _)
      | lst hd hl =>
        rename_i ds
        cases hu with | lst hsu hau =>
        cases hv with | lst hsv hav =>
        rename_i a xs b ys
        have lx := DpAll.len hau
        have ly := DpAll.len hav
        refine ⟨_, rfl, rfl, _, rfl, iteFo rfl ?_⟩
        refine ⟨_, rfl, _, _, _, _, false, rfl, .ty _, tv, kit_ty k_lb, _, rfl, iteFo rfl ?_⟩
        refine ⟨_, rfl, _, _, _, _, false, rfl, .ty _, tv, kit_ty k_li, _, rfl, iteFo rfl ?_⟩
        refine ⟨_, rfl, _, _, _, _, false, rfl, .ty _, tv, kit_ty k_ls, _, rfl, iteFo rfl ?_⟩
        refine ⟨_, rfl, _, _, _, _, true, rfl, .ty _, tv, kit_ty k_ll, _, rfl, _, _, _, _, true, rfl, .ty _, tu, kit_ty k_ll, rfl, _, rfl, iteFo rfl ?_⟩
        refine ⟨_, rfl, _, _, _, _, false, rfl, .ty _, tv, kit_ty k_lt, _, rfl, _, _, _, _, false, rfl, .ty _, tu, kit_ty k_lt, rfl, _, rfl, iteFo rfl ?_⟩
        refine ⟨_, rfl, _, _, rfl, .inl ⟨_, hsu, rfl⟩, _, rfl, _, _, rfl, .inl ⟨_, hsv, rfl⟩, rfl, _, rfl, iteTo (decide_eq_true (congrArg (fun z : Nat => V.int (z : Int)) (lx.trans ly.symm))) ?_⟩
        refine ⟨_, rfl, _, _, rfl, .inl ⟨_, hsv, rfl⟩, _, rfl, by omega, by omega, fun D hD => ?_⟩
        rw [Int.toNat_natCast]
        refine lc_range (lo := 0) (n := ys.length) (fun i H' => Kp H H' ∧ H' D = some (.lst (List.replicate i (V.bl true)))) ⟨Kp.new hD, upd_same⟩ (fun i H' hi ⟨kp, hDl⟩ => ?_) (fun H' ⟨kp, hDl⟩ => ?_)
        · have e0 : (0 : Int) + (i : Int) = (i : Int) := Int.zero_add _
          obtain ⟨d, hdi⟩ : ∃ d, ds[i]? = some d := ⟨_, List.getElem?_eq_getElem (by omega)⟩
          obtain ⟨x, hx, dx⟩ := DpAll.get hau hdi
          obtain ⟨y, hy, dy⟩ := DpAll.get hav hdi
          refine ⟨rfl, ?_⟩
          refine ⟨_, rfl, _, rfl, .inl ⟨_, _, _, x, rfl, rfl, kp.sqL hsu, by rw [e0]; exact atI_nat hx, _, rfl, _, rfl, .inl ⟨_, _, _, y, rfl, rfl, kp.sqL hsv, by rw [e0]; exact atI_nat hy, ?_⟩⟩⟩
          refine ⟨x, y, d, rfl, kp.dp dx, kp.dp dy, hd d (List.mem_of_getElem? hdi), fun H2 k2 => ⟨_, k2.same _ _ rfl hDl, szt (by rw [List.length_replicate]; omega), ?_⟩⟩
          exact ⟨(kp.trans k2).mut hD, by rw [upd_same, List.replicate_succ']⟩
        · refine ⟨D, List.replicate ys.length true, rfl, .inl (.inl (by rw [bl_all]; exact hDl)), ?_⟩
          rw [all_rep]
          exact k _ kp
      | tup hd hl =>
        rename_i ds
        cases hu with | tup hsu hau =>
        cases hv with | tup hsv hav =>
        rename_i a xs b ys
        have lx := DpAll.len hau
        have ly := DpAll.len hav
        refine ⟨_, rfl, rfl, _, rfl, iteFo rfl ?_⟩
        refine ⟨_, rfl, _, _, _, _, false, rfl, .ty _, tv, kit_ty k_tb, _, rfl, iteFo rfl ?_⟩
        refine ⟨_, rfl, _, _, _, _, false, rfl, .ty _, tv, kit_ty k_ti, _, rfl, iteFo rfl ?_⟩
        refine ⟨_, rfl, _, _, _, _, false, rfl, .ty _, tv, kit_ty k_ts, _, rfl, iteFo rfl ?_⟩
        refine ⟨_, rfl, _, _, _, _, false, rfl, .ty _, tv, kit_ty k_tl, _, rfl, _, _, _, _, false, rfl, .ty _, tu, kit_ty k_tl, rfl, _, rfl, iteFo rfl ?_⟩
        refine ⟨_, rfl, _, _, _, _, true, rfl, .ty _, tv, kit_ty k_tt, _, rfl, _, _, _, _, true, rfl, .ty _, tu, kit_ty k_tt, rfl, _, rfl, iteFo rfl ?_⟩
        refine ⟨_, rfl, _, _, rfl, .inr ⟨_, hsu, rfl⟩, _, rfl, _, _, rfl, .inr ⟨_, hsv, rfl⟩, rfl, _, rfl, iteTo (decide_eq_true (congrArg (fun z : Nat => V.int (z : Int)) (lx.trans ly.symm))) ?_⟩
        refine ⟨_, rfl, _, _, rfl, .inr ⟨_, hsv, rfl⟩, _, rfl, by omega, by omega, fun D hD => ?_⟩
        rw [Int.toNat_natCast]
        refine lc_range (lo := 0) (n := ys.length) (fun i H' => Kp H H' ∧ H' D = some (.lst (List.replicate i (V.bl true)))) ⟨Kp.new hD, upd_same⟩ (fun i H' hi ⟨kp, hDl⟩ => ?_) (fun H' ⟨kp, hDl⟩ => ?_)
        · have e0 : (0 : Int) + (i : Int) = (i : Int) := Int.zero_add _
          obtain ⟨d, hdi⟩ : ∃ d, ds[i]? = some d := ⟨_, List.getElem?_eq_getElem (by omega)⟩
          obtain ⟨x, hx, dx⟩ := DpAll.get hau hdi
          obtain ⟨y, hy, dy⟩ := DpAll.get hav hdi
          refine ⟨rfl, ?_⟩
          refine ⟨_, rfl, _, rfl, .inr (.inl ⟨_, _, _, x, rfl, rfl, kp.sqT hsu, by rw [e0]; exact atI_nat hx, _, rfl, _, rfl, .inr (.inl ⟨_, _, _, y, rfl, rfl, kp.sqT hsv, by rw [e0]; exact atI_nat hy, ?_⟩)⟩)⟩
          refine ⟨x, y, d, rfl, kp.dp dx, kp.dp dy, hd d (List.mem_of_getElem? hdi), fun H2 k2 => ⟨_, k2.same _ _ rfl hDl, szt (by rw [List.length_replicate]; omega), ?_⟩⟩
          exact ⟨(kp.trans k2).mut hD, by rw [upd_same, List.replicate_succ']⟩
        · refine ⟨D, List.replicate ys.length true, rfl, .inl (.inl (by rw [bl_all]; exact hDl)), ?_⟩
          rw [all_rep]
          exact k _ kp
/-! ### _law_row: so many ints from nought to below a size -/
def Drawn0 (many size : Int) (xs : List Int) : Prop := (xs.length : Int) = many ∧ ∀ x ∈ xs, 0 ≤ x ∧ x < size
def sp_l_row : Sp := fun vs H Q _ => ∃ (c many size : Int), vs = [.int c, .int many, .int size] ∧ 0 ≤ many ∧ many ≤ 1000 ∧ 0 < size ∧ size < 1073741824 ∧
  ∀ (xs : List Int) (p : Addr) (H' : Hp), H p = none → Kp H H' → H' p = some (.lst (xs.map V.int)) → Drawn0 many size xs → Q (.ref p) H'
theorem snoc_in {size z : Int} {xs : List Int} (hs : 0 < size) (h : ∀ x ∈ xs, 0 ≤ x ∧ x < size) : ∀ x ∈ xs ++ [z % size], 0 ≤ x ∧ x < size := by
  intro x hx
  rcases List.mem_append.mp hx with hx | hx
  · exact h x hx
  · rw [List.mem_singleton.mp hx]
    exact ⟨Int.emod_nonneg _ (by omega), Int.emod_lt_of_pos _ hs⟩
theorem ok_l_row (T : Txt K mg) : FnOk P w K mg base CX0 1 T.f_l_row T.d_l_row ["_law_cell_here", "_law_many", "_law_size"] sp_l_row := by
  refine T.F_l_row.ok sc_l_row (fun vs H Q E h => ?_) (fun cdv A outer s H vs Q E hr h => ?_)
  · obtain ⟨c, many, size, rfl, _⟩ := h
    rfl
  · obtain ⟨c, many, size, rfl, hm0, hm1, hs0, hs1, k⟩ := h
    refine ⟨_, (pss_cons (ps_set (i := 3) sc_l_row.nd rfl (by first | exact Or.inl rfl | exact Or.inr rfl) (pe_lst pa_nil))
      (pss_cons (ps_if (pt_cmpR op_ge (pv 0) (pe_op op_pow pe_int pe_int) (nomark _))
      (pss_cons (ps_set (i := 4) sc_l_row.nd rfl (by first | exact Or.inl rfl | exact Or.inr rfl) (pe_op op_sub (pv 0) (pe_op op_pow pe_int pe_int)))
      (pss_cons (ps_for PassesOwn.never rfl (pi_range1 (by rfl) T.m_range (pa_cons (pv 1) pa_nil)) (pg_name (i := 5) sc_l_row.nd rfl (by first | exact Or.inl rfl | exact Or.inr rfl))
      (pss_cons (ps_expr (pe_bm PySem.F.plainAttrs_list PySem.F.slot_list_append PySem.F.type_list_append mt_append (pv 3) (pa_cons (pe_op op_mod (pv 4) (pv 2)) pa_nil)))
      (pss_one (ps_set (i := 4) sc_l_row.nd rfl (by first | exact Or.inl rfl | exact Or.inr rfl) (pe_op op_fdiv (pv 4) (pv 2))))))
      (pss_one (ps_ret (pv 3)))))
      pss_nil)
      (pss_cons (ps_set (i := 6) sc_l_row.nd rfl (by first | exact Or.inl rfl | exact Or.inr rfl) (pe_op op_mod (pv 0) pe_int))
      (pss_cons (ps_for PassesOwn.never rfl (pi_range1 (by rfl) T.m_range (pa_cons (pv 1) pa_nil)) (pg_name (i := 5) sc_l_row.nd rfl (by first | exact Or.inl rfl | exact Or.inr rfl))
      (pss_cons (ps_set (i := 6) sc_l_row.nd rfl (by first | exact Or.inl rfl | exact Or.inr rfl) (pe_op op_mod (pe_op op_add (pe_op op_add (pe_op op_mul (pv 6) pe_int) pe_int) (pv 5)) pe_int))
      (pss_cons (ps_set (i := 7) sc_l_row.nd rfl (by first | exact Or.inl rfl | exact Or.inr rfl) (pe_op op_mod (pe_op op_fdiv (pe_op op_mul (pv 6) (pe_op op_add (pe_op op_mod (pv 6) pe_int) pe_int)) pe_int) pe_int))
      (pss_one (ps_expr (pe_bm PySem.F.plainAttrs_list PySem.F.slot_list_append PySem.F.type_list_append mt_append (pv 3) (pa_cons (pe_op op_mod (pv 7) (pv 2)) pa_nil)))))))
      (pss_one (ps_ret (pv 3))))))), ?_⟩
    refine ⟨Nat.zero_le _, fun p np => ?_⟩
    generalize h_H1 : upd H p _ = H1
    have k_H1 : Kp H H1 := by rw [← h_H1]; exact .new np
    have q_H1 := (congrFun h_H1 p).symm.trans upd_same
    clear h_H1
    refine ⟨_, rfl, _, _, rfl, rfl, ⟨by decide, by decide, by decide⟩, _, _, rfl, rfl, _, rfl, iteD (fun c1 => ?_) (fun c1 => ?_)⟩
    · refine ⟨_, rfl, _, _, rfl, rfl, ⟨by decide, by decide, by decide⟩, _, _, rfl, rfl, ?_⟩
      refine ⟨_, rfl, many, rfl, by omega, by omega, ?_⟩
      refine for_range (lo := 0) (n := many.toNat) (fun i σ H' => ∃ (xs : List Int) (r : Int) (y : Option V), σ = [some (.int c), some (.int many), some (.int size), some (.ref p), some (.int r), y, none, none] ∧ Kp H H' ∧ H' p = some (.lst (xs.map V.int)) ∧ xs.length = i ∧ ∀ x ∈ xs, 0 ≤ x ∧ x < size)
        ⟨[], _, none, rfl, k_H1, q_H1, rfl, by simp⟩ ?_ ?_
      · rintro i σ H' hi ⟨xs, r, y, rfl, kp, hp, hl, hb⟩
        refine ⟨_, rfl, .inl ⟨rfl, _, SqL.of hp⟩, _, rfl, _, rfl, _, _, rfl, rfl, hs0, p, _, _, rfl, rfl, hp, szt (by rw [List.length_map]; omega), ?_⟩
        refine ⟨_, rfl, _, rfl, _, _, rfl, rfl, ⟨hs0, hs1⟩, ?_⟩
        refine ⟨xs ++ [r % size], _, _, rfl, kp.mut np, ?_, by rw [List.length_append, hl]; rfl, snoc_in hs0 hb⟩
        rw [upd_same, List.map_append]
        rfl
      · rintro σ H' ⟨xs, r, y, rfl, kp, hp, hl, hb⟩
        exact ⟨_, rfl, k xs p H' np kp hp ⟨by omega, hb⟩⟩
    · refine ⟨_, rfl, _, _, rfl, rfl, (by show (0 : Int) < 2147483647; decide), ?_⟩
      refine ⟨_, rfl, many, rfl, by omega, by omega, ?_⟩
      refine for_range (lo := 0) (n := many.toNat) (fun i σ H' => ∃ (xs : List Int) (r : Int) (y y2 : Option V), σ = [some (.int c), some (.int many), some (.int size), some (.ref p), none, y, some (.int r), y2] ∧ Kp H H' ∧ H' p = some (.lst (xs.map V.int)) ∧ xs.length = i ∧ ∀ x ∈ xs, 0 ≤ x ∧ x < size)
        ⟨[], _, none, none, rfl, k_H1, q_H1, rfl, by simp⟩ ?_ ?_
      · rintro i σ H' hi ⟨xs, r, y, y2, rfl, kp, hp, hl, hb⟩
        refine ⟨_, rfl, _, _, rfl, rfl, .inr ⟨by decide, by decide⟩, _, _, rfl, rfl, _, rfl, _, _, rfl, rfl, _, _, rfl, rfl, (by show (0 : Int) < 2147483647; decide), ?_⟩
        generalize hr2 : (fun (i j : Int) => V.int (i % j)) _ _ = sv
        obtain ⟨r2, rfl⟩ : ∃ r2 : Int, sv = .int r2 := ⟨_, hr2.symm⟩
        clear hr2
        have b0 : 0 ≤ r2 % 65521 := Int.emod_nonneg _ (by decide)
        have b1 : r2 % 65521 < 65521 := Int.emod_lt_of_pos _ (by decide)
        refine ⟨_, rfl, _, rfl, _, _, rfl, rfl, (by show (0 : Int) < 65521; decide), _, _, rfl, rfl, _, _, rfl, rfl, .inr ⟨by omega, by omega⟩, _, _, rfl, rfl, ⟨by decide, by decide⟩, _, _, rfl, rfl, (by show (0 : Int) < 1000003; decide), ?_⟩
        refine ⟨_, rfl, .inl ⟨rfl, _, SqL.of hp⟩, _, rfl, _, rfl, _, _, rfl, rfl, hs0, p, _, _, rfl, rfl, hp, szt (by rw [List.length_map]; omega), ?_⟩
        refine ⟨xs ++ [r2 * (r2 % 65521 + 3) / 1009 % 1000003 % size], r2, _, _, rfl, kp.mut np, ?_, by rw [List.length_append, hl]; rfl, snoc_in hs0 hb⟩
        rw [upd_same, List.map_append]
        rfl
      · rintro σ H' ⟨xs, r, y, y2, rfl, kp, hp, hl, hb⟩
        exact ⟨_, rfl, k xs p H' np kp hp ⟨by omega, hb⟩⟩
/-! ### what is kept but at some places -/
/-- what is kept but at the places of S -/
structure KpE (S : List Addr) (H H' : Hp) : Prop where
  same : ∀ a o, isT o = false → a ∉ S → H a = some o → H' a = some o
  tab : ∀ a, GxR.TabG H a → GxR.TabG H' a
  free : ∀ a, H' a = none → H a = none
theorem KpE.kp {S : List Addr} {H0 H H' : Hp} (k : Kp H0 H) (e : KpE S H H') (h : ∀ b ∈ S, H0 b = none) : Kp H0 H' :=
  ⟨fun a o t q => e.same a o t (fun m => by rw [h a m] at q; cases q) (k.same a o t q), fun a q => e.tab a (k.tab a q), fun a q => k.free a (e.free a q)⟩
theorem KpE.of {S : List Addr} {H H' : Hp} (k : Kp H H') : KpE S H H' := ⟨fun a o t _ q => k.same a o t q, k.tab, k.free⟩
theorem KpE.trans {S : List Addr} {H H1 H2 : Hp} (a : KpE S H H1) (b : KpE S H1 H2) : KpE S H H2 :=
  ⟨fun x o t m q => b.same x o t m (a.same x o t m q), fun x q => b.tab x (a.tab x q), fun x q => a.free x (b.free x q)⟩
theorem KpE.put {S : List Addr} {H : Hp} {d : Addr} {o u : HO} (hd : H d = some u) (nt : isT u = false) (m : d ∈ S) : KpE S H (upd H d o) := by
  refine ⟨fun a v t n q => ?_, fun a ⟨ps, q, tr⟩ => ⟨ps, ?_, tr⟩, fun a q => ?_⟩
  · rw [upd_ne (fun z => n (by rw [z]; exact m))]
    exact q
  · have ne : a ≠ d := fun z => by
      rw [z, hd] at q
      cases q
      cases nt
    rw [upd_ne ne]
    exact q
  · by_cases z : a = d
    · rw [z, upd_same] at q
      cases q
    · rw [upd_ne z] at q
      exact q
/-! ### the rows of a line -/
inductive RK where
  | way | arms | sleep | fog
  | q (u : Bool)
  | b (u : Bool) (m : Nat)
  deriving DecidableEq
def wayN (u : Bool) : Str := if u = true then "up" else "down"
theorem wayN_inj {u v : Bool} (h : wayN u = wayN v) : u = v := by
  cases u <;> cases v <;> first | rfl | (exfalso; revert h; decide +kernel)
def RK.mk : RK → MK
  | .way => .t "way"
  | .arms => .t "arms"
  | .sleep => .t "sleep"
  | .fog => .t "fog"
  | .q u => .u [Sum.inr "queue", Sum.inr (wayN u)]
  | .b u m => .u [Sum.inr "book", Sum.inr (wayN u), Sum.inl (m : Int)]
theorem RK.mk_inj {a b : RK} (h : a.mk = b.mk) : a = b := by
  cases a with
  | way => cases b <;> first | rfl | (exfalso; revert h; decide +kernel) | (exfalso; cases h)
  | arms => cases b <;> first | rfl | (exfalso; revert h; decide +kernel) | (exfalso; cases h)
  | sleep => cases b <;> first | rfl | (exfalso; revert h; decide +kernel) | (exfalso; cases h)
  | fog => cases b <;> first | rfl | (exfalso; revert h; decide +kernel) | (exfalso; cases h)
  | q u =>
    cases b with
    | q v =>
      injection h with h
      injection h with _ h
      injection h with h _
      injection h with h
      rw [wayN_inj h]
    | b v m =>
      exfalso
      injection h with h
      have := congrArg List.length h
      simp at this
    | _ => exfalso; cases h
  | b u m =>
    cases b with
    | q v =>
      exfalso
      injection h with h
      have := congrArg List.length h
      simp at this
    | b v k =>
      injection h with h
      injection h with _ h
      injection h with h h2
      injection h with h
      injection h2 with h2 _
      injection h2 with h2
      rw [wayN_inj h, Int.ofNat.inj h2]
    | _ => exfalso; cases h
def wayKeys (n : Nat) (u : Bool) : List RK := .q u :: (List.range n).map (.b u)
def baseKeys : List RK := [.way, .arms, .sleep, .fog]
def keysOf (n : Nat) : List RK := baseKeys ++ (wayKeys n true ++ wayKeys n false)
/-- the entries of the dict of rows -/
def entsR (ks : List RK) (ky : RK → V) (ad : RK → Addr) : List (MK × V × V) := ks.map fun k => (k.mk, ky k, V.ref (ad k))
structure RowsAt (P : Program) (w : World) (H : Hp) (R : Addr) (ks : List RK) (ad : RK → Addr) : Prop where
  ob : ∃ ky : RK → V, H R = some (MixO P w R (entsR ks ky ad)) ∧ ∀ k ∈ ks, KeyM H k.mk (ky k)
  inj : ∀ k ∈ ks, ∀ k' ∈ ks, ad k = ad k' → k = k'
/-- what the rows hold -/
structure ContAt (K : PySem.W.Frag) (H : Hp) (ks : List RK) (ad : RK → Addr) (row : RK → List PyData) : Prop where
  at_ : ∀ k ∈ ks, ∃ vs, H (ad k) = some (.lst vs) ∧ DpAll K H vs (row k)
  nl : ∀ k ∈ ks, ∀ d ∈ row k, Nl d
theorem KeyM.kp {H H' : Hp} (k : Kp H H') : ∀ {m : MK} {v : V}, KeyM H m v → KeyM H' m v
  | .t _, _, h => h
  | .u _, _, ⟨b, e, h⟩ => ⟨b, e, k.same _ _ rfl h⟩
theorem KeyM.kpE {S : List Addr} {H H' : Hp} (k : KpE S H H') (hS : ∀ a ∈ S, ∀ xs, H a ≠ some (.tup xs)) : ∀ {m : MK} {v : V}, KeyM H m v → KeyM H' m v
  | .t _, _, h => h
  | .u _, _, ⟨b, e, h⟩ => ⟨b, e, k.same _ _ rfl (fun m => hS b m _ h) h⟩
theorem RowsAt.kp {P : Program} {w : World} {H H' : Hp} {R : Addr} {ks : List RK} {ad : RK → Addr} (r : RowsAt P w H R ks ad) (k : Kp H H') : RowsAt P w H' R ks ad := by
  obtain ⟨ky, h1, h2⟩ := r.ob
  exact ⟨⟨ky, k.same _ _ rfl h1, fun x hx => (h2 x hx).kp k⟩, r.inj⟩
theorem ContAt.kp {K : PySem.W.Frag} {H H' : Hp} {ks : List RK} {ad : RK → Addr} {row : RK → List PyData} (c : ContAt K H ks ad row) (k : Kp H H') : ContAt K H' ks ad row :=
  ⟨fun x hx => let ⟨vs, h1, h2⟩ := c.at_ x hx; ⟨vs, k.same _ _ rfl h1, k.dpAll h2⟩, c.nl⟩
/-- the rows while they are laid: of texts alone at first -/
structure RowsI (P : Program) (w : World) (H : Hp) (R : Addr) (ks : List RK) (ad : RK → Addr) : Prop where
  ob : ∃ ky : RK → V, MixAt P w H R (entsR ks ky ad) ∧ ∀ k ∈ ks, KeyM H k.mk (ky k)
  inj : ∀ k ∈ ks, ∀ k' ∈ ks, ad k = ad k' → k = k'
theorem MixAt.kp {P : Program} {w : World} {H H' : Hp} {a : Addr} {kvs : List (MK × V × V)} (m : MixAt P w H a kvs) (k : Kp H H') : MixAt P w H' a kvs := by
  rcases m with h | ⟨k0, h, e⟩
  · exact .inl (k.same _ _ rfl h)
  · exact .inr ⟨k0, k.same _ _ rfl h, e⟩
theorem RowsI.kp {P : Program} {w : World} {H H' : Hp} {R : Addr} {ks : List RK} {ad : RK → Addr} (r : RowsI P w H R ks ad) (k : Kp H H') : RowsI P w H' R ks ad := by
  obtain ⟨ky, h1, h2⟩ := r.ob
  exact ⟨⟨ky, h1.kp k, fun x hx => (h2 x hx).kp k⟩, r.inj⟩
theorem RowsI.fin {P : Program} {w : World} {H : Hp} {R : Addr} {ks : List RK} {ad : RK → Addr} (r : RowsI P w H R ks ad) {u : Bool} (h : RK.q u ∈ ks) : RowsAt P w H R ks ad := by
  obtain ⟨ky, h1, h2⟩ := r.ob
  rcases h1 with h1 | ⟨k0, _, e⟩
  · exact ⟨⟨ky, h1, h2⟩, r.inj⟩
  · exfalso
    have hm : ((RK.q u).mk, ky (.q u), V.ref (ad (.q u))) ∈ entsR ks ky ad := List.mem_map.mpr ⟨_, h, rfl⟩
    rw [e] at hm
    obtain ⟨p, _, hp⟩ := List.mem_map.mp hm
    cases hp
def setA (ad : RK → Addr) (k : RK) (a : Addr) : RK → Addr := fun x => if x = k then a else ad x
theorem entsR_snoc {ks : List RK} {ky : RK → V} {ad : RK → Addr} {k : RK} {y : V} {a : Addr} (h : k ∉ ks) : entsR ks ky ad ++ [(k.mk, y, V.ref a)] = entsR (ks ++ [k]) (fun x => if x = k then y else ky x) (setA ad k a) := by
  unfold entsR
  rw [List.map_append]
  congr 1
  · refine List.map_congr_left fun x hx => ?_
    have ne : x ≠ k := fun z => h (z ▸ hx)
    show (x.mk, ky x, V.ref (ad x)) = (x.mk, (if x = k then y else ky x), V.ref (if x = k then a else ad x))
    rw [if_neg ne, if_neg ne]
  · show [(k.mk, y, V.ref a)] = [(k.mk, (if k = k then y else ky k), V.ref (if k = k then a else ad k))]
    rw [if_pos rfl, if_pos rfl]
/-- one more row is laid -/
theorem RowsI.put {P : Program} {w : World} {H : Hp} {R : Addr} {ks : List RK} {ad : RK → Addr} {k : RK} {y : V} {a : Addr} (r : RowsI P w H R ks ad) (hk : k ∉ ks) (hy : KeyM H k.mk y) (ha : ∀ x ∈ ks, ad x ≠ a) :
    ∃ kvs, MixAt P w H R kvs ∧ KeysM H kvs ∧ (∀ p ∈ kvs, p.1 ≠ k.mk) ∧ kvs.length = ks.length ∧ RowsI P w (upd H R (MixO P w R (kvs ++ [(k.mk, y, V.ref a)]))) R (ks ++ [k]) (setA ad k a) := by
  obtain ⟨ky, h1, h2⟩ := r.ob
  have mu := h1.mut
  have keep : ∀ {m : MK} {v : V}, KeyM H m v → KeyM (upd H R (MixO P w R (entsR ks ky ad ++ [(k.mk, y, V.ref a)]))) m v := fun {m v} hm => by
    cases m with
    | t x => exact hm
    | u l =>
      obtain ⟨b, e, hb⟩ := hm
      refine ⟨b, e, ?_⟩
      rw [upd_ne (fun z => by rw [z] at hb; rw [hb] at mu; exact mu)]
      exact hb
  refine ⟨entsR ks ky ad, h1, fun p hp => ?_, fun p hp e => ?_, by unfold entsR; rw [List.length_map], ⟨fun x => if x = k then y else ky x, .inl ?_, fun x hx => ?_⟩, fun x hx x' hx' e => ?_⟩
  · obtain ⟨x, hx, rfl⟩ := List.mem_map.mp hp
    exact h2 x hx
  · obtain ⟨x, hx, rfl⟩ := List.mem_map.mp hp
    exact hk (RK.mk_inj e ▸ hx)
  · rw [upd_same, entsR_snoc hk]
  · dsimp only
    rcases List.mem_append.mp hx with hx | hx
    · have ne : x ≠ k := fun z => hk (z ▸ hx)
      rw [if_neg ne]
      exact keep (h2 x hx)
    · have e : x = k := List.mem_singleton.mp hx
      subst e
      rw [if_pos rfl]
      exact keep hy
  · unfold setA at e
    rcases List.mem_append.mp hx with hx | hx
    · have ne : x ≠ k := fun z => hk (z ▸ hx)
      rw [if_neg ne] at e
      rcases List.mem_append.mp hx' with hx' | hx'
      · have ne' : x' ≠ k := fun z => hk (z ▸ hx')
        rw [if_neg ne'] at e
        exact r.inj x hx x' hx' e
      · rw [if_pos (List.mem_singleton.mp hx')] at e
        exact absurd e (ha x hx)
    · have ex : x = k := List.mem_singleton.mp hx
      rw [if_pos ex] at e
      rcases List.mem_append.mp hx' with hx' | hx'
      · have ne' : x' ≠ k := fun z => hk (z ▸ hx')
        rw [if_neg ne'] at e
        exact absurd e.symm (ha x' hx')
      · rw [ex, List.mem_singleton.mp hx']
theorem ContAt.snoc {K : PySem.W.Frag} {H : Hp} {ks : List RK} {ad : RK → Addr} {row : RK → List PyData} {k : RK} {a : Addr} (c : ContAt K H ks ad row) (hk : k ∉ ks) (ha : H a = some (.lst [])) (hr : row k = []) : ContAt K H (ks ++ [k]) (setA ad k a) row := by
  refine ⟨fun x hx => ?_, fun x hx d hd => ?_⟩
  · unfold setA
    rcases List.mem_append.mp hx with hx | hx
    · rw [if_neg (fun z : x = k => hk (z ▸ hx))]
      exact c.at_ x hx
    · have e : x = k := List.mem_singleton.mp hx
      rw [if_pos e, e, hr]
      exact ⟨[], ha, .nil⟩
  · rcases List.mem_append.mp hx with hx | hx
    · exact c.nl x hx d hd
    · rw [List.mem_singleton.mp hx, hr] at hd
      cases hd
/-! ### data of tuples are kept where tuples are -/
def TupK (H H' : Hp) : Prop := ∀ a xs, Rd H a (.tup xs) → Rd H' a (.tup xs)
theorem TupK.refl (H : Hp) : TupK H H := fun _ _ h => h
theorem TupK.trans {H H1 H2 : Hp} (a : TupK H H1) (b : TupK H1 H2) : TupK H H2 := fun x xs h => b x xs (a x xs h)
theorem Kp.tk {H H' : Hp} (k : Kp H H') : TupK H H' := fun _ _ h => k.rd rfl h
/-- what is no tuple and not locked -/
def Loose : HO → Prop
  | .tup _ => False
  | .frz _ _ => False
  | _ => True
theorem TupK.upd {H : Hp} {p : Addr} {o u : HO} (h : H p = some u) (l : Loose u) : TupK H (upd H p o) := fun a xs r => by
  have ne : a ≠ p := fun z => by
    rw [z] at r
    rcases r with r | ⟨ob, r⟩
    · rw [h] at r; cases r; exact l
    · rw [h] at r; cases r; exact l
  rcases r with r | ⟨ob, r⟩
  · exact .inl (by rw [upd_ne ne]; exact r)
  · exact .inr ⟨ob, by rw [upd_ne ne]; exact r⟩
theorem TupK.kpE {S : List Addr} {H H' : Hp} (k : KpE S H H') (h : ∀ a ∈ S, ∀ u, H a = some u → Loose u) : TupK H H' := fun a xs r => by
  have ne : a ∉ S := fun m => by
    rcases r with r | ⟨ob, r⟩
    · exact h a m _ r
    · exact h a m _ r
  rcases r with r | ⟨ob, r⟩
  · exact .inl (k.same _ _ rfl ne r)
  · exact .inr ⟨ob, k.same _ _ rfl ne r⟩
mutual
theorem Dp.tk {K : PySem.W.Frag} {H H' : Hp} (t : TupK H H') : ∀ {d : PyData} {v : V}, Nl d → Dp K H v d → Dp K H' v d
  | _, _, _, .non => .non
  | _, _, _, .bl b => .bl b
  | _, _, _, .int i => .int i
  | _, _, _, .str x => .str x
  | _, _, n, .lst _ _ => nomatch n
  | _, _, n, .tup h a => by
    cases n with
    | tup n =>
      refine .tup ?_ (DpAll.tk t n a)
      rcases h with h | h
      · exact .inl (t _ _ h)
      · exact .inr h
theorem DpAll.tk {K : PySem.W.Frag} {H H' : Hp} (t : TupK H H') : ∀ {ds : List PyData} {vs : List V}, (∀ d ∈ ds, Nl d) → DpAll K H vs ds → DpAll K H' vs ds
  | _, _, _, .nil => .nil
  | _, _, n, .cons h r => .cons (Dp.tk t (n _ List.mem_cons_self) h) (DpAll.tk t (fun d hd => n d (List.mem_cons_of_mem _ hd)) r)
end
theorem ContAt.put {K : PySem.W.Frag} {H : Hp} {ks : List RK} {ad : RK → Addr} {row : RK → List PyData} {p : Addr} {o u : HO} (c : ContAt K H ks ad row) (h : H p = some u) (l : Loose u) (ne : ∀ k ∈ ks, ad k ≠ p) : ContAt K (upd H p o) ks ad row :=
  ⟨fun k hk => let ⟨vs, h1, h2⟩ := c.at_ k hk; ⟨vs, by rw [upd_ne (ne k hk)]; exact h1, DpAll.tk (.upd h l) (c.nl k hk) h2⟩, c.nl⟩
theorem Loose.ntup {H : Hp} {S : List Addr} (h : ∀ a ∈ S, ∀ u, H a = some u → Loose u) : ∀ a ∈ S, ∀ xs, H a ≠ some (.tup xs) := fun a m xs e => h a m _ e
theorem RowsAt.kpE {P : Program} {w : World} {S : List Addr} {H H' : Hp} {R : Addr} {ks : List RK} {ad : RK → Addr} (r : RowsAt P w H R ks ad) (k : KpE S H H') (hR : R ∉ S) (hS : ∀ a ∈ S, ∀ u, H a = some u → Loose u) : RowsAt P w H' R ks ad := by
  obtain ⟨ky, h1, h2⟩ := r.ob
  exact ⟨⟨ky, k.same _ _ rfl hR h1, fun x hx => KeyM.kpE k (Loose.ntup hS) (h2 x hx)⟩, r.inj⟩
theorem ContAt.kpE {K : PySem.W.Frag} {S : List Addr} {H H' : Hp} {ks : List RK} {ad : RK → Addr} {row : RK → List PyData} (c : ContAt K H ks ad row) (k : KpE S H H') (ha : ∀ x ∈ ks, ad x ∉ S) (hS : ∀ a ∈ S, ∀ u, H a = some u → Loose u) : ContAt K H' ks ad row :=
  ⟨fun x hx => let ⟨vs, h1, h2⟩ := c.at_ x hx; ⟨vs, k.same _ _ rfl (ha x hx) h1, DpAll.tk (.kpE k hS) (c.nl x hx) h2⟩, c.nl⟩
theorem loose1 {H : Hp} {a : Addr} {u : HO} (h : H a = some u) (l : Loose u) : ∀ b ∈ [a], ∀ v, H b = some v → Loose v := fun b m v e => by
  rw [List.mem_singleton.mp m, h] at e
  cases e
  exact l
/-! ### new rows -/
def sp_p_queue_of : Sp := fun vs H Q _ => ∃ (x : Str), vs = [.str x] ∧ ∀ (r : Addr) (H' : Hp), H r = none → Kp H H' → H' r = some (.tup [.str "queue", .str x]) → Q (.ref r) H'
theorem ok_p_queue_of (T : Txt K mg) : FnOk P w K mg base CX0 1 T.f_p_queue_of T.d_p_queue_of ["way"] sp_p_queue_of := by
  refine T.F_p_queue_of.ok sc_p_queue_of (fun vs H Q E h => ?_) (fun cdv A outer s H vs Q E hr h => ?_)
  · obtain ⟨x, rfl, _⟩ := h
    rfl
  · obtain ⟨x, rfl, k⟩ := h
    exact ⟨_, (pss_one (ps_ret (pe_tup (pa_cons pe_str (pa_cons (pv 0) pa_nil))))), _, rfl, szl (by show 2 ≤ 100000; decide), fun r nr => k r _ nr (.new nr) upd_same⟩
def sp_p_book_of : Sp := fun vs H Q _ => ∃ (x : Str) (m : Int), vs = [.str x, .int m] ∧ ∀ (r : Addr) (H' : Hp), H r = none → Kp H H' → H' r = some (.tup [.str "book", .str x, .int m]) → Q (.ref r) H'
theorem ok_p_book_of (T : Txt K mg) : FnOk P w K mg base CX0 1 T.f_p_book_of T.d_p_book_of ["way", "mast"] sp_p_book_of := by
  refine T.F_p_book_of.ok sc_p_book_of (fun vs H Q E h => ?_) (fun cdv A outer s H vs Q E hr h => ?_)
  · obtain ⟨x, m, rfl, _⟩ := h
    rfl
  · obtain ⟨x, m, rfl, k⟩ := h
    exact ⟨_, (pss_one (ps_ret (pe_tup (pa_cons pe_str (pa_cons (pv 0) (pa_cons (pv 1) pa_nil)))))), _, rfl, _, rfl, szl (by show 3 ≤ 100000; decide), fun r nr => k r _ nr (.new nr) upd_same⟩
/-- what new rows hold -/
def newRow (n : Nat) : RK → List PyData
  | .way => [.str "up"]
  | .arms => List.replicate n (.int 0)
  | .sleep => List.replicate n (.bool false)
  | .fog => List.replicate (n - 1) (.bool false)
  | _ => []
theorem dp_rep {K : PySem.W.Frag} {H : Hp} {v : V} {d : PyData} (h : Dp K H v d) : ∀ n : Nat, DpAll K H (List.replicate n v) (List.replicate n d)
  | 0 => .nil
  | n + 1 => .cons h (dp_rep h n)
theorem rep_one {v : V} (n : Nat) : (List.replicate n [v]).flatten = List.replicate n v := by
  induction n with
  | zero => rfl
  | succ n ih => rw [List.replicate_succ, List.flatten_cons, ih]; rfl
def laid (n : Nat) : Nat → List RK
  | 0 => baseKeys
  | 1 => baseKeys ++ wayKeys n true
  | _ => keysOf n
theorem laid_q {n : Nat} {u : Bool} {j : Nat} {ks : List RK} (h : ∀ k ∈ ks, k ∈ baseKeys ∨ ∃ v, v ≠ u ∧ k ∈ wayKeys n v) : RK.q u ∉ ks ∧ RK.b u j ∉ ks := by
  constructor
  · intro m
    rcases h _ m with h | ⟨v, hv, h⟩
    · simp [baseKeys] at h
    · unfold wayKeys at h
      rcases List.mem_cons.mp h with h | h
      · injection h with h
        exact hv h.symm
      · obtain ⟨_, _, e⟩ := List.mem_map.mp h
        cases e
  · intro m
    rcases h _ m with h | ⟨v, hv, h⟩
    · simp [baseKeys] at h
    · unfold wayKeys at h
      rcases List.mem_cons.mp h with h | h
      · cases h
      · obtain ⟨_, _, e⟩ := List.mem_map.mp h
        injection e with e _
        exact hv e
theorem MixAt.loose {P : Program} {w : World} {H : Hp} {a : Addr} {kvs : List (MK × V × V)} (m : MixAt P w H a kvs) : ∃ u, H a = some u ∧ Loose u ∧ ∀ xs, u ≠ .lst xs := by
  rcases m with h | ⟨k0, h, _⟩
  · exact ⟨_, h, trivial, fun xs z => by cases z⟩
  · exact ⟨_, h, trivial, fun xs z => by cases z⟩
/-- one more empty row: what is asked of the store, what holds behind it -/
theorem rows_more {P : Program} {w : World} {K : PySem.W.Frag} {H0 A : Hp} {R : Addr} {ks : List RK} {ad : RK → Addr} {row : RK → List PyData} {k : RK} {y : V} {l tw : Addr} {tv : List V} (rI : RowsI P w A R ks ad) (cA : ContAt K A ks ad row) (fr : ∀ x ∈ ks, H0 (ad x) = none) (kp : Kp H0 A) (hR : H0 R = none) (hl0 : H0 l = none)
    (hk : k ∉ ks) (hy : KeyM A k.mk y) (hl : A l = some (.lst [])) (ne : ∀ x ∈ ks, ad x ≠ l) (hr : row k = []) (htw : A tw = some (.tup tv)) :
    ∃ kvs, MixAt P w A R kvs ∧ KeysM A kvs ∧ (∀ p ∈ kvs, p.1 ≠ k.mk) ∧ kvs.length = ks.length ∧ ∀ A', upd A R (MixO P w R (kvs ++ [(k.mk, y, V.ref l)])) = A' → RowsI P w A' R (ks ++ [k]) (setA ad k l) ∧ ContAt K A' (ks ++ [k]) (setA ad k l) row ∧ (∀ x ∈ ks ++ [k], H0 (setA ad k l x) = none) ∧ Kp H0 A' ∧ A' tw = some (.tup tv) := by
  obtain ⟨kvs, m1, m2, m3, m4, rI3⟩ := rI.put hk hy ne
  refine ⟨kvs, m1, m2, m3, m4, fun A' e => ?_⟩
  subst e
  obtain ⟨u, hu, lo, nl⟩ := m1.loose
  have c2 := cA.snoc hk hl hr
  refine ⟨rI3, c2.put hu lo fun x hx z => ?_, fun x hx => ?_, kp.mut hR, ?_⟩
  · obtain ⟨vs, h1, _⟩ := c2.at_ x hx
    rw [z, hu] at h1
    exact nl _ (Option.some.inj h1)
  · unfold setA
    rcases List.mem_append.mp hx with hx | hx
    · rw [if_neg (fun z : x = k => hk (z ▸ hx))]
      exact fr x hx
    · rw [if_pos (List.mem_singleton.mp hx)]
      exact hl0
  · rw [upd_ne (fun z => by rw [z, hu] at htw; cases htw; exact lo)]
    exact htw
def sp_p_new_rows (P : Program) (w : World) (K : PySem.W.Frag) : Sp := fun vs H Q _ => ∃ n : Nat, vs = [.int (n : Int)] ∧ 1 ≤ n ∧ n ≤ 12 ∧ ∀ (R : Addr) (ad : RK → Addr) (H' : Hp), H R = none → (∀ k ∈ keysOf n, H (ad k) = none) → Kp H H' → RowsAt P w H' R (keysOf n) ad → ContAt K H' (keysOf n) ad (newRow n) → Q (.ref R) H'
theorem ok_p_new_rows (T : Txt K mg) : FnOk P w K mg base CX0 2 T.f_p_new_rows T.d_p_new_rows ["masts"] (sp_p_new_rows P w K) := by
  refine T.F_p_new_rows.ok sc_p_new_rows (fun vs H Q E h => ?_) (fun cdv A outer s H vs Q E hr h => ?_)
  · obtain ⟨n, rfl, _⟩ := h
    rfl
  · obtain ⟨n, rfl, hn1, hn2, k⟩ := h
    have hu := hu_of hr
    refine ⟨_, (pss_cons (ps_set (i := 1) sc_p_new_rows.nd rfl (by first | exact Or.inl rfl | exact Or.inr rfl) (pe_disp (pps_cons (pe_glob rfl T.c_WAY T.r_WAY) (pe_lst (pa_cons (pe_glob rfl T.c_UP T.r_UP) pa_nil)) (pps_cons (pe_glob rfl T.c_ARMS T.r_ARMS) (pe_op op_rep (pe_lst (pa_cons (pe_glob rfl T.c_REST T.r_REST) pa_nil)) (pv 0)) (pps_cons (pe_glob rfl T.c_SLEEP T.r_SLEEP) (pe_op op_rep (pe_lst (pa_cons pe_bl pa_nil)) (pv 0)) (pps_cons (pe_glob rfl T.c_FOG T.r_FOG) (pe_op op_rep (pe_lst (pa_cons pe_bl pa_nil)) (pe_op op_sub (pv 0) pe_int)) pps_nil)))) rfl rfl (by intro z; cases z) (by decide)))
      (pss_cons (ps_for PassesOwn.never rfl (pi_tup (pe_tup (pa_cons (pe_glob rfl T.c_UP T.r_UP) (pa_cons (pe_glob rfl T.c_DOWN T.r_DOWN) pa_nil)))) (pg_name (i := 2) sc_p_new_rows.nd rfl (by first | exact Or.inl rfl | exact Or.inr rfl))
      (pss_cons (ps_mputK P w rfl rfl hu (pv 1) (pe_call (ok_p_queue_of T) (hr.mono (by decide)) rfl T.g_p_queue_of T.F_p_queue_of.kp T.b_p_queue_of .nil pass0 (pa_cons (pv 2) pa_nil)) (pe_lst pa_nil) rfl)
      (pss_one (ps_for PassesOwn.never rfl (pi_range1 (by rfl) T.m_range (pa_cons (pv 0) pa_nil)) (pg_name (i := 3) sc_p_new_rows.nd rfl (by first | exact Or.inl rfl | exact Or.inr rfl))
      (pss_one (ps_mputK P w rfl rfl hu (pv 1) (pe_call (ok_p_book_of T) (hr.mono (by decide)) rfl T.g_p_book_of T.F_p_book_of.kp T.b_p_book_of .nil pass0 (pa_cons (pv 2) (pa_cons (pv 3) pa_nil))) (pe_lst pa_nil) rfl))))))
      (pss_one (ps_ret (pv 1))))), ?_⟩
    intro R nR
    generalize h_G0 : upd H R _ = G0
    have k_G0 : Kp H G0 := by rw [← h_G0]; exact .new nR
    have q_G0 := (congrFun h_G0 R).symm.trans upd_same
    clear h_G0
    refine ⟨szl (by show 1 ≤ 100000; decide), fun l1 n1 => ?_⟩
    generalize h_G1 : upd G0 l1 _ = G1
    have k_G1 : Kp G0 G1 := by rw [← h_G1]; exact .new n1
    have q_G1 := (congrFun h_G1 l1).symm.trans upd_same
    clear h_G1
    refine ⟨szl (by show 1 ≤ 100000; decide), fun l2a n2a => ?_⟩
    generalize h_G2a : upd G1 l2a _ = G2a
    have k_G2a : Kp G1 G2a := by rw [← h_G2a]; exact .new n2a
    have q_G2a := (congrFun h_G2a l2a).symm.trans upd_same
    clear h_G2a
    refine ⟨_, rfl, l2a, _, _, rfl, rfl, q_G2a, by omega, by omega, szl (by show 1 * ((n : Int)).toNat ≤ 100000; omega), fun l2 n2 => ?_⟩
    generalize h_G2 : upd G2a l2 _ = G2
    have k_G2 : Kp G2a G2 := by rw [← h_G2]; exact .new n2
    have q_G2 := (congrFun h_G2 l2).symm.trans upd_same
    clear h_G2
    refine ⟨szl (by show 1 ≤ 100000; decide), fun l3a n3a => ?_⟩
    generalize h_G3a : upd G2 l3a _ = G3a
    have k_G3a : Kp G2 G3a := by rw [← h_G3a]; exact .new n3a
    have q_G3a := (congrFun h_G3a l3a).symm.trans upd_same
    clear h_G3a
    refine ⟨_, rfl, l3a, _, _, rfl, rfl, q_G3a, by omega, by omega, szl (by show 1 * ((n : Int)).toNat ≤ 100000; omega), fun l3 n3 => ?_⟩
    generalize h_G3 : upd G3a l3 _ = G3
    have k_G3 : Kp G3a G3 := by rw [← h_G3]; exact .new n3
    have q_G3 := (congrFun h_G3 l3).symm.trans upd_same
    clear h_G3
    refine ⟨szl (by show 1 ≤ 100000; decide), fun l4a n4a => ?_⟩
    generalize h_G4a : upd G3 l4a _ = G4a
    have k_G4a : Kp G3 G4a := by rw [← h_G4a]; exact .new n4a
    have q_G4a := (congrFun h_G4a l4a).symm.trans upd_same
    clear h_G4a
    refine ⟨_, rfl, _, _, rfl, rfl, l4a, _, _, rfl, rfl, q_G4a, by omega, by omega, szl (by show 1 * ((n : Int) - 1).toNat ≤ 100000; omega), fun l4 n4 => ?_⟩
    generalize h_G4 : upd G4a l4 _ = G4
    have k_G4 : Kp G4a G4 := by rw [← h_G4]; exact .new n4
    have q_G4 := (congrFun h_G4 l4).symm.trans upd_same
    clear h_G4
    have kR : Kp G0 G4 := ((((((k_G1.trans k_G2a).trans k_G2).trans k_G3a).trans k_G3).trans k_G4a).trans k_G4)
    have hR4 := kR.same _ _ rfl q_G0
    refine ⟨hR4, [(Sum.inr "way", .ref l1), (Sum.inr "arms", .ref l2), (Sum.inr "sleep", .ref l3), (Sum.inr "fog", .ref l4)], rfl, (by show 4 ≤ 15; decide), ?_⟩
    have em : mergeK [] [((Sum.inr "way" : Key), V.ref l1), (Sum.inr "arms", .ref l2), (Sum.inr "sleep", .ref l3), (Sum.inr "fog", .ref l4)] = ([(Sum.inr "way", V.ref l1), (Sum.inr "arms", V.ref l2), (Sum.inr "sleep", V.ref l3), (Sum.inr "fog", V.ref l4)] : List (Key × V)) := by rfl
    rw [em]
    have h1 : G4 l1 = some (.lst [.str "up"]) := k_G4.same _ _ rfl (k_G4a.same _ _ rfl (k_G3.same _ _ rfl (k_G3a.same _ _ rfl (k_G2.same _ _ rfl (k_G2a.same _ _ rfl q_G1)))))
    have h2 : G4 l2 = some (.lst (List.replicate n (.int 0))) := by
      have z := k_G4.same _ _ rfl (k_G4a.same _ _ rfl (k_G3.same _ _ rfl (k_G3a.same _ _ rfl q_G2)))
      rw [rep_one, Int.toNat_natCast] at z
      exact z
    have h3 : G4 l3 = some (.lst (List.replicate n (.bl false))) := by
      have z := k_G4.same _ _ rfl (k_G4a.same _ _ rfl q_G3)
      rw [rep_one, Int.toNat_natCast] at z
      exact z
    have h4 : G4 l4 = some (.lst (List.replicate (n - 1) (.bl false))) := by
      have z := q_G4
      rw [rep_one, show ((n : Int) - 1).toNat = n - 1 by omega] at z
      exact z
    have e1 : l1 ≠ R := fun z => by rw [z, q_G0] at n1; cases n1
    have e2 : l2 ≠ R := fun z => by rw [z, (k_G1.trans k_G2a).same _ _ rfl q_G0] at n2; cases n2
    have e3 : l3 ≠ R := fun z => by rw [z, (((k_G1.trans k_G2a).trans k_G2).trans k_G3a).same _ _ rfl q_G0] at n3; cases n3
    have e4 : l4 ≠ R := fun z => by rw [z, (((((k_G1.trans k_G2a).trans k_G2).trans k_G3a).trans k_G3).trans k_G4a).same _ _ rfl q_G0] at n4; cases n4
    have m12 : l1 ≠ l2 := fun z => by rw [← z, k_G2a.same _ _ rfl q_G1] at n2; cases n2
    have m13 : l1 ≠ l3 := fun z => by rw [← z, ((k_G2a.trans k_G2).trans k_G3a).same _ _ rfl q_G1] at n3; cases n3
    have m14 : l1 ≠ l4 := fun z => by rw [← z, ((((k_G2a.trans k_G2).trans k_G3a).trans k_G3).trans k_G4a).same _ _ rfl q_G1] at n4; cases n4
    have m23 : l2 ≠ l3 := fun z => by rw [← z, k_G3a.same _ _ rfl q_G2] at n3; cases n3
    have m24 : l2 ≠ l4 := fun z => by rw [← z, ((k_G3a.trans k_G3).trans k_G4a).same _ _ rfl q_G2] at n4; cases n4
    have m34 : l3 ≠ l4 := fun z => by rw [← z, k_G4a.same _ _ rfl q_G3] at n4; cases n4
    have f1 : H l1 = none := k_G0.free _ n1
    have f2 : H l2 = none := k_G0.free _ ((k_G1.trans k_G2a).free _ n2)
    have f3 : H l3 = none := k_G0.free _ ((((k_G1.trans k_G2a).trans k_G2).trans k_G3a).free _ n3)
    have f4 : H l4 = none := k_G0.free _ ((((((k_G1.trans k_G2a).trans k_G2).trans k_G3a).trans k_G3).trans k_G4a).free _ n4)
    have kH5 : Kp H (upd G4 R (.dK [(Sum.inr "way", .ref l1), (Sum.inr "arms", .ref l2), (Sum.inr "sleep", .ref l3), (Sum.inr "fog", .ref l4)])) := (k_G0.trans kR).mut nR
    have r5 : upd G4 R (.dK [(Sum.inr "way", .ref l1), (Sum.inr "arms", .ref l2), (Sum.inr "sleep", .ref l3), (Sum.inr "fog", .ref l4)]) R = some (.dK [(Sum.inr "way", .ref l1), (Sum.inr "arms", .ref l2), (Sum.inr "sleep", .ref l3), (Sum.inr "fog", .ref l4)]) := upd_same
    have h1' : upd G4 R (.dK [(Sum.inr "way", .ref l1), (Sum.inr "arms", .ref l2), (Sum.inr "sleep", .ref l3), (Sum.inr "fog", .ref l4)]) l1 = some (.lst [.str "up"]) := by rw [upd_ne e1]; exact h1
    have h2' : upd G4 R (.dK [(Sum.inr "way", .ref l1), (Sum.inr "arms", .ref l2), (Sum.inr "sleep", .ref l3), (Sum.inr "fog", .ref l4)]) l2 = some (.lst (List.replicate n (.int 0))) := by rw [upd_ne e2]; exact h2
    have h3' : upd G4 R (.dK [(Sum.inr "way", .ref l1), (Sum.inr "arms", .ref l2), (Sum.inr "sleep", .ref l3), (Sum.inr "fog", .ref l4)]) l3 = some (.lst (List.replicate n (.bl false))) := by rw [upd_ne e3]; exact h3
    have h4' : upd G4 R (.dK [(Sum.inr "way", .ref l1), (Sum.inr "arms", .ref l2), (Sum.inr "sleep", .ref l3), (Sum.inr "fog", .ref l4)]) l4 = some (.lst (List.replicate (n - 1) (.bl false))) := by rw [upd_ne e4]; exact h4
    generalize upd G4 R (.dK [(Sum.inr "way", .ref l1), (Sum.inr "arms", .ref l2), (Sum.inr "sleep", .ref l3), (Sum.inr "fog", .ref l4)]) = G5 at kH5 r5 h1' h2' h3' h4' ⊢
    let ad0 : RK → Addr := fun k => match k with
      | .way => l1
      | .arms => l2
      | .sleep => l3
      | _ => l4
    have I0 : RowsI P w G5 R baseKeys ad0 := by
      refine ⟨⟨fun k => match k with | .way => .str "way" | .arms => .str "arms" | .sleep => .str "sleep" | _ => .str "fog", .inr ⟨[("way", .ref l1), ("arms", .ref l2), ("sleep", .ref l3), ("fog", .ref l4)], r5, rfl⟩, fun k hk => ?_⟩, fun k hk k' hk' e => ?_⟩
      · simp only [baseKeys, List.mem_cons, List.not_mem_nil, or_false] at hk
        rcases hk with rfl | rfl | rfl | rfl <;> rfl
      · simp only [baseKeys, List.mem_cons, List.not_mem_nil, or_false] at hk hk'
        rcases hk with rfl | rfl | rfl | rfl <;> rcases hk' with rfl | rfl | rfl | rfl <;> first | rfl | exact absurd e (by assumption) | exact absurd e.symm (by assumption)
    have C0 : ContAt K G5 baseKeys ad0 (newRow n) := by
      refine ⟨fun k hk => ?_, fun k hk d hd => ?_⟩
      · simp only [baseKeys, List.mem_cons, List.not_mem_nil, or_false] at hk
        rcases hk with rfl | rfl | rfl | rfl
        · exact ⟨_, h1', .cons (.str _) .nil⟩
        · exact ⟨_, h2', dp_rep (.int 0) n⟩
        · exact ⟨_, h3', dp_rep (.bl false) n⟩
        · exact ⟨_, h4', dp_rep (.bl false) (n - 1)⟩
      · simp only [baseKeys, List.mem_cons, List.not_mem_nil, or_false] at hk
        rcases hk with rfl | rfl | rfl | rfl
        · rw [List.mem_singleton.mp hd]; exact .str _
        · rw [List.eq_of_mem_replicate hd]; exact .int _
        · rw [List.eq_of_mem_replicate hd]; exact .bl _
        · rw [List.eq_of_mem_replicate hd]; exact .bl _
    have F0 : ∀ k ∈ baseKeys, H (ad0 k) = none := fun k hk => by
      simp only [baseKeys, List.mem_cons, List.not_mem_nil, or_false] at hk
      rcases hk with rfl | rfl | rfl | rfl
      · exact f1
      · exact f2
      · exact f3
      · exact f4
    clear_value ad0
    refine ⟨szl (by show 2 ≤ 100000; decide), fun tw ntw => ?_⟩
    generalize h_G6 : upd G5 tw _ = G6
    have k_G6 : Kp G5 G6 := by rw [← h_G6]; exact .new ntw
    have q_G6 := (congrFun h_G6 tw).symm.trans upd_same
    clear h_G6
    have k6 : Kp H G6 := kH5.trans k_G6
    refine ⟨tw, rfl, ⟨_, .inl (.inl q_G6)⟩, for_tup (K := K) (a := tw) (xs := [.str "up", .str "down"]) (fun i σ H' => ∃ (ad : RK → Addr) (y2 y3 : Option V), σ = [some (.int (n : Int)), some (.ref R), y2, y3] ∧ Kp H H' ∧ H' tw = some (.tup [.str "up", .str "down"]) ∧ RowsI P w H' R (laid n i) ad ∧ ContAt K H' (laid n i) ad (newRow n) ∧ ∀ k ∈ laid n i, H (ad k) = none)
      ⟨ad0, none, none, rfl, k6, q_G6, I0.kp k_G6, C0.kp k_G6, F0⟩ (fun i σ H' _ ⟨_, _, _, _, _, h, _⟩ => .inl (.inl h)) ?_ ?_⟩
    · have step : ∀ (ks : List RK) (u : Bool), ks.length ≤ 100 → (∀ k ∈ ks, k ∈ baseKeys ∨ ∃ v, v ≠ u ∧ k ∈ wayKeys n v) → True := fun _ _ _ _ => trivial
      clear step
      rintro i x σ H' hi ⟨ad, y2, y3, rfl, kp, htw, rI, cA, fr⟩
      obtain ⟨u, rfl, eL, hks, hlen⟩ : ∃ u, x = .str (wayN u) ∧ laid n (i + 1) = laid n i ++ wayKeys n u ∧ (∀ k ∈ laid n i, k ∈ baseKeys ∨ ∃ v, v ≠ u ∧ k ∈ wayKeys n v) ∧ (laid n i).length ≤ 100 := by
        rcases i with _ | _ | i
        · refine ⟨true, ?_, rfl, fun k hk => .inl hk, (by show 4 ≤ 100; decide)⟩
          have z := Option.some.inj hi
          rw [← z]
          rfl
        · refine ⟨false, ?_, ?_, fun k hk => ?_, ?_⟩
          · have z := Option.some.inj hi
            rw [← z]
            rfl
          · show keysOf n = (baseKeys ++ wayKeys n true) ++ wayKeys n false
            unfold keysOf
            rw [List.append_assoc]
          · rcases List.mem_append.mp hk with hk | hk
            · exact .inl hk
            · exact .inr ⟨true, by decide, hk⟩
          · show (baseKeys ++ wayKeys n true).length ≤ 100
            unfold wayKeys baseKeys
            simp
            omega
        · exfalso
          simp at hi
      rw [eL]
      refine ⟨Nat.zero_le _, fun l nl => ?_⟩
      generalize h_A1 : upd H' l _ = A1
      have k_A1 : Kp H' A1 := by rw [← h_A1]; exact .new nl
      have q_A1 := (congrFun h_A1 l).symm.trans upd_same
      clear h_A1
      refine ⟨_, rfl, _, rfl, wayN u, rfl, fun rq A2 nrq kA2 qA2 => ?_⟩
      have kp2 : Kp H A2 := (kp.trans k_A1).trans kA2
      have kA : Kp H' A2 := k_A1.trans kA2
      have rI2 := rI.kp kA
      have cA2 := cA.kp kA
      have hl2 := kA2.same _ _ rfl q_A1
      have adne : ∀ k ∈ laid n i, ad k ≠ l := fun k hk z => by
        obtain ⟨vs, h1, _⟩ := cA.at_ k hk
        rw [z, nl] at h1
        cases h1
      have fl : H l = none := kp.free _ nl
      obtain ⟨kvs, m1, m2, m3, m4, fin⟩ := rows_more (k := .q u) (y := .ref rq) rI2 cA2 fr kp2 nR fl (laid_q (j := 0) hks).1 ⟨rq, rfl, qA2⟩ hl2 adne rfl (kA.same _ _ rfl htw)
      refine ⟨R, kvs, (RK.q u).mk, rfl, m1, m2, ⟨rq, rfl, qA2⟩, m3, szt (by omega), ?_⟩
      generalize hA3 : upd A2 R (MixO P w R (kvs ++ [((RK.q u).mk, V.ref rq, V.ref l)])) = A3
      obtain ⟨rI3, cA3, fr3, kp3, tw3⟩ := fin A3 hA3
      refine ⟨_, rfl, (n : Int), rfl, by omega, by omega, ?_⟩
      refine for_range (lo := 0) (n := ((n : Int)).toNat) (fun j σ G => ∃ (ad : RK → Addr) (y3 : Option V), σ = [some (.int (n : Int)), some (.ref R), some (.str (wayN u)), y3] ∧ Kp H G ∧ G tw = some (.tup [.str "up", .str "down"]) ∧ RowsI P w G R ((laid n i ++ [.q u]) ++ (List.range j).map (.b u)) ad ∧ ContAt K G ((laid n i ++ [.q u]) ++ (List.range j).map (.b u)) ad (newRow n) ∧ ∀ k ∈ (laid n i ++ [.q u]) ++ (List.range j).map (.b u), H (ad k) = none)
        ⟨setA ad (.q u) l, _, rfl, kp3, tw3, by rw [List.range_zero, List.map_nil, List.append_nil]; exact rI3, by rw [List.range_zero, List.map_nil, List.append_nil]; exact cA3, by rw [List.range_zero, List.map_nil, List.append_nil]; exact fr3⟩ ?_ ?_
      · rintro j σ G hj ⟨ad', y3', rfl, kg, twg, rg, cg, fg⟩
        have hjn : j < n := hj
        refine ⟨Nat.zero_le _, fun l' nl' => ?_⟩
        generalize h_B1 : upd G l' _ = B1
        have k_B1 : Kp G B1 := by rw [← h_B1]; exact .new nl'
        have q_B1 := (congrFun h_B1 l').symm.trans upd_same
        clear h_B1
        refine ⟨_, rfl, _, rfl, _, rfl, wayN u, _, rfl, fun rb B2 nrb kB2 qB2 => ?_⟩
        have kB : Kp G B2 := k_B1.trans kB2
        have hjj : (0 : Int) + (j : Int) = (j : Int) := by omega
        rw [hjj] at qB2
        have notin : RK.b u j ∉ (laid n i ++ [.q u]) ++ (List.range j).map (.b u) := fun m => by
          rcases List.mem_append.mp m with m | m
          · rcases List.mem_append.mp m with m | m
            · exact (laid_q (j := j) hks).2 m
            · cases List.mem_singleton.mp m
          · obtain ⟨j', hj', e⟩ := List.mem_map.mp m
            injection e with _ e
            rw [e, List.mem_range] at hj'
            omega
        have adne' : ∀ k ∈ (laid n i ++ [.q u]) ++ (List.range j).map (.b u), ad' k ≠ l' := fun k hk z => by
          obtain ⟨vs, h1, _⟩ := cg.at_ k hk
          rw [z, nl'] at h1
          cases h1
        obtain ⟨kvs', m1', m2', m3', m4', fin'⟩ := rows_more (k := .b u j) (y := .ref rb) (rg.kp kB) (cg.kp kB) fg (kg.trans kB) nR (kg.free _ nl') notin ⟨rb, rfl, qB2⟩ (kB2.same _ _ rfl q_B1) adne' rfl (kB.same _ _ rfl twg)
        refine ⟨R, kvs', (RK.b u j).mk, rfl, m1', m2', ⟨rb, rfl, qB2⟩, m3', szt (by rw [m4', List.length_append, List.length_append, List.length_map, List.length_range, List.length_singleton]; omega), ?_⟩
        generalize hB3 : upd B2 R (MixO P w R (kvs' ++ [((RK.b u j).mk, V.ref rb, V.ref l')])) = B3
        obtain ⟨rI4, cA4, fr4, kp4, tw4⟩ := fin' B3 hB3
        have er : ((laid n i ++ [.q u]) ++ (List.range j).map (.b u)) ++ [RK.b u j] = (laid n i ++ [.q u]) ++ (List.range (j + 1)).map (.b u) := by
          rw [List.range_succ, List.map_append, List.append_assoc]
          rfl
        rw [er] at rI4 cA4 fr4
        exact ⟨_, _, rfl, kp4, tw4, rI4, cA4, fr4⟩
      · rintro σ G ⟨ad', y3', rfl, kg, twg, rg, cg, fg⟩
        have er : (laid n i ++ [.q u]) ++ (List.range ((n : Int)).toNat).map (.b u) = laid n i ++ wayKeys n u := by
          rw [List.append_assoc, Int.toNat_natCast]
          rfl
        rw [er] at rg cg fg
        exact ⟨ad', _, _, rfl, kg, twg, rg, cg, fg⟩
    · rintro σ H' ⟨ad, y2, y3, rfl, kp, htw, rI, cA, fr⟩
      have hq : RK.q true ∈ keysOf n := by
        unfold keysOf wayKeys
        simp
      exact ⟨_, rfl, k R ad H' nR fr kp (rI.fin hq) cA⟩
/-! ### a phrasebook -/
abbrev Ent := (Str × Int × Int) × Addr
def flds (d1 d2 : Addr) : List (Str × V) := putF "place_by_word" (.ref d2) (putF "word_by_place" (.ref d1) [])
theorem flds_place (d1 d2 : Addr) : (flds d1 d2).lookup ("place_by_word" : Str) = some (.ref d2) := by
  unfold flds
  rw [lookup_putF, if_pos rfl]
theorem flds_word (d1 d2 : Addr) : (flds d1 d2).lookup ("word_by_place" : Str) = some (.ref d1) := by
  unfold flds
  rw [lookup_putF, if_neg (by decide +kernel), lookup_putF, if_pos rfl]
theorem flds_no (d1 d2 : Addr) {m : Str} (h1 : ¬ m = "place_by_word") (h2 : ¬ m = "word_by_place") : (flds d1 d2).lookup m = none := by
  unfold flds
  rw [lookup_putF, if_neg h1, lookup_putF, if_neg h2]
  rfl
def kvP (bs : List Ent) : List (List Key × V) := bs.map fun b => ([Sum.inl b.1.2.1, Sum.inl b.1.2.2], V.str b.1.1)
def kvW (bs : List Ent) : List (Key × V) := bs.map fun b => (Sum.inr b.1.1, V.ref b.2)
def atP (bs : List Ent) (p l : Int) : Option Ent := bs.find? fun b => decide (b.1.2.1 = p ∧ b.1.2.2 = l)
def atW (bs : List Ent) (t : Str) : Option Ent := bs.find? fun b => decide (b.1.1 = t)
theorem valP (bs : List Ent) (p l : Int) : valV (kvP bs) [Sum.inl p, Sum.inl l] = (atP bs p l).map fun b => V.str b.1.1 := by
  unfold valV kvP atP
  rw [List.find?_map, Option.map_map]
  have e : ((fun kv : List Key × V => decide (kv.1 = ([Sum.inl p, Sum.inl l] : List Key))) ∘ fun b : Ent => (([Sum.inl b.1.2.1, Sum.inl b.1.2.2] : List Key), V.str b.1.1)) = fun b => decide (b.1.2.1 = p ∧ b.1.2.2 = l) := by
    funext b
    simp
  rw [e]
  rfl
theorem valW (bs : List Ent) (t : Str) : valV (kvW bs) (Sum.inr t) = (atW bs t).map fun b => V.ref b.2 := by
  unfold valV kvW atW
  rw [List.find?_map, Option.map_map]
  have e : ((fun kv : Key × V => decide (kv.1 = (Sum.inr t : Key))) ∘ fun b : Ent => ((Sum.inr b.1.1 : Key), V.ref b.2)) = fun b => decide (b.1.1 = t) := by
    funext b
    simp
  rw [e]
  rfl
structure BookAt (C : Addr) (H : Hp) (p d1 d2 : Addr) (bs : List Ent) : Prop where
  ob : ∃ dx, H p = some (.ins C dx (flds d1 d2))
  pl : H d1 = some (.dT (kvP bs))
  wd : H d2 = some (.dK (kvW bs))
  tu : ∀ b ∈ bs, H b.2 = some (.tup [.int b.1.2.1, .int b.1.2.2])
theorem BookAt.kp {C : Addr} {H H' : Hp} {p d1 d2 : Addr} {bs : List Ent} (b : BookAt C H p d1 d2 bs) (k : Kp H H') : BookAt C H' p d1 d2 bs :=
  ⟨let ⟨dx, h⟩ := b.ob; ⟨dx, k.same _ _ rfl h⟩, k.same _ _ rfl b.pl, k.same _ _ rfl b.wd, fun e he => k.same _ _ rfl (b.tu e he)⟩
theorem BookAt.ne {C : Addr} {H : Hp} {p d1 d2 : Addr} {bs : List Ent} (b : BookAt C H p d1 d2 bs) : p ≠ d1 ∧ p ≠ d2 ∧ d1 ≠ d2 := by
  obtain ⟨dx, h⟩ := b.ob
  exact ⟨ne_of h b.pl (by intro z; cases z), ne_of h b.wd (by intro z; cases z), ne_of b.pl b.wd (by intro z; cases z)⟩
/-! ### a new phrasebook -/
def sp_p_Phrasebook_init (C : Addr) : Sp := fun vs H Q _ => ∃ (p dx : Addr), vs = [.ref p] ∧ H p = some (.ins C dx []) ∧ ∀ (d1 d2 : Addr) (H' : Hp), H d1 = none → H d2 = none → BookAt C H' p d1 d2 [] → KpE [p] H H' → Q .non H'
theorem ok_p_Phrasebook_init (T : Txt K mg) : FnOk P w K mg base CX0 1 T.f_p_Phrasebook_init T.d_p_Phrasebook_init ["self"] (sp_p_Phrasebook_init T.a_Phrasebook) := by
  refine T.F_p_Phrasebook_init.ok sc_p_Phrasebook_init (fun vs H Q E h => ?_) (fun cdv A outer s H vs Q E hr h => ?_)
  · obtain ⟨p, dx, rfl, _⟩ := h
    rfl
  · obtain ⟨p, dx, rfl, hp, k⟩ := h
    refine ⟨_, (pss_cons (ps_fld (pv 0) pe_dnewT rfl)
      (pss_one (ps_fld (pv 0) pe_dnewK rfl))), ?_⟩
    intro d1 h1
    have n1 : p ≠ d1 := ne_of_none hp h1
    refine ⟨_, rfl, p, _, dx, [], rfl, (by rw [upd_ne n1]; exact hp), T.cl_Phrasebook, T.n_Phrasebook_word_by_place, (by show 0 < 1000; decide), ?_⟩
    intro d2 h2
    have n2 : p ≠ d2 := ne_of_none upd_same h2
    have n12 : d1 ≠ d2 := fun e => by
      rw [← e, upd_ne n1.symm, upd_same] at h2
      cases h2
    refine ⟨_, rfl, p, _, dx, _, rfl, (by rw [upd_ne n2]; exact upd_same), T.cl_Phrasebook, T.n_Phrasebook_place_by_word, (by show 1 < 1000; decide), ?_⟩
    have f2 : H d2 = none := by
      rw [upd_ne n2.symm, upd_ne n12.symm] at h2
      exact h2
    have hp1 : (upd H d1 (.dT [])) p = some (.ins T.a_Phrasebook dx []) := by rw [upd_ne n1]; exact hp
    have e1 : KpE [p] H (upd (upd H d1 (.dT [])) p (.ins T.a_Phrasebook dx (putF "word_by_place" (.ref d1) []))) := (KpE.of (Kp.new h1)).trans (KpE.put hp1 rfl List.mem_cons_self)
    refine k d1 d2 _ h1 f2 ⟨⟨dx, upd_same⟩, ?_, ?_, by simp⟩ (e1.trans ((KpE.of (Kp.new h2)).trans (KpE.put (by rw [upd_ne n2]; exact upd_same) rfl List.mem_cons_self)))
    · rw [upd_ne n1.symm, upd_ne n12, upd_ne n1.symm, upd_same]
      rfl
    · rw [upd_ne n2.symm, upd_same]
      rfl
theorem kp_made {C H H1 x dx} (nx : H x = none) (ndx : H dx = none) (ne : dx ≠ x) (k : KpE [x] (upd (upd H dx (.own x)) x (.ins C dx [])) H1) : Kp H H1 :=
  KpE.kp ((Kp.new ndx).trans (.new (by rw [upd_ne ne.symm]; exact nx))) ⟨k.same, k.tab, k.free⟩ (fun b hb => by rw [List.mem_singleton.mp hb]; exact nx)
/-! ### how a line stands in memory -/
structure LA where
  s : Addr
  R : Addr
  B : Addr
  d1 : Addr
  d2 : Addr
  p : Addr
  f : Addr
  ad : RK → Addr
structure LC where
  n : Nat
  row : RK → List PyData
  bs : List Ent
  past : List PyData
  fut : List PyData
def fldS (R B : Addr) : List (Str × V) := putF "phrasebook" (.ref B) (putF "rows" (.ref R) [])
def fldL (s p f : Addr) : List (Str × V) := putF "future" (.ref f) (putF "past" (.ref p) (putF "state" (.ref s) []))
theorem fldS_rows (R B : Addr) : (fldS R B).lookup ("rows" : Str) = some (.ref R) := by
  unfold fldS
  rw [lookup_putF, if_neg (by decide +kernel), lookup_putF, if_pos rfl]
theorem fldS_book (R B : Addr) : (fldS R B).lookup ("phrasebook" : Str) = some (.ref B) := by
  unfold fldS
  rw [lookup_putF, if_pos rfl]
theorem fldS_no (R B : Addr) {m : Str} (h1 : ¬ m = "phrasebook") (h2 : ¬ m = "rows") : (fldS R B).lookup m = none := by
  unfold fldS
  rw [lookup_putF, if_neg h1, lookup_putF, if_neg h2]
  rfl
theorem fldL_state (s p f : Addr) : (fldL s p f).lookup ("state" : Str) = some (.ref s) := by
  unfold fldL
  rw [lookup_putF, if_neg (by decide +kernel), lookup_putF, if_neg (by decide +kernel), lookup_putF, if_pos rfl]
theorem fldL_past (s p f : Addr) : (fldL s p f).lookup ("past" : Str) = some (.ref p) := by
  unfold fldL
  rw [lookup_putF, if_neg (by decide +kernel), lookup_putF, if_pos rfl]
theorem fldL_fut (s p f : Addr) : (fldL s p f).lookup ("future" : Str) = some (.ref f) := by
  unfold fldL
  rw [lookup_putF, if_pos rfl]
theorem fldL_no (s p f : Addr) {m : Str} (h1 : ¬ m = "future") (h2 : ¬ m = "past") (h3 : ¬ m = "state") : (fldL s p f).lookup m = none := by
  unfold fldL
  rw [lookup_putF, if_neg h1, lookup_putF, if_neg h2, lookup_putF, if_neg h3]
  rfl
theorem fldL_set (s p f f' : Addr) : putF "future" (.ref f') (fldL s p f) = fldL s p f' := by rfl
theorem fldL_len (s p f : Addr) : (fldL s p f).length < 1000 := by show 3 < 1000; decide
structure StateAt (P : Program) (w : World) (K : PySem.W.Frag) (H : Hp) (a : LA) (c : LC) : Prop where
  ob : ∃ dx, H a.s = some (.ins (He.ga K "State") dx (fldS a.R a.B))
  rows : RowsAt P w H a.R (keysOf c.n) a.ad
  cont : ContAt K H (keysOf c.n) a.ad c.row
  book : BookAt (He.ga K "Phrasebook") H a.B a.d1 a.d2 c.bs
structure LineAt (P : Program) (w : World) (K : PySem.W.Frag) (H : Hp) (L : Addr) (a : LA) (c : LC) : Prop where
  ob : ∃ dx, H L = some (.ins (He.ga K "Line") dx (fldL a.s a.p a.f))
  st : StateAt P w K H a c
  past : ∃ vs, H a.p = some (.lst vs) ∧ DpAll K H vs c.past
  fut : ∃ vs, H a.f = some (.lst vs) ∧ DpAll K H vs c.fut
  nlp : ∀ d ∈ c.past, Nl d
  nlf : ∀ d ∈ c.fut, Nl d
  ap : ∀ k ∈ keysOf c.n, a.ad k ≠ a.p ∧ a.ad k ≠ a.f
  pf : a.p ≠ a.f
/-- what a deed may change -/
def footL (L : Addr) (a : LA) (n : Nat) : List Addr := [L, a.p, a.f, a.d1, a.d2] ++ (keysOf n).map a.ad
theorem StateAt.kp {P : Program} {w : World} {K : PySem.W.Frag} {H H' : Hp} {a : LA} {c : LC} (s : StateAt P w K H a c) (k : Kp H H') : StateAt P w K H' a c :=
  ⟨let ⟨dx, h⟩ := s.ob; ⟨dx, k.same _ _ rfl h⟩, s.rows.kp k, s.cont.kp k, s.book.kp k⟩
theorem LineAt.kp {P : Program} {w : World} {K : PySem.W.Frag} {H H' : Hp} {L : Addr} {a : LA} {c : LC} (l : LineAt P w K H L a c) (k : Kp H H') : LineAt P w K H' L a c :=
  ⟨let ⟨dx, h⟩ := l.ob; ⟨dx, k.same _ _ rfl h⟩, l.st.kp k, let ⟨vs, h, d⟩ := l.past; ⟨vs, k.same _ _ rfl h, k.dpAll d⟩, let ⟨vs, h, d⟩ := l.fut; ⟨vs, k.same _ _ rfl h, k.dpAll d⟩, l.nlp, l.nlf, l.ap, l.pf⟩
theorem key_arms (n : Nat) : RK.arms ∈ keysOf n := by simp [keysOf, baseKeys]
theorem key_way (n : Nat) : RK.way ∈ keysOf n := by simp [keysOf, baseKeys]
theorem key_sleep (n : Nat) : RK.sleep ∈ keysOf n := by simp [keysOf, baseKeys]
theorem key_fog (n : Nat) : RK.fog ∈ keysOf n := by simp [keysOf, baseKeys]
/-- a row is found -/
theorem StateAt.get {P : Program} {w : World} {K : PySem.W.Frag} {H : Hp} {a : LA} {c : LC} (s : StateAt P w K H a c) {k : RK} (hk : k ∈ keysOf c.n) : ∃ kvs, H a.R = some (MixO P w a.R kvs) ∧ KeysM H kvs ∧ ∃ ky, (k.mk, ky, V.ref (a.ad k)) ∈ kvs := by
  obtain ⟨ky, h1, h2⟩ := s.rows.ob
  refine ⟨_, h1, fun p hp => ?_, ky k, List.mem_map.mpr ⟨k, hk, rfl⟩⟩
  obtain ⟨x, hx, rfl⟩ := List.mem_map.mp hp
  exact h2 x hx
def newC (n : Nat) : LC := ⟨n, newRow n, [], [], []⟩
def sp_p_State_init (P : Program) (w : World) (K : PySem.W.Frag) : Sp := fun vs H Q _ => ∃ (s dx : Addr) (n : Nat), vs = [.ref s, .int (n : Int)] ∧ H s = some (.ins (He.ga K "State") dx []) ∧ 1 ≤ n ∧ n ≤ 12 ∧
  ∀ (a : LA) (H' : Hp), a.s = s → (H a.d1 = none ∧ H a.d2 = none ∧ ∀ k ∈ keysOf n, H (a.ad k) = none) → KpE [s] H H' → StateAt P w K H' a (newC n) → Q .non H'
theorem ok_p_State_init (T : Txt K mg) : FnOk P w K mg base CX0 4 T.f_p_State_init T.d_p_State_init ["self", "masts"] (sp_p_State_init P w K) := by
  refine T.F_p_State_init.ok sc_p_State_init (fun vs H Q E h => ?_) (fun cdv A outer s H vs Q E hr h => ?_)
  · obtain ⟨s, dx, n, rfl, _⟩ := h
    rfl
  · obtain ⟨sa, dx, n, rfl, hs, hn1, hn2, k⟩ := h
    refine ⟨_, (pss_cons (ps_fld (pv 0) (pe_call (ok_p_new_rows T) (hr.mono (by decide)) rfl T.g_p_new_rows T.F_p_new_rows.kp T.b_p_new_rows .nil pass0 (pa_cons (pv 1) pa_nil)) rfl)
      (pss_one (ps_fld (pv 0) (pe_make0 T.K_Phrasebook (ok_p_Phrasebook_init T) (hr.mono (by decide)) rfl T.g_Phrasebook T.b_p_Phrasebook_init .nil pass0) rfl))), ?_⟩
    refine ⟨_, rfl, n, rfl, hn1, hn2, fun R ad H1 nR nad k1 rA cA => ?_⟩
    have hs1 := k1.same _ _ rfl hs
    refine ⟨_, rfl, sa, _, dx, _, rfl, hs1, T.cl_State, T.n_State_rows, (by show 0 < 1000; decide), ?_⟩
    generalize hH2 : upd H1 sa (.ins (He.ga K "State") dx (putF "rows" (.ref R) [])) = H2
    have hs2 : H2 sa = some (.ins (He.ga K "State") dx (putF "rows" (.ref R) [])) := by rw [← hH2]; exact upd_same
    have e12 : KpE [sa] H1 H2 := by rw [← hH2]; exact KpE.put hs1 rfl List.mem_cons_self
    intro x dx2 nx ndx ne
    refine ⟨x, dx2, rfl, upd_same, fun d1 d2 H3 f1 f2 B3 e3 => ⟨rfl, ?_⟩⟩
    have k3 : Kp H2 H3 := kp_made nx ndx ne e3
    have hs3 := k3.same _ _ rfl hs2
    refine ⟨_, rfl, sa, _, dx, _, rfl, hs3, T.cl_State, T.n_State_phrasebook, (by show 1 < 1000; decide), ?_⟩
    generalize hH4 : upd H3 sa (.ins (He.ga K "State") dx (putF "phrasebook" (.ref x) (putF "rows" (.ref R) []))) = H4
    have hs4 : H4 sa = some (.ins (He.ga K "State") dx (fldS R x)) := by rw [← hH4]; exact upd_same
    have e34 : KpE [sa] H3 H4 := by rw [← hH4]; exact KpE.put hs3 rfl List.mem_cons_self
    have k0 : Kp H2 (upd (upd H2 dx2 (.own x)) x (.ins (He.ga K "Phrasebook") dx2 [])) := (Kp.new ndx).trans (.new (by rw [upd_ne ne.symm]; exact nx))
    have rA3 : RowsAt P w H3 R (keysOf n) ad := (rA.kpE e12 (fun m => by
      obtain ⟨ky, h1, _⟩ := rA.ob
      rw [List.mem_singleton.mp m, hs1] at h1
      cases h1) (loose1 hs1 trivial)).kp k3
    have cA3 : ContAt K H3 (keysOf n) ad (newRow n) := (cA.kpE e12 (fun y hy m => by
      obtain ⟨vs, h1, _⟩ := cA.at_ y hy
      rw [List.mem_singleton.mp m, hs1] at h1
      cases h1) (loose1 hs1 trivial)).kp k3
    have nS : ∀ {u : HO} {y : Addr}, H3 y = some u → (∀ C d g, u ≠ .ins C d g) → y ∉ [sa] := fun {u y} hy hu m => by
      rw [List.mem_singleton.mp m, hs3] at hy
      cases hy
      exact hu _ _ _ rfl
    obtain ⟨dxb, hb⟩ := B3.ob
    have nxs : x ≠ sa := fun z => by
      rw [z, hs2] at nx
      cases nx
    refine k ⟨sa, R, x, d1, d2, 0, 0, ad⟩ H4 rfl ⟨k1.free _ (e12.free _ (k0.free _ f1)), k1.free _ (e12.free _ (k0.free _ f2)), nad⟩ ((((KpE.of k1).trans e12).trans (KpE.of k3)).trans e34) ⟨⟨dx, hs4⟩, rA3.kpE e34 ?_ (loose1 hs3 trivial), cA3.kpE e34 ?_ (loose1 hs3 trivial), ⟨dxb, e34.same _ _ rfl (fun m => nxs (List.mem_singleton.mp m)) hb⟩, e34.same _ _ rfl (nS B3.pl (by intro C d g z; cases z)) B3.pl, e34.same _ _ rfl (nS B3.wd (by intro C d g z; cases z)) B3.wd, (by intro b hb; cases hb)⟩
    · obtain ⟨ky, h1, _⟩ := rA3.ob
      exact nS h1 (by intro C d g z; cases z)
    · intro y hy
      obtain ⟨vs, h1, _⟩ := cA3.at_ y hy
      exact nS h1 (by intro C d g z; cases z)
/-! ### looks at a state -/
def sp_p_State_size (P : Program) (w : World) (K : PySem.W.Frag) : Sp := fun vs H Q _ => ∃ (a : LA) (c : LC), vs = [.ref a.s] ∧ StateAt P w K H a c ∧ (c.row .arms).length = c.n ∧ Q (.int (c.n : Int)) H
theorem ok_p_State_size (T : Txt K mg) : FnOk P w K mg base CX0 1 T.f_p_State_size T.d_p_State_size ["self"] (sp_p_State_size P w K) := by
  refine T.F_p_State_size.ok sc_p_State_size (fun vs H Q E h => ?_) (fun cdv A outer s H vs Q E hr h => ?_)
  · obtain ⟨a, c, rfl, _⟩ := h
    rfl
  · obtain ⟨a, c, rfl, hS, hl, k⟩ := h
    have hu := hu_of hr
    refine ⟨_, (pss_one (ps_ret (pe_callB call_len_seq (by rfl) T.m_len PySem.boot_len (pa_cons (pe_mgetK P w rfl rfl hu (pe_fld (pv 0) rfl) (pe_glob rfl T.c_ARMS T.r_ARMS) (fun _ _ => rfl)) pa_nil)))), ?_⟩
    obtain ⟨dx, hs⟩ := hS.ob
    obtain ⟨kvs, m1, m2, ky, m3⟩ := hS.get (key_arms c.n)
    obtain ⟨vs, h1, h2⟩ := hS.cont.at_ .arms (key_arms c.n)
    refine ⟨_, rfl, a.s, _, dx, _, _, rfl, hs, T.cl_State, T.n_State_rows, fldS_rows _ _, a.R, kvs, RK.arms.mk, _, rfl, m1, m2, rfl, ⟨ky, m3⟩, a.ad .arms, _, rfl, .inl (SqL.of h1), ?_⟩
    have e : vs.length = c.n := by rw [DpAll.len h2]; exact hl
    rw [e]
    exact k
/-! ### check_mast -/
def sp_p_check_mast (D : Addr) : Sp := fun vs H Q E => ∃ masts mast : Int, vs = [.int masts, .int mast] ∧ (0 ≤ mast → mast < masts → Q .non H) ∧ (¬ (0 ≤ mast ∧ mast < masts) → E (.ref D) none H)
theorem ok_p_check_mast (T : Txt K mg) : FnOk P w K mg base (L2.CX P w) 2 T.f_p_check_mast T.d_p_check_mast ["masts", "mast"] (sp_p_check_mast T.a_NoMast) := by
  refine T.F_p_check_mast.okX sc_p_check_mast (fun vs H Q E h => ?_) (fun cdv A outer s H vs Q E hr h => ?_)
  · obtain ⟨masts, mast, rfl, _⟩ := h
    rfl
  · obtain ⟨masts, mast, rfl, k, kD⟩ := h
    refine ⟨_, (pss_one (ps_if (pt_not (pt_chain op_le op_lt pe_int (pv 1) (pv 0)))
      (pss_one (ps_raise rfl (takes_of rfl rfl rfl rfl) (pmk_own PySem.F.excBase_ValueError T.x_NoMast T.g_NoMast T.k_NoMast (raises_own T.b_NoMast T.t_NoMast) rfl)))
      pss_nil)), ?_⟩
    refine ⟨_, rfl, _, _, rfl, rfl, _, rfl, iteD (fun c => ?_) (fun c => ?_)⟩
    · refine ⟨_, rfl, _, _, rfl, rfl, _, rfl, ?_⟩
      by_cases c2 : mast < masts
      · exact iteFo (by rw [decide_eq_true c2]; rfl) (k c c2)
      · exact iteTo (by rw [decide_eq_false c2]; rfl) (kD (fun z => c2 z.2))
    · exact ⟨_, rfl, iteTo rfl (kD (fun z => c z.1))⟩
/-! ### places that a test picks -/
def fil (f : Nat → Bool) (n : Nat) : List Int := ((List.range n).filter f).map (fun (x : Nat) => (x : Int))
theorem fil_yes {f : Nat → Bool} {n : Nat} (h : f n = true) : fil f (n + 1) = fil f n ++ [(n : Int)] := by
  unfold fil
  rw [List.range_succ, List.filter_append, List.map_append]
  simp [h]
theorem fil_no {f : Nat → Bool} {n : Nat} (h : f n = false) : fil f (n + 1) = fil f n := by
  unfold fil
  rw [List.range_succ, List.filter_append, List.map_append]
  simp [h]
theorem fil_len (f : Nat → Bool) (n : Nat) : (fil f n).length ≤ n := by
  unfold fil
  rw [List.length_map]
  exact Nat.le_trans (List.length_filter_le _ _) (by rw [List.length_range]; exact Nat.le_refl _)
theorem fil_mem {f : Nat → Bool} {n : Nat} {x : Int} : x ∈ fil f n ↔ ∃ p : Nat, x = (p : Int) ∧ p < n ∧ f p = true := by
  unfold fil
  simp only [List.mem_map, List.mem_filter, List.mem_range]
  constructor
  · rintro ⟨p, ⟨h1, h2⟩, rfl⟩
    exact ⟨p, rfl, h1, h2⟩
  · rintro ⟨p, rfl, h1, h2⟩
    exact ⟨p, ⟨h1, h2⟩, rfl⟩
/-! ### masts, gaps, sleepers, fogs of a state -/
def sp_p_State_check_mast (P : Program) (w : World) (K : PySem.W.Frag) (C : Addr) : Sp := fun vs H Q E => ∃ (a : LA) (c : LC) (m : Int), vs = [.ref a.s, .int m] ∧ StateAt P w K H a c ∧ (c.row .arms).length = c.n ∧ ((0 ≤ m ∧ m < (c.n : Int)) → Q .non H) ∧ (¬ (0 ≤ m ∧ m < (c.n : Int)) → E (.ref C) none H)
theorem ok_p_State_check_mast (T : Txt K mg) : FnOk P w K mg base (L2.CX P w) 3 T.f_p_State_check_mast T.d_p_State_check_mast ["self", "mast"] (sp_p_State_check_mast P w K T.a_NoMast) := by
  refine T.F_p_State_check_mast.okX sc_p_State_check_mast (fun vs H Q E h => ?_) (fun cdv A outer s H vs Q E hr h => ?_)
  · obtain ⟨a, c, m, rfl, _⟩ := h
    rfl
  · obtain ⟨a, c, m, rfl, hS, hl, k, kE⟩ := h
    refine ⟨_, (pss_one (ps_expr (pe_call (ok_p_check_mast T) (hr.mono (by decide)) rfl T.g_al_check_mast_ways T.F_p_check_mast.kp T.b_p_check_mast .nil (passes_call (takes_of rfl rfl rfl rfl) (fun _ _ _ _ z => z)) (pa_cons (pe_meth0 (pv 0) T.cl_State T.M_p_State_size (ok_p_State_size T) (hr.mono (by decide)) T.b_p_State_size .nil pass0) (pa_cons (pv 1) pa_nil))))), ?_⟩
    obtain ⟨dx, hs⟩ := hS.ob
    exact ⟨_, rfl, a.s, dx, _, rfl, hs, fldS_no _ _ (by decide +kernel) (by decide +kernel), a, c, rfl, hS, hl, _, rfl, _, _, rfl, fun c1 c2 => k ⟨c1, c2⟩, kE⟩
def sp_p_State_check_gap (P : Program) (w : World) (K : PySem.W.Frag) (C : Addr) : Sp := fun vs H Q E => ∃ (a : LA) (c : LC) (m : Int), vs = [.ref a.s, .int m] ∧ StateAt P w K H a c ∧ (c.row .arms).length = c.n ∧ ((0 ≤ m ∧ m < (c.n : Int) - 1) → Q .non H) ∧ (¬ (0 ≤ m ∧ m < (c.n : Int) - 1) → E (.ref C) none H)
theorem ok_p_State_check_gap (T : Txt K mg) : FnOk P w K mg base (L2.CX P w) 3 T.f_p_State_check_gap T.d_p_State_check_gap ["self", "gap"] (sp_p_State_check_gap P w K T.a_NoMast) := by
  refine T.F_p_State_check_gap.okX sc_p_State_check_gap (fun vs H Q E h => ?_) (fun cdv A outer s H vs Q E hr h => ?_)
  · obtain ⟨a, c, m, rfl, _⟩ := h
    rfl
  · obtain ⟨a, c, m, rfl, hS, hl, k, kE⟩ := h
    refine ⟨_, (pss_one (ps_expr (pe_call (ok_p_check_mast T) (hr.mono (by decide)) rfl T.g_al_check_mast_ways T.F_p_check_mast.kp T.b_p_check_mast .nil (passes_call (takes_of rfl rfl rfl rfl) (fun _ _ _ _ z => z)) (pa_cons (pe_op op_sub (pe_meth0 (pv 0) T.cl_State T.M_p_State_size (ok_p_State_size T) (hr.mono (by decide)) T.b_p_State_size .nil pass0) pe_int) (pa_cons (pv 1) pa_nil))))), ?_⟩
    obtain ⟨dx, hs⟩ := hS.ob
    exact ⟨_, rfl, a.s, dx, _, rfl, hs, fldS_no _ _ (by decide +kernel) (by decide +kernel), a, c, rfl, hS, hl, _, _, rfl, rfl, _, rfl, _, _, rfl, fun c1 c2 => k ⟨c1, c2⟩, kE⟩
/-- the places where it is so, rising -/
def marks (bs : List Bool) : List Int := fil (fun i => bs.getD i false) bs.length
theorem dp_bools {K : PySem.W.Frag} {H : Hp} : ∀ {bs : List Bool} {vs : List V}, DpAll K H vs (bs.map PyData.bool) → vs = bs.map V.bl
  | [], _, .nil => rfl
  | b :: r, _, .cons h t => by
    cases h
    rw [dp_bools t]
    rfl
def sp_p_State_marked (P : Program) (w : World) (K : PySem.W.Frag) : Sp := fun vs H Q _ => ∃ (a : LA) (c : LC) (k : RK) (x : Str) (bs : List Bool), vs = [.ref a.s, .str x] ∧ StateAt P w K H a c ∧ k ∈ keysOf c.n ∧ k.mk = .t x ∧ c.row k = bs.map PyData.bool ∧ bs.length ≤ 1000 ∧
  ∀ (r : Addr) (H' : Hp), H r = none → Kp H H' → H' r = some (.lst ((marks bs).map V.int)) → Q (.ref r) H'
theorem ok_p_State_marked (T : Txt K mg) : FnOk P w K mg base CX0 1 T.f_p_State_marked T.d_p_State_marked ["self", "where"] (sp_p_State_marked P w K) := by
  refine T.F_p_State_marked.ok sc_p_State_marked (fun vs H Q E h => ?_) (fun cdv A outer s H vs Q E hr h => ?_)
  · obtain ⟨a, c, k, x, bs, rfl, _⟩ := h
    rfl
  · obtain ⟨a, c, k, x, bs, rfl, hS, hk, hx, hrow, hbl, q⟩ := h
    have hu := hu_of hr
    refine ⟨_, (pss_one (ps_ret (pe_lc (own := [("number", 2), ("so", 3)]) (by rfl) sc_p_State_marked.nd (pi_enum (by rfl) T.m_enumerate (pa_cons (pe_mgetK P w rfl rfl hu (pe_fld (pv 0) rfl) (pv 1) (fun _ _ => rfl)) pa_nil)) (blkOk_by (own := [("number", 2), ("so", 3)]) (N := ["self", "where", "number", "so"]) (sc := defScope s_p_State_marked) (by decide +kernel)) (fun _ _ _ _ _ => (pgK K rfl (pg_tup (n := 2) rfl (pgs_cons (pg_name (i := 2) sc_p_State_marked.nd rfl (by first | exact Or.inl rfl | exact Or.inr rfl)) (pgs_cons (pg_name (i := 3) sc_p_State_marked.nd rfl (by first | exact Or.inl rfl | exact Or.inr rfl)) pgs_nil))))) (fun _ _ _ _ _ => (pts_one (pt_val (pv 3)))) (fun _ _ _ _ _ => (pv 2))))), ?_⟩
    obtain ⟨dx, hs⟩ := hS.ob
    obtain ⟨kvs, m1, m2, ky, m3⟩ := hS.get hk
    obtain ⟨vs, h1, h2⟩ := hS.cont.at_ k hk
    rw [hrow] at h2
    rw [dp_bools h2] at h1
    refine ⟨_, rfl, a.s, _, dx, _, _, rfl, hs, T.cl_State, T.n_State_rows, fldS_rows _ _, _, rfl, a.R, kvs, k.mk, _, rfl, m1, m2, (by rw [hx]; rfl), ⟨ky, m3⟩, a.ad k, _, rfl, .inl (.inl h1), fun D hD => ?_⟩
    refine lc_it (walk_enum (K := K) (a := a.ad k) (xs := bs.map V.bl)) (fun i H' => Kp H H' ∧ H' D = some (.lst ((fil (fun i => bs.getD i false) i).map V.int))) ⟨Kp.new hD, upd_same⟩ (fun i H' _ ⟨kp, _⟩ => kp.sqL (.inl (.inl h1))) ?_ ?_
    · rintro i v H' H'' hi ⟨kp, hDl⟩ ⟨t, i', v, rfl, nt, rfl, ei, ev⟩
      cases Option.some.inj ei
      rw [List.length_map] at hi
      have ev : (bs.map V.bl)[i]? = some v := ev
      rw [List.getElem?_map, List.getElem?_eq_getElem hi] at ev
      cases Option.some.inj ev
      generalize h_H2 : upd H' t _ = H2
      have k_H2 : Kp H' H2 := by rw [← h_H2]; exact .new nt
      have q_H2 := (congrFun h_H2 t).symm.trans upd_same
      clear h_H2
      have hD2 := k_H2.same _ _ rfl hDl
      have hfl := fil_len (fun i => bs.getD i false) i
      have eg : bs.getD i false = bs[i] := by
        rw [List.getD_eq_getElem?_getD, List.getElem?_eq_getElem hi]
        rfl
      refine ⟨t, _, rfl, .inl (.inl q_H2), rfl, _, _, rfl, _, _, rfl, rfl, rfl, ?_⟩
      refine ⟨_, rfl, bs[i], rfl, iteB (fun c => ?_) (fun c => ?_)⟩
      · refine ⟨_, rfl, _, hD2, szt (by rw [List.length_map]; omega), (kp.trans k_H2).mut hD, ?_⟩
        rw [upd_same, fil_yes (by rw [eg]; exact c), List.map_append]
        rfl
      · refine ⟨kp.trans k_H2, ?_⟩
        rw [fil_no (by rw [eg]; exact c)]
        exact hD2
    · rintro H' ⟨kp, hDl⟩
      rw [List.length_map] at hDl
      exact q D H' hD kp hDl
/-! ### one change of a state -/
def kD : MK → PyData
  | .t x => .str x
  | .u ks => .tuple (ks.map fun k => match k with | .inl i => .int i | .inr x => .str x)
theorem dp_keys {K : PySem.W.Frag} {H : Hp} : ∀ (ks : List Key), DpAll K H (ks.map kV) (ks.map fun k => match k with | .inl i => PyData.int i | .inr x => .str x)
  | [] => .nil
  | .inl i :: r => .cons (.int i) (dp_keys r)
  | .inr x :: r => .cons (.str x) (dp_keys r)
theorem KeyM.dp {K : PySem.W.Frag} {H : Hp} : ∀ {m : MK} {v : V}, KeyM H m v → Dp K H v (kD m)
  | .t x, _, h => by
    rw [show _ = V.str x from h]
    exact .str x
  | .u ks, _, ⟨b, e, h⟩ => by
    rw [e]
    exact .tup (.inl (.inl h)) (dp_keys ks)
theorem way_ok (u : Bool) : PyData.strOk (wayN u) = true := by cases u <;> decide +kernel
theorem key_shaped (k : RK) : SeqAt.shaped (kD k.mk) = true := by
  show (PyData.canLay0 (kD k.mk) && decide (PyData.depth (kD k.mk) ≤ 64)) = true
  have h1 : PyData.strOk "book" = true := by decide +kernel
  have h2 : PyData.strOk "queue" = true := by decide +kernel
  cases k with
  | q u => simp [kD, RK.mk, PyData.canLay0, PyData.canLayAll0, PyData.depth, PyData.depthAll, way_ok, h2]
  | b u m => simp [kD, RK.mk, PyData.canLay0, PyData.canLayAll0, PyData.depth, PyData.depthAll, way_ok, h1]
  | _ => decide +kernel
theorem key_words (k : RK) : PyData.eqv (kD k.mk) (.str "words") = false := by
  cases k with
  | q u => simp [kD, RK.mk, PyData.eqv]
  | b u m => simp [kD, RK.mk, PyData.eqv]
  | _ => decide +kernel
def LC.set (c : LC) (k : RK) (r : List PyData) : LC := { c with row := fun x => if x = k then r else c.row x }
theorem DpAll.tak {K : PySem.W.Frag} {H : Hp} : ∀ (n : Nat) {xs : List V} {ds : List PyData}, DpAll K H xs ds → DpAll K H (xs.take n) (ds.take n)
  | 0, _, _, _ => .nil
  | _ + 1, _, _, .nil => .nil
  | n + 1, _, _, .cons a b => .cons a (DpAll.tak n b)
theorem DpAll.drp {K : PySem.W.Frag} {H : Hp} : ∀ (n : Nat) {xs : List V} {ds : List PyData}, DpAll K H xs ds → DpAll K H (xs.drop n) (ds.drop n)
  | 0, _, _, h => h
  | _ + 1, _, _, .nil => .nil
  | n + 1, _, _, .cons _ b => DpAll.drp n b
theorem BookAt.kpE {C : Addr} {S : List Addr} {H H' : Hp} {b d1 d2 : Addr} {bs : List Ent} (x : BookAt C H b d1 d2 bs) (k : KpE S H H') (hb : b ∉ S) (h1 : d1 ∉ S) (h2 : d2 ∉ S) (hS : ∀ a ∈ S, ∀ u, H a = some u → Loose u) : BookAt C H' b d1 d2 bs :=
  ⟨let ⟨dx, h⟩ := x.ob; ⟨dx, k.same _ _ rfl hb h⟩, k.same _ _ rfl h1 x.pl, k.same _ _ rfl h2 x.wd, fun e he => k.same _ _ rfl (fun m => hS _ m _ (x.tu e he)) (x.tu e he)⟩
/-- a row is set -/
theorem StateAt.put {P : Program} {w : World} {K : PySem.W.Frag} {H : Hp} {a : LA} {c : LC} (s : StateAt P w K H a c) {k : RK} (hk : k ∈ keysOf c.n) {vs : List V} {ds : List PyData} (h : DpAll K H vs ds) (hn : ∀ d ∈ ds, Nl d) : StateAt P w K (upd H (a.ad k) (.lst vs)) a (c.set k ds) := by
  obtain ⟨us, h1, h2⟩ := s.cont.at_ k hk
  have e : KpE [a.ad k] H (upd H (a.ad k) (.lst vs)) := KpE.put h1 rfl List.mem_cons_self
  have l := loose1 h1 (show Loose (.lst us) from trivial)
  have nS : ∀ {u : HO} {y : Addr}, H y = some u → (∀ g, u ≠ .lst g) → y ∉ [a.ad k] := fun {u y} hy hu m => by
    rw [List.mem_singleton.mp m, h1] at hy
    cases hy
    exact hu _ rfl
  refine ⟨?_, ?_, ⟨fun x hx => ?_, fun x hx => ?_⟩, ?_⟩
  · obtain ⟨dx, h⟩ := s.ob
    exact ⟨dx, e.same _ _ rfl (nS h (by intro g z; cases z)) h⟩
  · obtain ⟨ky, h3, _⟩ := s.rows.ob
    exact s.rows.kpE e (nS h3 (by intro g z; cases z)) l
  · by_cases z : x = k
    · subst z
      refine ⟨vs, upd_same, ?_⟩
      show DpAll _ _ _ (if x = x then ds else c.row x)
      rw [if_pos rfl]
      exact DpAll.tk (.upd h1 trivial) hn h
    · obtain ⟨us', h3, h4⟩ := s.cont.at_ x hx
      refine ⟨us', ?_, ?_⟩
      · rw [upd_ne (fun y => z (s.rows.inj x hx k hk y))]
        exact h3
      · show DpAll _ _ _ (if x = k then ds else c.row x)
        rw [if_neg z]
        exact DpAll.tk (.upd h1 trivial) (s.cont.nl x hx) h4
  · show ∀ d ∈ (if x = k then ds else c.row x), Nl d
    by_cases z : x = k
    · rw [if_pos z]
      exact hn
    · rw [if_neg z]
      exact s.cont.nl x hx
  · obtain ⟨dx, hb⟩ := s.book.ob
    exact s.book.kpE e (nS hb (by intro g z; cases z)) (nS s.book.pl (by intro g z; cases z)) (nS s.book.wd (by intro g z; cases z)) l
def sp_p_State_swap (P : Program) (w : World) (K : PySem.W.Frag) : Sp := fun vs H Q _ => ∃ (a : LA) (c : LC) (k : RK) (wv : V) (i : Nat) (t u : Addr) (ts us : List V) (ds : List PyData), vs = [.ref a.s, wv, .int (i : Int), .ref t, .ref u] ∧ StateAt P w K H a c ∧ k ∈ keysOf c.n ∧ KeyM H k.mk wv ∧ SqT K H t ts ∧ SqT K H u us ∧ DpAll K H us ds ∧ (∀ d ∈ ds, Nl d) ∧ i + ts.length ≤ (c.row k).length ∧ (c.row k).length + us.length ≤ 10000 ∧
  ∀ (H' : Hp), KpE [a.ad k] H H' → StateAt P w K H' a (c.set k ((c.row k).take i ++ ds ++ (c.row k).drop (i + ts.length))) → Q .non H'
theorem ok_p_State_swap (T : Txt K mg) : FnOk P w K mg base CX0 1 T.f_p_State_swap T.d_p_State_swap ["self", "where", "at", "taken", "put"] (sp_p_State_swap P w K) := by
  refine T.F_p_State_swap.ok sc_p_State_swap (fun vs H Q E h => ?_) (fun cdv A outer s H vs Q E hr h => ?_)
  · obtain ⟨a, c, k, wv, i, t, u, ts, us, ds, rfl, _⟩ := h
    rfl
  · obtain ⟨a, c, k, wv, i, t, u, ts, us, ds, rfl, hS, hk, hw, ht, hu', hds, hn, hi, hl, q⟩ := h
    have hu := hu_of hr
    refine ⟨_, (pss_one (ps_if (pt_cmpR (op_eqD hr.units) (pv 1) (pe_glob rfl T.c_WORDS T.r_WORDS) (nomark _))
      (pss_one ps_never)
      (pss_cons (ps_set (i := 5) sc_p_State_swap.nd rfl (by first | exact Or.inl rfl | exact Or.inr rfl) (pe_mgetK P w rfl rfl hu (pe_fld (pv 0) rfl) (pv 1) (fun _ _ => rfl)))
      (pss_one (ps_slput (pv 5) (po_some (pv 2)) (po_some (pe_op op_add (pv 2) (pe_callB call_len_seq (by rfl) T.m_len PySem.boot_len (pa_cons (pv 3) pa_nil)))) (pe_callTy call_list_of (by rfl) T.m_list (by decide +kernel) (pa_cons (pv 4) pa_nil)) rfl))))), ?_⟩
    obtain ⟨dx, hs⟩ := hS.ob
    obtain ⟨kvs, m1, m2, ky, m3⟩ := hS.get hk
    obtain ⟨vs, h1, h2⟩ := hS.cont.at_ k hk
    have hlen := DpAll.len h2
    refine ⟨_, rfl, _, _, hw.dp, .str _, key_shaped k, (by decide +kernel), ?_⟩
    refine ⟨false, congrArg V.bl (key_words k), iteB (fun c => by cases c) (fun _ => ?_)⟩
    refine ⟨_, rfl, a.s, _, dx, _, _, rfl, hs, T.cl_State, T.n_State_rows, fldS_rows _ _, _, rfl, a.R, kvs, k.mk, _, rfl, m1, m2, hw, ⟨ky, m3⟩, ?_⟩
    refine ⟨_, rfl, u, us, rfl, .inr hu', fun b nb => ?_⟩
    generalize h_H1 : upd H b _ = H1
    have k_H1 : Kp H H1 := by rw [← h_H1]; exact .new nb
    have q_H1 := (congrFun h_H1 b).symm.trans upd_same
    clear h_H1
    have hne : a.ad k ≠ b := fun z => by
      rw [z, nb] at h1
      cases h1
    have hk1 := k_H1.same _ _ rfl h1
    have ht1 := k_H1.sqT ht
    have el : us.length = ds.length := DpAll.len hds
    have hlen' : vs.length = (c.row k).length := hlen
    refine ⟨_, rfl, _, rfl, _, rfl, _, rfl, _, rfl, t, ts, rfl, .inr ht1, _, _, rfl, rfl, _, rfl, a.ad k, b, vs, us, i, (i : Int) + (ts.length : Int), rfl, rfl, rfl, rfl, hk1, q_H1, hne, by omega, by omega, by omega, Nat.le_of_lt (szt (by omega)), ?_⟩
    have hS1 := hS.kp k_H1
    have e1 : (i : Int).toNat = i := by omega
    have e2 : ((i : Int) + (ts.length : Int)).toNat = i + ts.length := by omega
    rw [e1, e2]
    refine q _ ((KpE.of k_H1).trans (KpE.put hk1 rfl List.mem_cons_self)) (hS1.put hk ?_ ?_)
    · exact DpAll.app (DpAll.app (DpAll.tak i (k_H1.dpAll h2)) (k_H1.dpAll hds)) (DpAll.drp _ (k_H1.dpAll h2))
    · intro d hd
      rcases List.mem_append.mp hd with hd | hd
      · rcases List.mem_append.mp hd with hd | hd
        · exact hS.cont.nl k hk d (List.mem_of_mem_take hd)
        · exact hn d hd
      · exact hS.cont.nl k hk d (List.mem_of_mem_drop hd)

/-! ### changes, in their order -/
structure Ch where
  k : RK
  i : Nat
  tk : List PyData
  ds : List PyData
def Ch.n (h : Ch) : Nat := h.tk.length
def Ch.d (h : Ch) : PyData := .tuple [kD h.k.mk, .int (h.i : Int), .tuple h.tk, .tuple h.ds]
def LC.app (c : LC) (h : Ch) : LC := c.set h.k ((c.row h.k).take h.i ++ h.ds ++ (c.row h.k).drop (h.i + h.n))
def LC.apps (c : LC) (hs : List Ch) : LC := hs.foldl LC.app c
theorem apps_n : ∀ (hs : List Ch) (c : LC), (c.apps hs).n = c.n
  | [], _ => rfl
  | h :: r, c => apps_n r (c.app h)
def FitsC : LC → List Ch → Prop
  | _, [] => True
  | c, h :: r => h.k ∈ keysOf c.n ∧ h.i + h.n ≤ (c.row h.k).length ∧ (c.row h.k).length + h.ds.length ≤ 10000 ∧ FitsC (c.app h) r
theorem fits_at : ∀ (hs : List Ch) (c : LC) (i : Nat), FitsC c hs → FitsC (c.apps (hs.take i)) (hs.drop i)
  | _, _, 0, h => h
  | [], _, _ + 1, h => h
  | _ :: r, c, i + 1, h => fits_at r _ i h.2.2.2
theorem apps_snoc (c : LC) (hs : List Ch) (h : Ch) : c.apps (hs ++ [h]) = (c.apps hs).app h := by
  unfold LC.apps
  rw [List.foldl_append]
  rfl
def ChAt (K : PySem.W.Frag) (H : Hp) (v : V) (h : Ch) : Prop := ∃ (t : Addr) (wv : V) (ta ua : Addr) (ts us : List V), v = .ref t ∧ SqT K H t [wv, .int (h.i : Int), .ref ta, .ref ua] ∧ KeyM H h.k.mk wv ∧ SqT K H ta ts ∧ DpAll K H ts h.tk ∧ SqT K H ua us ∧ DpAll K H us h.ds ∧ (∀ d ∈ h.ds, Nl d) ∧ ∀ d ∈ h.tk, Nl d
theorem TupK.sqT {K : PySem.W.Frag} {H H' : Hp} {a : Addr} {xs : List V} (t : TupK H H') (h : SqT K H a xs) : SqT K H' a xs := by
  rcases h with h | h
  · exact .inl (t _ _ h)
  · exact .inr h
theorem ChAt.kpE {K : PySem.W.Frag} {S : List Addr} {H H' : Hp} {v : V} {h : Ch} (c : ChAt K H v h) (k : KpE S H H') (hS : ∀ a ∈ S, ∀ u, H a = some u → Loose u) : ChAt K H' v h := by
  obtain ⟨t, wv, ta, ua, ts, us, e, h1, h2, h3, h4, h5, h6, h7, h8⟩ := c
  have tk := TupK.kpE k hS
  exact ⟨t, wv, ta, ua, ts, us, e, tk.sqT h1, KeyM.kpE k (Loose.ntup hS) h2, tk.sqT h3, DpAll.tk tk h8 h4, tk.sqT h5, DpAll.tk tk h7 h6, h7, h8⟩
theorem ChAt.dp {K : PySem.W.Frag} {H : Hp} {v : V} {h : Ch} (c : ChAt K H v h) : Dp K H v h.d := by
  obtain ⟨t, wv, ta, ua, ts, us, rfl, h1, h2, h3, h4, h5, h6, h7, h8⟩ := c
  exact .tup h1 (.cons h2.dp (.cons (.int _) (.cons (.tup h3 h4) (.cons (.tup h5 h6) .nil))))
theorem kD_nl (m : MK) : Nl (kD m) := by
  cases m with
  | t x => exact .str x
  | u ks =>
    refine .tup fun d hd => ?_
    obtain ⟨k, _, rfl⟩ := List.mem_map.mp hd
    cases k with
    | inl i => exact .int i
    | inr x => exact .str x
theorem ChAt.nl {K : PySem.W.Frag} {H : Hp} {v : V} {h : Ch} (c : ChAt K H v h) : Nl h.d := by
  obtain ⟨t, wv, ta, ua, ts, us, rfl, h1, h2, h3, h4, h5, h6, h7, h8⟩ := c
  refine .tup fun d hd => ?_
  simp only [List.mem_cons, List.not_mem_nil, or_false] at hd
  rcases hd with rfl | rfl | rfl | rfl
  · exact kD_nl _
  · exact .int _
  · exact .tup h8
  · exact .tup h7
theorem KpE.mono {S S' : List Addr} {H H' : Hp} (k : KpE S H H') (h : ∀ a ∈ S, a ∈ S') : KpE S' H H' := ⟨fun a o t n q => k.same a o t (fun m => n (h a m)) q, k.tab, k.free⟩
theorem KpE.sqL {K : PySem.W.Frag} {S : List Addr} {H H' : Hp} {a : Addr} {xs : List V} (k : KpE S H H') (n : a ∉ S) (h : SqL K H a xs) : SqL K H' a xs := by
  rcases h with h | h
  · rcases h with h | ⟨o, h⟩
    · exact .inl (.inl (k.same _ _ rfl n h))
    · exact .inl (.inr ⟨o, k.same _ _ rfl n h⟩)
  · exact .inr h
def adsR (a : LA) (n : Nat) : List Addr := (keysOf n).map a.ad
theorem StateAt.loose {P : Program} {w : World} {K : PySem.W.Frag} {H : Hp} {a : LA} {c : LC} (s : StateAt P w K H a c) : ∀ b ∈ adsR a c.n, ∀ u, H b = some u → Loose u := fun b hb u e => by
  obtain ⟨k, hk, rfl⟩ := List.mem_map.mp hb
  obtain ⟨vs, h1, _⟩ := s.cont.at_ k hk
  rw [h1] at e
  cases e
  trivial
def sp_p_State_make (P : Program) (w : World) (K : PySem.W.Frag) : Sp := fun vs H Q _ => ∃ (a : LA) (c : LC) (cl : Addr) (xs : List V) (hs : List Ch), vs = [.ref a.s, .ref cl] ∧ StateAt P w K H a c ∧ SqL K H cl xs ∧ cl ∉ adsR a c.n ∧ xs.length = hs.length ∧ (∀ (i : Nat) (v : V) (h : Ch), xs[i]? = some v → hs[i]? = some h → ChAt K H v h) ∧ FitsC c hs ∧
  ∀ (H' : Hp), KpE (adsR a c.n) H H' → StateAt P w K H' a (c.apps hs) → Q .non H'
theorem ok_p_State_make (T : Txt K mg) : FnOk P w K mg base CX0 2 T.f_p_State_make T.d_p_State_make ["self", "changes"] (sp_p_State_make P w K) := by
  refine T.F_p_State_make.ok sc_p_State_make (fun vs H Q E h => ?_) (fun cdv A outer s H vs Q E hr h => ?_)
  · obtain ⟨a, c, cl, xs, hs, rfl, _⟩ := h
    rfl
  · obtain ⟨a, c, cl, xs, hs, rfl, hS, hcl, ncl, hlen, hch, hf, q⟩ := h
    have hu := hu_of hr
    refine ⟨_, (pss_one (ps_for PassesOwn.never rfl (pi_list (pv 1)) (pg_tup (n := 4) rfl (pgs_cons (pg_name (i := 2) sc_p_State_make.nd rfl (by first | exact Or.inl rfl | exact Or.inr rfl)) (pgs_cons (pg_name (i := 3) sc_p_State_make.nd rfl (by first | exact Or.inl rfl | exact Or.inr rfl)) (pgs_cons (pg_name (i := 4) sc_p_State_make.nd rfl (by first | exact Or.inl rfl | exact Or.inr rfl)) (pgs_cons (pg_name (i := 5) sc_p_State_make.nd rfl (by first | exact Or.inl rfl | exact Or.inr rfl)) pgs_nil)))))
      (pss_one (ps_expr (pe_meth (pv 0) T.cl_State T.M_p_State_swap (ok_p_State_swap T) (hr.mono (by decide)) T.b_p_State_swap .nil pass0 (pa_cons (pv 2) (pa_cons (pv 3) (pa_cons (pv 4) (pa_cons (pv 5) pa_nil))))))))), ?_⟩
    refine ⟨_, rfl, cl, rfl, ⟨_, hcl⟩, for_list (K := K) (a := cl) (xs := xs) (fun i σ H' => ∃ (y2 y3 y4 y5 : Option V), σ = [some (.ref a.s), some (.ref cl), y2, y3, y4, y5] ∧ KpE (adsR a c.n) H H' ∧ StateAt P w K H' a (c.apps (hs.take i))) ⟨_, _, _, _, rfl, KpE.of (Kp.refl H), hS⟩ (fun i σ H' _ ⟨_, _, _, _, _, k, _⟩ => k.sqL ncl hcl) ?_ ?_⟩
    · rintro i v σ H' ev ⟨y2, y3, y4, y5, rfl, k, hS'⟩
      have hi : i < hs.length := by
        rw [← hlen]
        exact (List.getElem?_eq_some_iff.mp ev).1
      obtain ⟨t, wv, ta, ua, ts, us, rfl, c1, c2, c3, c4', c5, c6, c7, _⟩ := (hch i v _ ev (List.getElem?_eq_getElem hi)).kpE k hS.loose
      have ff := fits_at hs c i hf
      rw [List.drop_eq_getElem_cons hi] at ff
      obtain ⟨f1, f2, f3, _⟩ := ff
      obtain ⟨dx, hs'⟩ := hS'.ob
      have c4 : ts.length = hs[i].n := DpAll.len c4'
      have el : us.length = hs[i].ds.length := DpAll.len c6
      refine ⟨t, _, rfl, c1, rfl, _, _, rfl, _, _, rfl, _, _, rfl, _, _, rfl, rfl, ?_⟩
      refine ⟨_, rfl, a.s, dx, _, rfl, hs', fldS_no _ _ (by decide +kernel) (by decide +kernel), _, rfl, _, rfl, _, rfl, _, rfl, a, c.apps (hs.take i), hs[i].k, wv, hs[i].i, ta, ua, ts, us, hs[i].ds, rfl, hS', f1, c2, c3, c5, c6, c7, by rw [c4]; exact f2, by rw [el]; exact f3, fun H2 k2 hS2 => ⟨_, _, _, _, rfl, k.trans (k2.mono fun b hb => ?_), ?_⟩⟩
      · rw [List.mem_singleton.mp hb]
        exact List.mem_map.mpr ⟨_, by rw [apps_n] at f1; exact f1, rfl⟩
      · rw [List.take_succ_eq_append_getElem hi, apps_snoc]
        rw [c4] at hS2
        exact hS2
    · rintro σ H' ⟨y2, y3, y4, y5, rfl, k, hS'⟩
      rw [hlen, List.take_length] at hS'
      exact q H' k hS'
/-! ### a line, made and changed -/
theorem StateAt.kpE {P : Program} {w : World} {K : PySem.W.Frag} {S : List Addr} {H H' : Hp} {a : LA} {c : LC} (s : StateAt P w K H a c) (e : KpE S H H') (l : ∀ b ∈ S, ∀ u, H b = some u → Loose u) (h1 : a.s ∉ S) (h2 : a.R ∉ S) (h3 : ∀ k ∈ keysOf c.n, a.ad k ∉ S) (h4 : a.B ∉ S) (h5 : a.d1 ∉ S) (h6 : a.d2 ∉ S) : StateAt P w K H' a c :=
  ⟨let ⟨dx, h⟩ := s.ob; ⟨dx, e.same _ _ rfl h1 h⟩, s.rows.kpE e h2 l, s.cont.kpE e h3 l, s.book.kpE e h4 h5 h6 l⟩
/-- a list that is no row changes -/
theorem StateAt.putL {P : Program} {w : World} {K : PySem.W.Frag} {H : Hp} {a : LA} {c : LC} (s : StateAt P w K H a c) {x : Addr} {vs : List V} {o : HO} (hx : H x = some (.lst vs)) (n : ∀ k ∈ keysOf c.n, a.ad k ≠ x) : StateAt P w K (upd H x o) a c := by
  have nS : ∀ {u : HO} {y : Addr}, H y = some u → (∀ g, u ≠ .lst g) → y ∉ [x] := fun {u y} hy hu m => by
    rw [List.mem_singleton.mp m, hx] at hy
    cases hy
    exact hu _ rfl
  obtain ⟨dx, h1⟩ := s.ob
  obtain ⟨ky, h2, _⟩ := s.rows.ob
  obtain ⟨dx2, h3⟩ := s.book.ob
  exact s.kpE (KpE.put hx rfl List.mem_cons_self) (loose1 hx trivial) (nS h1 (by intro g z; cases z)) (nS h2 (by intro g z; cases z)) (fun k hk m => n k hk (List.mem_singleton.mp m)) (nS h3 (by intro g z; cases z)) (nS s.book.pl (by intro g z; cases z)) (nS s.book.wd (by intro g z; cases z))
/-- the line's own object changes -/
theorem StateAt.putI {P : Program} {w : World} {K : PySem.W.Frag} {H : Hp} {a : LA} {c : LC} (s : StateAt P w K H a c) {x C dx : Addr} {fs : List (Str × V)} {o : HO} (hx : H x = some (.ins C dx fs)) (n1 : a.s ≠ x) (n2 : a.B ≠ x) : StateAt P w K (upd H x o) a c := by
  have nS : ∀ {u : HO} {y : Addr}, H y = some u → (∀ C d g, u ≠ .ins C d g) → y ∉ [x] := fun {u y} hy hu m => by
    rw [List.mem_singleton.mp m, hx] at hy
    cases hy
    exact hu _ _ _ rfl
  obtain ⟨ky, h2, _⟩ := s.rows.ob
  exact s.kpE (KpE.put hx rfl List.mem_cons_self) (loose1 hx trivial) (fun m => n1 (List.mem_singleton.mp m)) (nS h2 (by intro C d g z; cases z)) (fun k hk => by
    obtain ⟨vs, h1, _⟩ := s.cont.at_ k hk
    exact nS h1 (by intro C d g z; cases z)) (fun m => n2 (List.mem_singleton.mp m)) (nS s.book.pl (by intro C d g z; cases z)) (nS s.book.wd (by intro C d g z; cases z))
/-- what lies in a line's foot or was free -/
def FootNew (H : Hp) (L : Addr) (a : LA) (n : Nat) : Prop := ∀ b ∈ footL L a n, b = L ∨ H b = none
def sp_p_Line_init (P : Program) (w : World) (K : PySem.W.Frag) : Sp := fun vs H Q _ => ∃ (L dx : Addr) (n : Nat), vs = [.ref L, .int (n : Int)] ∧ H L = some (.ins (He.ga K "Line") dx []) ∧ 2 ≤ n ∧ n ≤ 12 ∧
  ∀ (a : LA) (H' : Hp), FootNew H L a n → KpE [L] H H' → LineAt P w K H' L a (newC n) → Q .non H'
theorem ok_p_Line_init (T : Txt K mg) : FnOk P w K mg base CX0 6 T.f_p_Line_init T.d_p_Line_init ["self", "masts"] (sp_p_Line_init P w K) := by
  refine T.F_p_Line_init.ok sc_p_Line_init (fun vs H Q E h => ?_) (fun cdv A outer s H vs Q E hr h => ?_)
  · obtain ⟨s, dx, n, rfl, _⟩ := h
    rfl
  · obtain ⟨L, dx, n, rfl, hL, hn1, hn2, k⟩ := h
    refine ⟨_, (pss_cons (ps_if (pt_not (pt_chain op_le op_le (pe_glob rfl T.c_FEWEST_MASTS T.r_FEWEST_MASTS) (pv 1) (pe_glob rfl T.c_MOST_MASTS T.r_MOST_MASTS)))
      (pss_one ps_never)
      pss_nil)
      (pss_cons (ps_fld (pv 0) (pe_make T.K_State (ok_p_State_init T) (hr.mono (by decide)) rfl T.g_State T.b_p_State_init .nil pass0 (pa_cons (pv 1) pa_nil)) rfl)
      (pss_cons (ps_fld (pv 0) (pe_lst pa_nil) rfl)
      (pss_one (ps_fld (pv 0) (pe_lst pa_nil) rfl))))), ?_⟩
    refine ⟨_, rfl, _, _, rfl, rfl, _, rfl, iteTo (decide_eq_true (by omega)) ⟨_, _, rfl, rfl, _, rfl, iteFo (by rw [decide_eq_true (by omega)]; rfl) ?_⟩⟩
    refine ⟨_, rfl, fun x dx2 nx ndx ne => ?_⟩
    refine ⟨x, dx2, n, rfl, upd_same, by omega, hn2, fun a H1 ea ⟨f1, f2, f3⟩ e1 hS => ⟨rfl, ?_⟩⟩
    have k1 : Kp H H1 := kp_made nx ndx ne e1
    have k0 : Kp H (upd (upd H dx2 (.own x)) x (.ins (He.ga K "State") dx2 [])) := (Kp.new ndx).trans (.new (by rw [upd_ne ne.symm]; exact nx))
    have hL1 := k1.same _ _ rfl hL
    have nsL : a.s ≠ L := fun z => by
      rw [ea] at z
      rw [z, hL] at nx
      cases nx
    have nBL : a.B ≠ L := fun z => by
      obtain ⟨dxb, hb⟩ := hS.book.ob
      rw [z, hL1] at hb
      have := congrArg (fun o => match o with | some (HO.ins _ _ fs) => fs.length | _ => 0) hb
      cases this
    refine ⟨_, rfl, L, _, dx, _, rfl, hL1, T.cl_Line, T.n_Line_state, (by show 0 < 1000; decide), ?_⟩
    have hS2 := hS.putI (o := .ins (He.ga K "Line") dx (putF "state" (.ref x) [])) hL1 nsL nBL
    generalize hH2 : upd H1 L (.ins (He.ga K "Line") dx (putF "state" (.ref x) [])) = H2 at hS2
    have hL2 : H2 L = some (.ins (He.ga K "Line") dx (putF "state" (.ref x) [])) := by rw [← hH2]; exact upd_same
    have e12 : KpE [L] H1 H2 := by rw [← hH2]; exact KpE.put hL1 rfl List.mem_cons_self
    refine ⟨Nat.zero_le _, fun p np => ?_⟩
    generalize h_H3 : upd H2 p _ = H3
    have k_H3 : Kp H2 H3 := by rw [← h_H3]; exact .new np
    have q_H3 := (congrFun h_H3 p).symm.trans upd_same
    clear h_H3
    have hL3 := k_H3.same _ _ rfl hL2
    have hS3 := hS2.kp k_H3
    refine ⟨_, rfl, L, _, dx, _, rfl, hL3, T.cl_Line, T.n_Line_past, (by show 1 < 1000; decide), ?_⟩
    have hS4 := hS3.putI (o := .ins (He.ga K "Line") dx (putF "past" (.ref p) (putF "state" (.ref x) []))) hL3 nsL nBL
    have npL : p ≠ L := fun z => by
      rw [z, hL2] at np
      cases np
    generalize hH4 : upd H3 L (.ins (He.ga K "Line") dx (putF "past" (.ref p) (putF "state" (.ref x) []))) = H4 at hS4
    have hL4 : H4 L = some (.ins (He.ga K "Line") dx (putF "past" (.ref p) (putF "state" (.ref x) []))) := by rw [← hH4]; exact upd_same
    have e34 : KpE [L] H3 H4 := by rw [← hH4]; exact KpE.put hL3 rfl List.mem_cons_self
    have hp4 : H4 p = some (.lst []) := e34.same _ _ rfl (fun m => npL (List.mem_singleton.mp m)) q_H3
    refine ⟨Nat.zero_le _, fun f nf => ?_⟩
    generalize h_H5 : upd H4 f _ = H5
    have k_H5 : Kp H4 H5 := by rw [← h_H5]; exact .new nf
    have q_H5 := (congrFun h_H5 f).symm.trans upd_same
    clear h_H5
    have hL5 := k_H5.same _ _ rfl hL4
    have hS5 := hS4.kp k_H5
    have hp5 := k_H5.same _ _ rfl hp4
    refine ⟨_, rfl, L, _, dx, _, rfl, hL5, T.cl_Line, T.n_Line_future, (by show 2 < 1000; decide), ?_⟩
    have hS6 := hS5.putI (o := .ins (He.ga K "Line") dx (fldL x p f)) hL5 nsL nBL
    have e56 : KpE [L] H5 (upd H5 L (.ins (He.ga K "Line") dx (fldL x p f))) := KpE.put hL5 rfl List.mem_cons_self
    have nfL : f ≠ L := fun z => by
      rw [z, hL4] at nf
      cases nf
    have npf : p ≠ f := fun z => by
      rw [← z, hp4] at nf
      cases nf
    have b2 : ∀ b, H2 b = none → H b = none := fun b hb => k1.free _ (e12.free _ hb)
    have b4 : ∀ b, H4 b = none → H b = none := fun b hb => b2 _ (k_H3.free _ (e34.free _ hb))
    refine k ⟨a.s, a.R, a.B, a.d1, a.d2, p, f, a.ad⟩ _ (fun b hb => ?_) ((((((KpE.of k1).trans e12).trans (KpE.of k_H3)).trans e34).trans (KpE.of k_H5)).trans e56) ⟨⟨dx, ?_⟩, ⟨hS6.ob, hS6.rows, hS6.cont, hS6.book⟩, ⟨[], ?_, .nil⟩, ⟨[], ?_, .nil⟩, (by intro d hd; cases hd), (by intro d hd; cases hd), fun y hy => ?_, npf⟩
    · rcases List.mem_append.mp hb with hb | hb
      · simp only [List.mem_cons, List.not_mem_nil, or_false] at hb
        rcases hb with rfl | rfl | rfl | rfl | rfl
        · exact .inl rfl
        · exact .inr (b2 _ np)
        · exact .inr (b4 _ nf)
        · exact .inr (k0.free _ f1)
        · exact .inr (k0.free _ f2)
      · obtain ⟨y, hy, rfl⟩ := List.mem_map.mp hb
        exact .inr (k0.free _ (f3 y hy))
    · rw [upd_same]
      show some (HO.ins _ dx (fldL x p f)) = some (HO.ins _ dx (fldL a.s p f))
      rw [ea]
    · exact e56.same _ _ rfl (fun m => npL (List.mem_singleton.mp m)) hp5
    · exact e56.same _ _ rfl (fun m => nfL (List.mem_singleton.mp m)) q_H5
    · obtain ⟨vs, h1, _⟩ := hS2.cont.at_ y hy
      obtain ⟨vs', h2, _⟩ := hS4.cont.at_ y hy
      exact ⟨fun z => (by rw [show a.ad y = p from z, np] at h1; cases h1), fun z => (by rw [show a.ad y = f from z, nf] at h2; cases h2)⟩
theorem apps_past : ∀ (hs : List Ch) (c : LC), (c.apps hs).past = c.past
  | [], _ => rfl
  | h :: r, c => apps_past r (c.app h)
theorem apps_fut : ∀ (hs : List Ch) (c : LC), (c.apps hs).fut = c.fut
  | [], _ => rfl
  | h :: r, c => apps_fut r (c.app h)
theorem dp_changes {K : PySem.W.Frag} {H : Hp} : ∀ (xs : List V) (hs : List Ch), xs.length = hs.length → (∀ (i : Nat) (v : V) (h : Ch), xs[i]? = some v → hs[i]? = some h → ChAt K H v h) → DpAll K H xs (hs.map Ch.d) ∧ ∀ d ∈ hs.map Ch.d, Nl d
  | [], [], _, _ => ⟨.nil, by intro d hd; cases hd⟩
  | x :: xs, h :: hs, e, c => by
    have ⟨a, b⟩ := dp_changes xs hs (Nat.succ.inj e) (fun i v h' p q => c (i + 1) v h' p q)
    have c0 := c 0 x h rfl rfl
    refine ⟨.cons c0.dp a, fun d hd => ?_⟩
    rcases List.mem_cons.mp hd with rfl | hd
    · exact c0.nl
    · exact b d hd
def deedD (dd : PyData) (hs : List Ch) : PyData := .tuple [dd, .tuple (hs.map Ch.d)]
def LC.did (c : LC) (dd : PyData) (hs : List Ch) : LC := ⟨c.n, (c.apps hs).row, (c.apps hs).bs, c.past ++ [deedD dd hs], []⟩
def LA.futA (a : LA) (f : Addr) : LA := ⟨a.s, a.R, a.B, a.d1, a.d2, a.p, f, a.ad⟩
theorem LineAt.neS {P : Program} {w : World} {K : PySem.W.Frag} {H : Hp} {L : Addr} {a : LA} {c : LC} (l : LineAt P w K H L a c) : a.s ≠ L ∧ a.B ≠ L := by
  obtain ⟨dx, h⟩ := l.ob
  refine ⟨fun z => ?_, fun z => ?_⟩
  · obtain ⟨dy, h2⟩ := l.st.ob
    rw [z, h] at h2
    have := congrArg (fun o => match o with | some (HO.ins _ _ fs) => fs.length | _ => 0) h2
    cases this
  · obtain ⟨dy, h2⟩ := l.st.book.ob
    rw [z, h] at h2
    have := congrArg (fun o => match o with | some (HO.ins _ _ fs) => fs.length | _ => 0) h2
    cases this
def sp_p_Line_do (P : Program) (w : World) (K : PySem.W.Frag) : Sp := fun vs H Q _ => ∃ (L : Addr) (a : LA) (c : LC) (dv : V) (dd : PyData) (cl : Addr) (xs : List V) (hs : List Ch), vs = [.ref L, dv, .ref cl] ∧ LineAt P w K H L a c ∧ Dp K H dv dd ∧ Nl dd ∧ SqL K H cl xs ∧ cl ∉ footL L a c.n ∧ xs.length = hs.length ∧ (∀ (i : Nat) (v : V) (h : Ch), xs[i]? = some v → hs[i]? = some h → ChAt K H v h) ∧ FitsC c hs ∧ c.past.length < 9000 ∧ hs.length < 9000 ∧
  ∀ (f : Addr) (H' : Hp), H f = none → KpE (footL L a c.n) H H' → LineAt P w K H' L (a.futA f) (c.did dd hs) → Q .non H'
theorem ok_p_Line_do (T : Txt K mg) : FnOk P w K mg base CX0 3 T.f_p_Line_do T.d_p_Line_do ["self", "deed", "changes"] (sp_p_Line_do P w K) := by
  refine T.F_p_Line_do.ok sc_p_Line_do (fun vs H Q E h => ?_) (fun cdv A outer s H vs Q E hr h => ?_)
  · obtain ⟨L, a, c, dv, dd, cl, xs, hs, rfl, _⟩ := h
    rfl
  · obtain ⟨L, a, c, dv, dd, cl, xs, hs, rfl, hL, hdv, hnl, hcl, ncl, hlen, hch, hf, hp, hh, q⟩ := h
    refine ⟨_, (pss_cons (ps_expr (pe_meth (pe_fld (pv 0) rfl) T.cl_State T.M_p_State_make (ok_p_State_make T) (hr.mono (by decide)) T.b_p_State_make .nil pass0 (pa_cons (pv 2) pa_nil)))
      (pss_cons (ps_expr (pe_bm PySem.F.plainAttrs_list PySem.F.slot_list_append PySem.F.type_list_append mt_append (pe_fld (pv 0) rfl) (pa_cons (pe_tup (pa_cons (pv 1) (pa_cons (pe_callTy call_tuple_of (by rfl) T.m_tuple (by decide +kernel) (pa_cons (pv 2) pa_nil)) pa_nil))) pa_nil)))
      (pss_one (ps_fld (pv 0) (pe_lst pa_nil) rfl)))), ?_⟩
    obtain ⟨dx, hl⟩ := hL.ob
    obtain ⟨dxs, hs0⟩ := hL.st.ob
    have sub : ∀ b ∈ adsR a c.n, b ∈ footL L a c.n := fun b hb => List.mem_append.mpr (.inr hb)
    refine ⟨_, rfl, L, _, dx, _, _, rfl, hl, T.cl_Line, T.n_Line_state, fldL_state _ _ _, a.s, dxs, _, rfl, hs0, fldS_no _ _ (by decide +kernel) (by decide +kernel), _, rfl, a, c, cl, xs, hs, rfl, hL.st, hcl, fun m => ncl (sub _ m), hlen, hch, hf, fun H1 e1 hS1 => ?_⟩
    have lS := hL.st.loose
    have tk := TupK.kpE e1 lS
    obtain ⟨pv, hp0, dp0⟩ := hL.past
    have nL : L ∉ adsR a c.n := fun m => by
      obtain ⟨y, hy, z⟩ := List.mem_map.mp m
      obtain ⟨vs, h1, _⟩ := hL.st.cont.at_ y hy
      rw [z, hl] at h1
      cases h1
    have nP : a.p ∉ adsR a c.n := fun m => by
      obtain ⟨y, hy, z⟩ := List.mem_map.mp m
      exact (hL.ap y hy).1 z
    have hl1 := e1.same _ _ rfl nL hl
    have hp1 := e1.same _ _ rfl nP hp0
    have dp1 := DpAll.tk tk hL.nlp dp0
    have hcl1 := e1.sqL (fun m => ncl (sub _ m)) hcl
    have hdv1 := Dp.tk tk hnl hdv
    obtain ⟨dc, nc⟩ := dp_changes xs hs hlen hch
    have dc1 := DpAll.tk tk nc dc
    have epv : pv.length = c.past.length := DpAll.len dp0
    refine ⟨_, rfl, L, _, dx, _, _, rfl, hl1, T.cl_Line, T.n_Line_past, fldL_past _ _ _, .inl ⟨rfl, _, .inl (.inl hp1)⟩, _, rfl, _, rfl, cl, xs, rfl, .inl ⟨hcl1, fun t nt => ?_⟩⟩
    generalize h_H2 : upd H1 t _ = H2
    have k_H2 : Kp H1 H2 := by rw [← h_H2]; exact .new nt
    have q_H2 := (congrFun h_H2 t).symm.trans upd_same
    clear h_H2
    refine ⟨Nat.le_of_lt (szt (by show 2 < 100000; decide)), fun u nu => ?_⟩
    generalize h_H3 : upd H2 u _ = H3
    have k_H3 : Kp H2 H3 := by rw [← h_H3]; exact .new nu
    have q_H3 := (congrFun h_H3 u).symm.trans upd_same
    clear h_H3
    have k13 := k_H2.trans k_H3
    have hp3 := k13.same _ _ rfl hp1
    have hl3 := k13.same _ _ rfl hl1
    have hS3 := hS1.kp k13
    refine ⟨a.p, _, _, rfl, rfl, hp3, szt (by omega), ?_⟩
    have D3 : DpAll K H3 (pv ++ [.ref u]) (c.past ++ [deedD dd hs]) := DpAll.app (k13.dpAll dp1) (.cons (.tup (.inl (.inl q_H3)) (.cons (k13.dp hdv1) (.cons (.tup (.inl (.inl (k_H3.same _ _ rfl q_H2))) (k13.dpAll dc1)) .nil))) .nil)
    have nl3 : ∀ d ∈ c.past ++ [deedD dd hs], Nl d := fun d hd => by
      rcases List.mem_append.mp hd with hd | hd
      · exact hL.nlp d hd
      · rw [List.mem_singleton.mp hd]
        refine .tup fun d hd => ?_
        simp only [List.mem_cons, List.not_mem_nil, or_false] at hd
        rcases hd with rfl | rfl
        · exact hnl
        · exact .tup nc
    have ap1 : ∀ k ∈ keysOf (c.apps hs).n, a.ad k ≠ a.p := fun k hk => by
      rw [apps_n] at hk
      exact (hL.ap k hk).1
    have neS := hL.neS
    have npL : a.p ≠ L := fun z => by
      rw [z, hl] at hp0
      cases hp0
    have hS4 := hS3.putL (o := .lst (pv ++ [.ref u])) hp3 ap1
    have D4 := DpAll.mut (o := .lst (pv ++ [.ref u])) hp3 nl3 D3
    have e34 : KpE (footL L a c.n) H3 (upd H3 a.p (.lst (pv ++ [.ref u]))) := KpE.put hp3 rfl (by unfold footL; simp)
    generalize hH4 : upd H3 a.p (.lst (pv ++ [.ref u])) = H4 at hS4 D4 e34
    have hp4 : H4 a.p = some (.lst (pv ++ [.ref u])) := by rw [← hH4]; exact upd_same
    have hl4 : H4 L = some (.ins (He.ga K "Line") dx (fldL a.s a.p a.f)) := by rw [← hH4, upd_ne npL.symm]; exact hl3
    refine ⟨Nat.zero_le _, fun f nf => ?_⟩
    generalize h_H5 : upd H4 f _ = H5
    have k_H5 : Kp H4 H5 := by rw [← h_H5]; exact .new nf
    have q_H5 := (congrFun h_H5 f).symm.trans upd_same
    clear h_H5
    have hl5 := k_H5.same _ _ rfl hl4
    have hS5 := hS4.kp k_H5
    have D5 := k_H5.dpAll D4
    refine ⟨_, rfl, L, _, dx, _, rfl, hl5, T.cl_Line, T.n_Line_future, fldL_len _ _ _, ?_⟩
    rw [fldL_set]
    have hS6 := hS5.putI (o := .ins (He.ga K "Line") dx (fldL a.s a.p f)) hl5 neS.1 neS.2
    have D6 := DpAll.tk (.upd (o := .ins (He.ga K "Line") dx (fldL a.s a.p f)) hl5 trivial) nl3 D5
    have e56 : KpE (footL L a c.n) H5 (upd H5 L (.ins (He.ga K "Line") dx (fldL a.s a.p f))) := KpE.put hl5 rfl (by unfold footL; simp)
    have e16 := ((KpE.of (S := footL L a c.n) k13).trans e34).trans ((KpE.of k_H5).trans e56)
    have nfL : f ≠ L := fun z => by
      rw [z, hl4] at nf
      cases nf
    refine q f _ (e1.free _ (k13.free _ (e34.free _ nf))) ((e1.mono sub).trans e16) ⟨⟨dx, upd_same⟩, ⟨hS6.ob, ?_, ?_, hS6.book⟩, ⟨_, ?_, D6⟩, ⟨[], ?_, .nil⟩, nl3, (by intro d hd; cases hd), fun y hy => ?_, ?_⟩
    · have := hS6.rows
      rw [apps_n] at this
      exact this
    · have := hS6.cont
      rw [apps_n] at this
      exact this
    · show upd H5 L _ a.p = _
      rw [upd_ne npL]
      exact k_H5.same _ _ rfl hp4
    · show upd H5 L _ f = _
      rw [upd_ne nfL]
      exact q_H5
    · obtain ⟨vs, h1, _⟩ := hS4.cont.at_ y (by rw [apps_n]; exact hy)
      exact ⟨(hL.ap y hy).1, fun z => (by rw [show a.ad y = f from z, nf] at h1; cases h1)⟩
    · intro z
      rw [show a.p = f from z, nf] at hp4
      cases hp4
/-! ### who sleeps, where fog lies -/
theorem inV_ints (m : Int) (xs : List Int) : inV (.int m) (xs.map V.int) = decide (m ∈ xs) := by
  induction xs with
  | nil => rfl
  | cons x xs ih =>
    show (eqV (.int x) (.int m) || inV (.int m) (xs.map V.int)) = _
    rw [ih]
    have e : eqV (.int x) (.int m) = decide (m = x) := by
      show (x == m) = _
      by_cases z : m = x
      · subst z
        simp
      · rw [decide_eq_false z]
        simpa using fun y => z y.symm
    rw [e, ← Bool.decide_or]
    exact decide_eq_decide.mpr (List.mem_cons).symm
theorem flat_intL (xs : List Int) : (xs.map V.int).all flatV = true := by
  rw [List.all_map]
  exact List.all_eq_true.mpr fun _ _ => rfl
theorem mem_marks {bs : List Bool} {m : Int} (h0 : 0 ≤ m) (h1 : m < (bs.length : Int)) : m ∈ marks bs ↔ bs.getD m.toNat false = true := by
  unfold marks
  rw [fil_mem]
  constructor
  · rintro ⟨p, rfl, _, h⟩
    exact h
  · intro h
    exact ⟨m.toNat, (Int.toNat_of_nonneg h0).symm, by omega, h⟩
def sp_look (k : RK) (P : Program) (w : World) (K : PySem.W.Frag) : Sp := fun vs H Q _ => ∃ (L : Addr) (a : LA) (c : LC) (bs : List Bool), vs = [.ref L] ∧ LineAt P w K H L a c ∧ c.row k = bs.map PyData.bool ∧ bs.length ≤ 1000 ∧
  ∀ (r : Addr) (H' : Hp), H r = none → Kp H H' → H' r = some (.lst ((marks bs).map V.int)) → Q (.ref r) H'
theorem ok_p_Line_asleep (T : Txt K mg) : FnOk P w K mg base CX0 2 T.f_p_Line_asleep T.d_p_Line_asleep ["self"] (sp_look .sleep P w K) := by
  refine T.F_p_Line_asleep.ok sc_p_Line_asleep (fun vs H Q E h => ?_) (fun cdv A outer s H vs Q E hr h => ?_)
  · obtain ⟨L, a, c, bs, rfl, _⟩ := h
    rfl
  · obtain ⟨L, a, c, bs, rfl, hL, hr', hb, q⟩ := h
    refine ⟨_, (pss_one (ps_ret (pe_meth (pe_fld (pv 0) rfl) T.cl_State T.M_p_State_marked (ok_p_State_marked T) (hr.mono (by decide)) T.b_p_State_marked .nil pass0 (pa_cons (pe_glob rfl T.c_SLEEP T.r_SLEEP) pa_nil)))), ?_⟩
    obtain ⟨dx, hl⟩ := hL.ob
    obtain ⟨dxs, hs⟩ := hL.st.ob
    exact ⟨_, rfl, L, _, dx, _, _, rfl, hl, T.cl_Line, T.n_Line_state, fldL_state _ _ _, a.s, dxs, _, rfl, hs, fldS_no _ _ (by decide +kernel) (by decide +kernel), a, c, .sleep, _, bs, rfl, hL.st, key_sleep _, rfl, hr', hb, q⟩
theorem ok_p_Line_fogs (T : Txt K mg) : FnOk P w K mg base CX0 2 T.f_p_Line_fogs T.d_p_Line_fogs ["self"] (sp_look .fog P w K) := by
  refine T.F_p_Line_fogs.ok sc_p_Line_fogs (fun vs H Q E h => ?_) (fun cdv A outer s H vs Q E hr h => ?_)
  · obtain ⟨L, a, c, bs, rfl, _⟩ := h
    rfl
  · obtain ⟨L, a, c, bs, rfl, hL, hr', hb, q⟩ := h
    refine ⟨_, (pss_one (ps_ret (pe_meth (pe_fld (pv 0) rfl) T.cl_State T.M_p_State_marked (ok_p_State_marked T) (hr.mono (by decide)) T.b_p_State_marked .nil pass0 (pa_cons (pe_glob rfl T.c_FOG T.r_FOG) pa_nil)))), ?_⟩
    obtain ⟨dx, hl⟩ := hL.ob
    obtain ⟨dxs, hs⟩ := hL.st.ob
    exact ⟨_, rfl, L, _, dx, _, _, rfl, hl, T.cl_Line, T.n_Line_state, fldL_state _ _ _, a.s, dxs, _, rfl, hs, fldS_no _ _ (by decide +kernel) (by decide +kernel), a, c, .fog, _, bs, rfl, hL.st, key_fog _, rfl, hr', hb, q⟩
/-- one mark changes -/
def LC.mark (c : LC) (name : Str) (k : RK) (m : Int) (b : Bool) : LC := c.did (.tuple [.str name, .int m]) [⟨k, m.toNat, [.bool (!b)], [.bool b]⟩]
theorem mark_row {c : LC} {name : Str} {k : RK} {m : Int} {b : Bool} {bs : List Bool} (h : c.row k = bs.map PyData.bool) (hm : m.toNat < bs.length) : (c.mark name k m b).row k = (bs.set m.toNat b).map PyData.bool := by
  show (if k = k then (c.row k).take m.toNat ++ [PyData.bool b] ++ (c.row k).drop (m.toNat + 1) else c.row k) = _
  rw [if_pos rfl, h, List.set_eq_take_append_cons_drop, if_pos hm]
  simp
theorem mark_other {c : LC} {name : Str} {k k' : RK} {m : Int} {b : Bool} (h : k' ≠ k) : (c.mark name k m b).row k' = c.row k' := by
  show (if k' = k then _ else c.row k') = _
  rw [if_neg h]
def sp_sky (C1 C2 : Addr) (less : Int) (name : Str) (k : RK) (b : Bool) (P : Program) (w : World) (K : PySem.W.Frag) : Sp := fun vs H Q E => ∃ (L : Addr) (a : LA) (c : LC) (m : Int) (bs : List Bool), vs = [.ref L, .int m] ∧ LineAt P w K H L a c ∧ (c.row .arms).length = c.n ∧ c.row k = bs.map PyData.bool ∧ (bs.length : Int) = c.n - less ∧ bs.length ≤ 1000 ∧ c.past.length < 9000 ∧
  (¬ (0 ≤ m ∧ m < (c.n : Int) - less) → E (.ref C1) none H) ∧
  ((0 ≤ m ∧ m < (c.n : Int) - less) → bs.getD m.toNat false = b → ∀ H', Kp H H' → E (.ref C2) none H') ∧
  ((0 ≤ m ∧ m < (c.n : Int) - less) → bs.getD m.toNat false = (!b) → ∀ (f : Addr) (H' : Hp), H f = none → KpE (footL L a c.n) H H' → LineAt P w K H' L (a.futA f) (c.mark name k m b) → Q .non H')
theorem LineAt.alloc {P : Program} {w : World} {K : PySem.W.Frag} {H : Hp} {L : Addr} {a : LA} {c : LC} (l : LineAt P w K H L a c) : ∀ b ∈ footL L a c.n, H b ≠ none := fun b hb z => by
  rcases List.mem_append.mp hb with hb | hb
  · simp only [List.mem_cons, List.not_mem_nil, or_false] at hb
    rcases hb with rfl | rfl | rfl | rfl | rfl
    · obtain ⟨dx, h⟩ := l.ob
      rw [h] at z
      cases z
    · obtain ⟨vs, h, _⟩ := l.past
      rw [h] at z
      cases z
    · obtain ⟨vs, h, _⟩ := l.fut
      rw [h] at z
      cases z
    · rw [l.st.book.pl] at z
      cases z
    · rw [l.st.book.wd] at z
      cases z
  · obtain ⟨y, hy, rfl⟩ := List.mem_map.mp hb
    obtain ⟨vs, h, _⟩ := l.st.cont.at_ y hy
    rw [h] at z
    cases z
/-! ### doze, wake, fog, lift -/
theorem ok_p_Line_doze (T : Txt K mg) : FnOk P w K mg base (L2.CX P w) 5 T.f_p_Line_doze T.d_p_Line_doze ["self", "mast"] (sp_sky T.a_NoMast T.a_Asleep 0 "doze" .sleep true P w K) := by
  refine T.F_p_Line_doze.okX sc_p_Line_doze (fun vs H Q E h => ?_) (fun cdv A outer s H vs Q E hr h => ?_)
  · obtain ⟨L, a, c, m, bs, rfl, _⟩ := h
    rfl
  · obtain ⟨L, a, c, m, bs, rfl, hL, harm, hrow, hbl, hb, hpa, x1, x2, q⟩ := h
    refine ⟨_, (pss_cons (ps_expr (pe_meth (pe_fld (pv 0) rfl) T.cl_State T.M_p_State_check_mast (ok_p_State_check_mast T) (hr.mono (by decide)) T.b_p_State_check_mast .nil (passes_call (takes_of rfl rfl rfl rfl) (fun _ _ _ _ z => z)) (pa_cons (pv 1) pa_nil)))
      (pss_cons (ps_if (pt_cmpR op_in_seq (pv 1) (pe_meth0 (pv 0) T.cl_Line T.M_p_Line_asleep (ok_p_Line_asleep T) (hr.mono (by decide)) T.b_p_Line_asleep .nil pass0) rfl)
      (pss_one (ps_raise rfl (takes_of rfl rfl rfl rfl) (pmk_own PySem.F.excBase_ValueError T.x_Asleep T.g_Asleep T.k_Asleep (raises_own T.b_Asleep T.t_Asleep) rfl)))
      pss_nil)
      (pss_one (ps_expr (pe_meth (pv 0) T.cl_Line T.M_p_Line_do (ok_p_Line_do T) (hr.mono (by decide)) T.b_p_Line_do .nil pass0 (pa_cons (pe_tup (pa_cons pe_str (pa_cons (pv 1) pa_nil))) (pa_cons (pe_lst (pa_cons (pe_tup (pa_cons (pe_glob rfl T.c_SLEEP T.r_SLEEP) (pa_cons (pv 1) (pa_cons (pe_tup (pa_cons pe_bl pa_nil)) (pa_cons (pe_tup (pa_cons pe_bl pa_nil)) pa_nil))))) pa_nil)) pa_nil))))))), ?_⟩
    obtain ⟨dx, hl⟩ := hL.ob
    obtain ⟨dxs, hs⟩ := hL.st.ob
    refine ⟨_, rfl, L, _, dx, _, _, rfl, hl, T.cl_Line, T.n_Line_state, fldL_state _ _ _, a.s, dxs, _, rfl, hs, fldS_no _ _ (by decide +kernel) (by decide +kernel), _, rfl, a, c, m, rfl, hL.st, harm, fun c1 => ?_, fun c1 => x1 (fun z => c1 ⟨z.1, by have := z.2; omega⟩)⟩
    have c1 : 0 ≤ m ∧ m < (c.n : Int) - 0 := ⟨c1.1, by have := c1.2; omega⟩
    refine ⟨_, rfl, _, rfl, L, dx, _, rfl, hl, fldL_no _ _ _ (by decide +kernel) (by decide +kernel) (by decide +kernel), L, a, c, bs, rfl, hL, hrow, hb, fun r H1 nr k1 hr1 => ?_⟩
    refine ⟨r, _, rfl, .inl (.inl (.inl hr1)), rfl, flat_intL _, ?_⟩
    have hin : inV (.int m) ((marks bs).map V.int) = bs.getD m.toNat false := by
      rw [inV_ints, Bool.eq_iff_iff, decide_eq_true_iff]
      exact mem_marks c1.1 (by omega)
    refine ⟨_, rfl, iteB (fun c2 => ?_) (fun c2 => ?_)⟩
    · have c2 : (inV (.int m) ((marks bs).map V.int)) = true := c2
      rw [hin] at c2
      exact x2 c1 (by exact c2) H1 k1
    · have c2 : (inV (.int m) ((marks bs).map V.int)) = false := c2
      rw [hin] at c2
      have c3 : bs.getD m.toNat false = false := by exact c2
      have hl1 := k1.same _ _ rfl hl
      refine ⟨_, rfl, L, dx, _, rfl, hl1, fldL_no _ _ _ (by decide +kernel) (by decide +kernel) (by decide +kernel), _, rfl, Nat.le_of_lt (szt (by show 2 < 100000; decide)), fun t1 n1 => ?_⟩
      generalize h_H2 : upd H1 t1 _ = H2
      have k_H2 : Kp H1 H2 := by rw [← h_H2]; exact .new n1
      have q_H2 := (congrFun h_H2 t1).symm.trans upd_same
      clear h_H2
      refine ⟨_, rfl, Nat.le_of_lt (szt (by show 1 < 100000; decide)), fun t2 n2 => ?_⟩
      generalize h_H3 : upd H2 t2 _ = H3
      have k_H3 : Kp H2 H3 := by rw [← h_H3]; exact .new n2
      have q_H3 := (congrFun h_H3 t2).symm.trans upd_same
      clear h_H3
      refine ⟨Nat.le_of_lt (szt (by show 1 < 100000; decide)), fun t3 n3 => ?_⟩
      generalize h_H4 : upd H3 t3 _ = H4
      have k_H4 : Kp H3 H4 := by rw [← h_H4]; exact .new n3
      have q_H4 := (congrFun h_H4 t3).symm.trans upd_same
      clear h_H4
      refine ⟨Nat.le_of_lt (szt (by show 4 < 100000; decide)), fun t4 n4 => ?_⟩
      generalize h_H5 : upd H4 t4 _ = H5
      have k_H5 : Kp H4 H5 := by rw [← h_H5]; exact .new n4
      have q_H5 := (congrFun h_H5 t4).symm.trans upd_same
      clear h_H5
      refine ⟨Nat.le_of_lt (szt (by show 1 < 100000; decide)), fun cl ncl => ?_⟩
      generalize h_H6 : upd H5 cl _ = H6
      have k_H6 : Kp H5 H6 := by rw [← h_H6]; exact .new ncl
      have q_H6 := (congrFun h_H6 cl).symm.trans upd_same
      clear h_H6
      have k26 := ((k_H3.trans k_H4).trans k_H5).trans k_H6
      have kA := (k1.trans k_H2).trans k26
      have em : ((m.toNat : Nat) : Int) = m := Int.toNat_of_nonneg c1.1
      have elr : (c.row .sleep).length = bs.length := by rw [hrow, List.length_map]
      have fit1 : m.toNat + 1 ≤ (c.row .sleep).length := by omega
      have fit2 : (c.row .sleep).length + 1 ≤ 10000 := by omega
      refine ⟨L, a, c, .ref t1, .tuple [.str "doze", .int m], cl, [.ref t4], [⟨.sleep, m.toNat, [.bool false], [.bool true]⟩], rfl, hL.kp kA, .tup (.inl (.inl (k26.same _ _ rfl q_H2))) (.cons (.str _) (.cons (.int _) .nil)), .tup (fun d hd => ?_), .inl (.inl q_H6), fun z => (hL.kp ((k1.trans k_H2).trans ((k_H3.trans k_H4).trans k_H5))).alloc _ z ncl, rfl, fun i v h ev eh => ?_, ⟨key_sleep _, fit1, fit2, trivial⟩, hpa, by show 1 < 9000; decide, fun f H' nf e hL' => q c1 c3 f H' (kA.free _ nf) ((KpE.of kA).trans e) hL'⟩
      · simp only [List.mem_cons, List.not_mem_nil, or_false] at hd
        rcases hd with rfl | rfl
        · exact .str _
        · exact .int _
      · cases i with
        | succ i => cases ev
        | zero =>
          cases Option.some.inj ev
          cases Option.some.inj eh
          refine ⟨t4, .str "sleep", t2, t3, [.bl false], [.bl true], rfl, ?_, rfl, .inl (.inl (((k_H4.trans k_H5).trans k_H6).same _ _ rfl q_H3)), .cons (.bl _) .nil, .inl (.inl ((k_H5.trans k_H6).same _ _ rfl q_H4)), .cons (.bl _) .nil, ?_, ?_⟩
          · show SqT K H6 t4 [.str "sleep", .int ((m.toNat : Nat) : Int), .ref t2, .ref t3]
            rw [em]
            exact .inl (.inl (k_H6.same _ _ rfl q_H5))
          · intro d hd
            rw [List.mem_singleton.mp hd]
            exact .bl _
          · intro d hd
            rw [List.mem_singleton.mp hd]
            exact .bl _
theorem ok_p_Line_wake (T : Txt K mg) : FnOk P w K mg base (L2.CX P w) 5 T.f_p_Line_wake T.d_p_Line_wake ["self", "mast"] (sp_sky T.a_NoMast T.a_Awake 0 "wake" .sleep false P w K) := by
  refine T.F_p_Line_wake.okX sc_p_Line_wake (fun vs H Q E h => ?_) (fun cdv A outer s H vs Q E hr h => ?_)
  · obtain ⟨L, a, c, m, bs, rfl, _⟩ := h
    rfl
  · obtain ⟨L, a, c, m, bs, rfl, hL, harm, hrow, hbl, hb, hpa, x1, x2, q⟩ := h
    refine ⟨_, (pss_cons (ps_expr (pe_meth (pe_fld (pv 0) rfl) T.cl_State T.M_p_State_check_mast (ok_p_State_check_mast T) (hr.mono (by decide)) T.b_p_State_check_mast .nil (passes_call (takes_of rfl rfl rfl rfl) (fun _ _ _ _ z => z)) (pa_cons (pv 1) pa_nil)))
      (pss_cons (ps_if (pt_cmpR op_notIn_seq (pv 1) (pe_meth0 (pv 0) T.cl_Line T.M_p_Line_asleep (ok_p_Line_asleep T) (hr.mono (by decide)) T.b_p_Line_asleep .nil pass0) rfl)
      (pss_one (ps_raise rfl (takes_of rfl rfl rfl rfl) (pmk_own PySem.F.excBase_ValueError T.x_Awake T.g_Awake T.k_Awake (raises_own T.b_Awake T.t_Awake) rfl)))
      pss_nil)
      (pss_one (ps_expr (pe_meth (pv 0) T.cl_Line T.M_p_Line_do (ok_p_Line_do T) (hr.mono (by decide)) T.b_p_Line_do .nil pass0 (pa_cons (pe_tup (pa_cons pe_str (pa_cons (pv 1) pa_nil))) (pa_cons (pe_lst (pa_cons (pe_tup (pa_cons (pe_glob rfl T.c_SLEEP T.r_SLEEP) (pa_cons (pv 1) (pa_cons (pe_tup (pa_cons pe_bl pa_nil)) (pa_cons (pe_tup (pa_cons pe_bl pa_nil)) pa_nil))))) pa_nil)) pa_nil))))))), ?_⟩
    obtain ⟨dx, hl⟩ := hL.ob
    obtain ⟨dxs, hs⟩ := hL.st.ob
    refine ⟨_, rfl, L, _, dx, _, _, rfl, hl, T.cl_Line, T.n_Line_state, fldL_state _ _ _, a.s, dxs, _, rfl, hs, fldS_no _ _ (by decide +kernel) (by decide +kernel), _, rfl, a, c, m, rfl, hL.st, harm, fun c1 => ?_, fun c1 => x1 (fun z => c1 ⟨z.1, by have := z.2; omega⟩)⟩
    have c1 : 0 ≤ m ∧ m < (c.n : Int) - 0 := ⟨c1.1, by have := c1.2; omega⟩
    refine ⟨_, rfl, _, rfl, L, dx, _, rfl, hl, fldL_no _ _ _ (by decide +kernel) (by decide +kernel) (by decide +kernel), L, a, c, bs, rfl, hL, hrow, hb, fun r H1 nr k1 hr1 => ?_⟩
    refine ⟨r, _, rfl, .inl (.inl (.inl hr1)), rfl, flat_intL _, ?_⟩
    have hin : inV (.int m) ((marks bs).map V.int) = bs.getD m.toNat false := by
      rw [inV_ints, Bool.eq_iff_iff, decide_eq_true_iff]
      exact mem_marks c1.1 (by omega)
    refine ⟨_, rfl, iteB (fun c2 => ?_) (fun c2 => ?_)⟩
    · have c2 : (!inV (.int m) ((marks bs).map V.int)) = true := c2
      rw [hin] at c2
      exact x2 c1 (by simpa using c2) H1 k1
    · have c2 : (!inV (.int m) ((marks bs).map V.int)) = false := c2
      rw [hin] at c2
      have c3 : bs.getD m.toNat false = true := by simpa using c2
      have hl1 := k1.same _ _ rfl hl
      refine ⟨_, rfl, L, dx, _, rfl, hl1, fldL_no _ _ _ (by decide +kernel) (by decide +kernel) (by decide +kernel), _, rfl, Nat.le_of_lt (szt (by show 2 < 100000; decide)), fun t1 n1 => ?_⟩
      generalize h_H2 : upd H1 t1 _ = H2
      have k_H2 : Kp H1 H2 := by rw [← h_H2]; exact .new n1
      have q_H2 := (congrFun h_H2 t1).symm.trans upd_same
      clear h_H2
      refine ⟨_, rfl, Nat.le_of_lt (szt (by show 1 < 100000; decide)), fun t2 n2 => ?_⟩
      generalize h_H3 : upd H2 t2 _ = H3
      have k_H3 : Kp H2 H3 := by rw [← h_H3]; exact .new n2
      have q_H3 := (congrFun h_H3 t2).symm.trans upd_same
      clear h_H3
      refine ⟨Nat.le_of_lt (szt (by show 1 < 100000; decide)), fun t3 n3 => ?_⟩
      generalize h_H4 : upd H3 t3 _ = H4
      have k_H4 : Kp H3 H4 := by rw [← h_H4]; exact .new n3
      have q_H4 := (congrFun h_H4 t3).symm.trans upd_same
      clear h_H4
      refine ⟨Nat.le_of_lt (szt (by show 4 < 100000; decide)), fun t4 n4 => ?_⟩
      generalize h_H5 : upd H4 t4 _ = H5
      have k_H5 : Kp H4 H5 := by rw [← h_H5]; exact .new n4
      have q_H5 := (congrFun h_H5 t4).symm.trans upd_same
      clear h_H5
      refine ⟨Nat.le_of_lt (szt (by show 1 < 100000; decide)), fun cl ncl => ?_⟩
      generalize h_H6 : upd H5 cl _ = H6
      have k_H6 : Kp H5 H6 := by rw [← h_H6]; exact .new ncl
      have q_H6 := (congrFun h_H6 cl).symm.trans upd_same
      clear h_H6
      have k26 := ((k_H3.trans k_H4).trans k_H5).trans k_H6
      have kA := (k1.trans k_H2).trans k26
      have em : ((m.toNat : Nat) : Int) = m := Int.toNat_of_nonneg c1.1
      have elr : (c.row .sleep).length = bs.length := by rw [hrow, List.length_map]
      have fit1 : m.toNat + 1 ≤ (c.row .sleep).length := by omega
      have fit2 : (c.row .sleep).length + 1 ≤ 10000 := by omega
      refine ⟨L, a, c, .ref t1, .tuple [.str "wake", .int m], cl, [.ref t4], [⟨.sleep, m.toNat, [.bool true], [.bool false]⟩], rfl, hL.kp kA, .tup (.inl (.inl (k26.same _ _ rfl q_H2))) (.cons (.str _) (.cons (.int _) .nil)), .tup (fun d hd => ?_), .inl (.inl q_H6), fun z => (hL.kp ((k1.trans k_H2).trans ((k_H3.trans k_H4).trans k_H5))).alloc _ z ncl, rfl, fun i v h ev eh => ?_, ⟨key_sleep _, fit1, fit2, trivial⟩, hpa, by show 1 < 9000; decide, fun f H' nf e hL' => q c1 c3 f H' (kA.free _ nf) ((KpE.of kA).trans e) hL'⟩
      · simp only [List.mem_cons, List.not_mem_nil, or_false] at hd
        rcases hd with rfl | rfl
        · exact .str _
        · exact .int _
      · cases i with
        | succ i => cases ev
        | zero =>
          cases Option.some.inj ev
          cases Option.some.inj eh
          refine ⟨t4, .str "sleep", t2, t3, [.bl true], [.bl false], rfl, ?_, rfl, .inl (.inl (((k_H4.trans k_H5).trans k_H6).same _ _ rfl q_H3)), .cons (.bl _) .nil, .inl (.inl ((k_H5.trans k_H6).same _ _ rfl q_H4)), .cons (.bl _) .nil, ?_, ?_⟩
          · show SqT K H6 t4 [.str "sleep", .int ((m.toNat : Nat) : Int), .ref t2, .ref t3]
            rw [em]
            exact .inl (.inl (k_H6.same _ _ rfl q_H5))
          · intro d hd
            rw [List.mem_singleton.mp hd]
            exact .bl _
          · intro d hd
            rw [List.mem_singleton.mp hd]
            exact .bl _
theorem ok_p_Line_fog (T : Txt K mg) : FnOk P w K mg base (L2.CX P w) 5 T.f_p_Line_fog T.d_p_Line_fog ["self", "gap"] (sp_sky T.a_NoMast T.a_Fogged 1 "fog" .fog true P w K) := by
  refine T.F_p_Line_fog.okX sc_p_Line_fog (fun vs H Q E h => ?_) (fun cdv A outer s H vs Q E hr h => ?_)
  · obtain ⟨L, a, c, m, bs, rfl, _⟩ := h
    rfl
  · obtain ⟨L, a, c, m, bs, rfl, hL, harm, hrow, hbl, hb, hpa, x1, x2, q⟩ := h
    refine ⟨_, (pss_cons (ps_expr (pe_meth (pe_fld (pv 0) rfl) T.cl_State T.M_p_State_check_gap (ok_p_State_check_gap T) (hr.mono (by decide)) T.b_p_State_check_gap .nil (passes_call (takes_of rfl rfl rfl rfl) (fun _ _ _ _ z => z)) (pa_cons (pv 1) pa_nil)))
      (pss_cons (ps_if (pt_cmpR op_in_seq (pv 1) (pe_meth0 (pv 0) T.cl_Line T.M_p_Line_fogs (ok_p_Line_fogs T) (hr.mono (by decide)) T.b_p_Line_fogs .nil pass0) rfl)
      (pss_one (ps_raise rfl (takes_of rfl rfl rfl rfl) (pmk_own PySem.F.excBase_ValueError T.x_Fogged T.g_Fogged T.k_Fogged (raises_own T.b_Fogged T.t_Fogged) rfl)))
      pss_nil)
      (pss_one (ps_expr (pe_meth (pv 0) T.cl_Line T.M_p_Line_do (ok_p_Line_do T) (hr.mono (by decide)) T.b_p_Line_do .nil pass0 (pa_cons (pe_tup (pa_cons pe_str (pa_cons (pv 1) pa_nil))) (pa_cons (pe_lst (pa_cons (pe_tup (pa_cons (pe_glob rfl T.c_FOG T.r_FOG) (pa_cons (pv 1) (pa_cons (pe_tup (pa_cons pe_bl pa_nil)) (pa_cons (pe_tup (pa_cons pe_bl pa_nil)) pa_nil))))) pa_nil)) pa_nil))))))), ?_⟩
    obtain ⟨dx, hl⟩ := hL.ob
    obtain ⟨dxs, hs⟩ := hL.st.ob
    refine ⟨_, rfl, L, _, dx, _, _, rfl, hl, T.cl_Line, T.n_Line_state, fldL_state _ _ _, a.s, dxs, _, rfl, hs, fldS_no _ _ (by decide +kernel) (by decide +kernel), _, rfl, a, c, m, rfl, hL.st, harm, fun c1 => ?_, fun c1 => x1 (fun z => c1 ⟨z.1, by have := z.2; omega⟩)⟩
    have c1 : 0 ≤ m ∧ m < (c.n : Int) - 1 := ⟨c1.1, by have := c1.2; omega⟩
    refine ⟨_, rfl, _, rfl, L, dx, _, rfl, hl, fldL_no _ _ _ (by decide +kernel) (by decide +kernel) (by decide +kernel), L, a, c, bs, rfl, hL, hrow, hb, fun r H1 nr k1 hr1 => ?_⟩
    refine ⟨r, _, rfl, .inl (.inl (.inl hr1)), rfl, flat_intL _, ?_⟩
    have hin : inV (.int m) ((marks bs).map V.int) = bs.getD m.toNat false := by
      rw [inV_ints, Bool.eq_iff_iff, decide_eq_true_iff]
      exact mem_marks c1.1 (by omega)
    refine ⟨_, rfl, iteB (fun c2 => ?_) (fun c2 => ?_)⟩
    · have c2 : (inV (.int m) ((marks bs).map V.int)) = true := c2
      rw [hin] at c2
      exact x2 c1 (by exact c2) H1 k1
    · have c2 : (inV (.int m) ((marks bs).map V.int)) = false := c2
      rw [hin] at c2
      have c3 : bs.getD m.toNat false = false := by exact c2
      have hl1 := k1.same _ _ rfl hl
      refine ⟨_, rfl, L, dx, _, rfl, hl1, fldL_no _ _ _ (by decide +kernel) (by decide +kernel) (by decide +kernel), _, rfl, Nat.le_of_lt (szt (by show 2 < 100000; decide)), fun t1 n1 => ?_⟩
      generalize h_H2 : upd H1 t1 _ = H2
      have k_H2 : Kp H1 H2 := by rw [← h_H2]; exact .new n1
      have q_H2 := (congrFun h_H2 t1).symm.trans upd_same
      clear h_H2
      refine ⟨_, rfl, Nat.le_of_lt (szt (by show 1 < 100000; decide)), fun t2 n2 => ?_⟩
      generalize h_H3 : upd H2 t2 _ = H3
      have k_H3 : Kp H2 H3 := by rw [← h_H3]; exact .new n2
      have q_H3 := (congrFun h_H3 t2).symm.trans upd_same
      clear h_H3
      refine ⟨Nat.le_of_lt (szt (by show 1 < 100000; decide)), fun t3 n3 => ?_⟩
      generalize h_H4 : upd H3 t3 _ = H4
      have k_H4 : Kp H3 H4 := by rw [← h_H4]; exact .new n3
      have q_H4 := (congrFun h_H4 t3).symm.trans upd_same
      clear h_H4
      refine ⟨Nat.le_of_lt (szt (by show 4 < 100000; decide)), fun t4 n4 => ?_⟩
      generalize h_H5 : upd H4 t4 _ = H5
      have k_H5 : Kp H4 H5 := by rw [← h_H5]; exact .new n4
      have q_H5 := (congrFun h_H5 t4).symm.trans upd_same
      clear h_H5
      refine ⟨Nat.le_of_lt (szt (by show 1 < 100000; decide)), fun cl ncl => ?_⟩
      generalize h_H6 : upd H5 cl _ = H6
      have k_H6 : Kp H5 H6 := by rw [← h_H6]; exact .new ncl
      have q_H6 := (congrFun h_H6 cl).symm.trans upd_same
      clear h_H6
      have k26 := ((k_H3.trans k_H4).trans k_H5).trans k_H6
      have kA := (k1.trans k_H2).trans k26
      have em : ((m.toNat : Nat) : Int) = m := Int.toNat_of_nonneg c1.1
      have elr : (c.row .fog).length = bs.length := by rw [hrow, List.length_map]
      have fit1 : m.toNat + 1 ≤ (c.row .fog).length := by omega
      have fit2 : (c.row .fog).length + 1 ≤ 10000 := by omega
      refine ⟨L, a, c, .ref t1, .tuple [.str "fog", .int m], cl, [.ref t4], [⟨.fog, m.toNat, [.bool false], [.bool true]⟩], rfl, hL.kp kA, .tup (.inl (.inl (k26.same _ _ rfl q_H2))) (.cons (.str _) (.cons (.int _) .nil)), .tup (fun d hd => ?_), .inl (.inl q_H6), fun z => (hL.kp ((k1.trans k_H2).trans ((k_H3.trans k_H4).trans k_H5))).alloc _ z ncl, rfl, fun i v h ev eh => ?_, ⟨key_fog _, fit1, fit2, trivial⟩, hpa, by show 1 < 9000; decide, fun f H' nf e hL' => q c1 c3 f H' (kA.free _ nf) ((KpE.of kA).trans e) hL'⟩
      · simp only [List.mem_cons, List.not_mem_nil, or_false] at hd
        rcases hd with rfl | rfl
        · exact .str _
        · exact .int _
      · cases i with
        | succ i => cases ev
        | zero =>
          cases Option.some.inj ev
          cases Option.some.inj eh
          refine ⟨t4, .str "fog", t2, t3, [.bl false], [.bl true], rfl, ?_, rfl, .inl (.inl (((k_H4.trans k_H5).trans k_H6).same _ _ rfl q_H3)), .cons (.bl _) .nil, .inl (.inl ((k_H5.trans k_H6).same _ _ rfl q_H4)), .cons (.bl _) .nil, ?_, ?_⟩
          · show SqT K H6 t4 [.str "fog", .int ((m.toNat : Nat) : Int), .ref t2, .ref t3]
            rw [em]
            exact .inl (.inl (k_H6.same _ _ rfl q_H5))
          · intro d hd
            rw [List.mem_singleton.mp hd]
            exact .bl _
          · intro d hd
            rw [List.mem_singleton.mp hd]
            exact .bl _
theorem ok_p_Line_lift (T : Txt K mg) : FnOk P w K mg base (L2.CX P w) 5 T.f_p_Line_lift T.d_p_Line_lift ["self", "gap"] (sp_sky T.a_NoMast T.a_Clear 1 "lift" .fog false P w K) := by
  refine T.F_p_Line_lift.okX sc_p_Line_lift (fun vs H Q E h => ?_) (fun cdv A outer s H vs Q E hr h => ?_)
  · obtain ⟨L, a, c, m, bs, rfl, _⟩ := h
    rfl
  · obtain ⟨L, a, c, m, bs, rfl, hL, harm, hrow, hbl, hb, hpa, x1, x2, q⟩ := h
    refine ⟨_, (pss_cons (ps_expr (pe_meth (pe_fld (pv 0) rfl) T.cl_State T.M_p_State_check_gap (ok_p_State_check_gap T) (hr.mono (by decide)) T.b_p_State_check_gap .nil (passes_call (takes_of rfl rfl rfl rfl) (fun _ _ _ _ z => z)) (pa_cons (pv 1) pa_nil)))
      (pss_cons (ps_if (pt_cmpR op_notIn_seq (pv 1) (pe_meth0 (pv 0) T.cl_Line T.M_p_Line_fogs (ok_p_Line_fogs T) (hr.mono (by decide)) T.b_p_Line_fogs .nil pass0) rfl)
      (pss_one (ps_raise rfl (takes_of rfl rfl rfl rfl) (pmk_own PySem.F.excBase_ValueError T.x_Clear T.g_Clear T.k_Clear (raises_own T.b_Clear T.t_Clear) rfl)))
      pss_nil)
      (pss_one (ps_expr (pe_meth (pv 0) T.cl_Line T.M_p_Line_do (ok_p_Line_do T) (hr.mono (by decide)) T.b_p_Line_do .nil pass0 (pa_cons (pe_tup (pa_cons pe_str (pa_cons (pv 1) pa_nil))) (pa_cons (pe_lst (pa_cons (pe_tup (pa_cons (pe_glob rfl T.c_FOG T.r_FOG) (pa_cons (pv 1) (pa_cons (pe_tup (pa_cons pe_bl pa_nil)) (pa_cons (pe_tup (pa_cons pe_bl pa_nil)) pa_nil))))) pa_nil)) pa_nil))))))), ?_⟩
    obtain ⟨dx, hl⟩ := hL.ob
    obtain ⟨dxs, hs⟩ := hL.st.ob
    refine ⟨_, rfl, L, _, dx, _, _, rfl, hl, T.cl_Line, T.n_Line_state, fldL_state _ _ _, a.s, dxs, _, rfl, hs, fldS_no _ _ (by decide +kernel) (by decide +kernel), _, rfl, a, c, m, rfl, hL.st, harm, fun c1 => ?_, fun c1 => x1 (fun z => c1 ⟨z.1, by have := z.2; omega⟩)⟩
    have c1 : 0 ≤ m ∧ m < (c.n : Int) - 1 := ⟨c1.1, by have := c1.2; omega⟩
    refine ⟨_, rfl, _, rfl, L, dx, _, rfl, hl, fldL_no _ _ _ (by decide +kernel) (by decide +kernel) (by decide +kernel), L, a, c, bs, rfl, hL, hrow, hb, fun r H1 nr k1 hr1 => ?_⟩
    refine ⟨r, _, rfl, .inl (.inl (.inl hr1)), rfl, flat_intL _, ?_⟩
    have hin : inV (.int m) ((marks bs).map V.int) = bs.getD m.toNat false := by
      rw [inV_ints, Bool.eq_iff_iff, decide_eq_true_iff]
      exact mem_marks c1.1 (by omega)
    refine ⟨_, rfl, iteB (fun c2 => ?_) (fun c2 => ?_)⟩
    · have c2 : (!inV (.int m) ((marks bs).map V.int)) = true := c2
      rw [hin] at c2
      exact x2 c1 (by simpa using c2) H1 k1
    · have c2 : (!inV (.int m) ((marks bs).map V.int)) = false := c2
      rw [hin] at c2
      have c3 : bs.getD m.toNat false = true := by simpa using c2
      have hl1 := k1.same _ _ rfl hl
      refine ⟨_, rfl, L, dx, _, rfl, hl1, fldL_no _ _ _ (by decide +kernel) (by decide +kernel) (by decide +kernel), _, rfl, Nat.le_of_lt (szt (by show 2 < 100000; decide)), fun t1 n1 => ?_⟩
      generalize h_H2 : upd H1 t1 _ = H2
      have k_H2 : Kp H1 H2 := by rw [← h_H2]; exact .new n1
      have q_H2 := (congrFun h_H2 t1).symm.trans upd_same
      clear h_H2
      refine ⟨_, rfl, Nat.le_of_lt (szt (by show 1 < 100000; decide)), fun t2 n2 => ?_⟩
      generalize h_H3 : upd H2 t2 _ = H3
      have k_H3 : Kp H2 H3 := by rw [← h_H3]; exact .new n2
      have q_H3 := (congrFun h_H3 t2).symm.trans upd_same
      clear h_H3
      refine ⟨Nat.le_of_lt (szt (by show 1 < 100000; decide)), fun t3 n3 => ?_⟩
      generalize h_H4 : upd H3 t3 _ = H4
      have k_H4 : Kp H3 H4 := by rw [← h_H4]; exact .new n3
      have q_H4 := (congrFun h_H4 t3).symm.trans upd_same
      clear h_H4
      refine ⟨Nat.le_of_lt (szt (by show 4 < 100000; decide)), fun t4 n4 => ?_⟩
      generalize h_H5 : upd H4 t4 _ = H5
      have k_H5 : Kp H4 H5 := by rw [← h_H5]; exact .new n4
      have q_H5 := (congrFun h_H5 t4).symm.trans upd_same
      clear h_H5
      refine ⟨Nat.le_of_lt (szt (by show 1 < 100000; decide)), fun cl ncl => ?_⟩
      generalize h_H6 : upd H5 cl _ = H6
      have k_H6 : Kp H5 H6 := by rw [← h_H6]; exact .new ncl
      have q_H6 := (congrFun h_H6 cl).symm.trans upd_same
      clear h_H6
      have k26 := ((k_H3.trans k_H4).trans k_H5).trans k_H6
      have kA := (k1.trans k_H2).trans k26
      have em : ((m.toNat : Nat) : Int) = m := Int.toNat_of_nonneg c1.1
      have elr : (c.row .fog).length = bs.length := by rw [hrow, List.length_map]
      have fit1 : m.toNat + 1 ≤ (c.row .fog).length := by omega
      have fit2 : (c.row .fog).length + 1 ≤ 10000 := by omega
      refine ⟨L, a, c, .ref t1, .tuple [.str "lift", .int m], cl, [.ref t4], [⟨.fog, m.toNat, [.bool true], [.bool false]⟩], rfl, hL.kp kA, .tup (.inl (.inl (k26.same _ _ rfl q_H2))) (.cons (.str _) (.cons (.int _) .nil)), .tup (fun d hd => ?_), .inl (.inl q_H6), fun z => (hL.kp ((k1.trans k_H2).trans ((k_H3.trans k_H4).trans k_H5))).alloc _ z ncl, rfl, fun i v h ev eh => ?_, ⟨key_fog _, fit1, fit2, trivial⟩, hpa, by show 1 < 9000; decide, fun f H' nf e hL' => q c1 c3 f H' (kA.free _ nf) ((KpE.of kA).trans e) hL'⟩
      · simp only [List.mem_cons, List.not_mem_nil, or_false] at hd
        rcases hd with rfl | rfl
        · exact .str _
        · exact .int _
      · cases i with
        | succ i => cases ev
        | zero =>
          cases Option.some.inj ev
          cases Option.some.inj eh
          refine ⟨t4, .str "fog", t2, t3, [.bl true], [.bl false], rfl, ?_, rfl, .inl (.inl (((k_H4.trans k_H5).trans k_H6).same _ _ rfl q_H3)), .cons (.bl _) .nil, .inl (.inl ((k_H5.trans k_H6).same _ _ rfl q_H4)), .cons (.bl _) .nil, ?_, ?_⟩
          · show SqT K H6 t4 [.str "fog", .int ((m.toNat : Nat) : Int), .ref t2, .ref t3]
            rw [em]
            exact .inl (.inl (k_H6.same _ _ rfl q_H5))
          · intro d hd
            rw [List.mem_singleton.mp hd]
            exact .bl _
          · intro d hd
            rw [List.mem_singleton.mp hd]
            exact .bl _
/-! ### the kind of a refusal, of twenty-three -/
def KN : List Str := ["BadWay", "BadSign", "Full", "NothingWaits", "NoMast", "NotReady", "NotRaising", "BadSlip", "Asleep", "Awake", "Fogged", "Clear", "Busy", "NoRow", "NoBook", "Lost", "Legible", "NothingLeft", "BadPlace", "BadWord", "Taken", "Known", "NoWord"]
def kn (i : Nat) : Str := KN.getD i ""
theorem kn_dec : ∀ i, i < 23 → ∀ j, j < 23 → decide (kn i = kn j) = decide (i = j) := by decide +kernel
theorem kn_exc : ∀ i, i < 23 → kn i ∈ factsL.exc := by decide +kernel
theorem kn_kind : ∀ i, i < 23 → kn i ∈ factsL.kind := by decide +kernel
theorem TopB.excM {F : FactsB} {fn : List He.DefD} {K : PySem.W.Frag} {mg : Str → Option Value} (T : TopB F fn K mg) {x : Str} (h : x ∈ F.exc) : ExcT K mg x := by
  obtain ⟨i, hi, e⟩ := List.getElem_of_mem h
  exact TopB.exc T i (by rw [List.getElem?_eq_getElem hi, e])
theorem kind_exc (T : Txt K mg) {i : Nat} (hi : i < 23) : ExcC K (He.ga K (kn i)) := by
  have e := TopB.excM T (kn_exc i hi)
  exact ⟨e.ga, e.gg, e.b, e.h, e.cl, T.oc_get, T.oc_tak, e.mo⟩
theorem kind_sub (T : Txt K mg) {i j : Nat} (hi : i < 23) (hj : j < 23) : PySem.W.subIn K (.ref (He.ga K (kn i))) (.ref (He.ga K (kn j))) = some (decide (i = j)) := by
  have e := kindB_ok (TopB.kinds T) (kn_kind i hi) (kn_kind j hj)
  rw [kn_dec i hi j hj] at e
  exact e
theorem kind_kit (T : Txt K mg) {i : Nat} (hi : i < 23) (j : Nat) (hj : j < 23) : PySem.W.kitOne K (.ref (He.ga K (kn i))) (.ref (He.ga K (kn j))) = some (decide (i = j)) := by
  have ej := TopB.excM T (kn_exc j hj)
  have h := kind_sub T hi hj
  have hs := kind_sub T hi hi
  rw [decide_eq_true rfl] at hs
  by_cases z : i = j
  · rw [decide_eq_true z] at h ⊢
    exact kit_sub ej.i ej.t h
  · rw [decide_eq_false z] at h ⊢
    exact kit_not ej.i ej.t h hs
theorem kind_mast (T : Txt K mg) {i : Nat} (hi : i < 23) : PySem.W.exmOne K (.ref (He.ga K (kn i))) (.ref T.a_MastError) = some true :=
  PySem.W.exm_ref T.b_MastError T.h_MastError T.t_MastError (TopB.excM T (kn_exc i hi)).s
/-- which it is, as the law's list has it -/
def kbs (i : Nat) : List V := (List.range 23).map fun j => V.bl (decide (i = j))
theorem kbs_one : ∀ i, i < 23 → (kbs i).countP (fun z => eqV z (.bl true)) = 1 := by decide +kernel
theorem kbs_flat (i : Nat) : (kbs i).all flatV = true := by
  unfold kbs
  rw [List.all_map]
  exact List.all_eq_true.mpr fun _ _ => rfl
theorem kbs_at {i j : Nat} (hj : j < 23) : (kbs i)[j]? = some (.bl (decide (i = j))) := by
  unfold kbs
  rw [List.getElem?_map, List.getElem?_range hj]
  rfl
theorem kn_at {i : Nat} (hi : i < 23) : atI (KN.map V.str) ((i : Nat) : Int) = some (.str (kn i)) :=
  atI_nat (by
    have h : i < KN.length := hi
    unfold kn
    rw [List.getElem?_map, List.getD_eq_getElem?_getD, List.getElem?_eq_getElem h]
    rfl)
def sp_l_kind (K : PySem.W.Frag) : SpE := fun a c d vs H Q _ => ∃ i : Nat, vs = [.ref a] ∧ i < 23 ∧ c = .ref (He.ga K (kn i)) ∧ d = none ∧ ∀ H', Kp H H' → Q (.str (kn i)) H'
theorem ok_l_kind (T : Txt K mg) : FnE P w K mg base 1 T.f_l_kind T.d_l_kind ["_law_e"] (sp_l_kind K) := by
  refine Fun.okE T.F_l_kind sc_l_kind (fun a c d vs H Q E h => ?_) (fun cdv A outer s H vs Q E a oe c d hz hf hr h => ?_)
  · obtain ⟨i, rfl, _⟩ := h
    rfl
  · obtain ⟨i, rfl, hi, rfl, rfl, k⟩ := h
    refine ⟨_, (pss_cons (ps_set (i := 1) sc_l_kind.nd rfl (by first | exact Or.inl rfl | exact Or.inr rfl) (pe_lst (pa_cons (pe_callB (call_isP K rfl List.mem_cons_self hz hf) (by rfl) T.m_isinstance (by decide +kernel) (pa_cons (pv 0) (pa_cons (pe_glob (v := .ref T.a_BadWay) rfl T.g_BadWay rfl) pa_nil))) (pa_cons (pe_callB (call_isP K rfl List.mem_cons_self hz hf) (by rfl) T.m_isinstance (by decide +kernel) (pa_cons (pv 0) (pa_cons (pe_glob (v := .ref T.a_BadSign) rfl T.g_BadSign rfl) pa_nil))) (pa_cons (pe_callB (call_isP K rfl List.mem_cons_self hz hf) (by rfl) T.m_isinstance (by decide +kernel) (pa_cons (pv 0) (pa_cons (pe_glob (v := .ref T.a_Full) rfl T.g_Full rfl) pa_nil))) (pa_cons (pe_callB (call_isP K rfl List.mem_cons_self hz hf) (by rfl) T.m_isinstance (by decide +kernel) (pa_cons (pv 0) (pa_cons (pe_glob (v := .ref T.a_NothingWaits) rfl T.g_NothingWaits rfl) pa_nil))) pa_nil))))))
      (pss_cons (ps_set (i := 1) sc_l_kind.nd rfl (by first | exact Or.inl rfl | exact Or.inr rfl) (pe_op op_cat (pv 1) (pe_lst (pa_cons (pe_callB (call_isP K rfl List.mem_cons_self hz hf) (by rfl) T.m_isinstance (by decide +kernel) (pa_cons (pv 0) (pa_cons (pe_glob (v := .ref T.a_NoMast) rfl T.g_NoMast rfl) pa_nil))) (pa_cons (pe_callB (call_isP K rfl List.mem_cons_self hz hf) (by rfl) T.m_isinstance (by decide +kernel) (pa_cons (pv 0) (pa_cons (pe_glob (v := .ref T.a_NotReady) rfl T.g_NotReady rfl) pa_nil))) (pa_cons (pe_callB (call_isP K rfl List.mem_cons_self hz hf) (by rfl) T.m_isinstance (by decide +kernel) (pa_cons (pv 0) (pa_cons (pe_glob (v := .ref T.a_NotRaising) rfl T.g_NotRaising rfl) pa_nil))) (pa_cons (pe_callB (call_isP K rfl List.mem_cons_self hz hf) (by rfl) T.m_isinstance (by decide +kernel) (pa_cons (pv 0) (pa_cons (pe_glob (v := .ref T.a_BadSlip) rfl T.g_BadSlip rfl) pa_nil))) pa_nil)))))))
      (pss_cons (ps_set (i := 1) sc_l_kind.nd rfl (by first | exact Or.inl rfl | exact Or.inr rfl) (pe_op op_cat (pv 1) (pe_lst (pa_cons (pe_callB (call_isP K rfl List.mem_cons_self hz hf) (by rfl) T.m_isinstance (by decide +kernel) (pa_cons (pv 0) (pa_cons (pe_glob (v := .ref T.a_Asleep) rfl T.g_Asleep rfl) pa_nil))) (pa_cons (pe_callB (call_isP K rfl List.mem_cons_self hz hf) (by rfl) T.m_isinstance (by decide +kernel) (pa_cons (pv 0) (pa_cons (pe_glob (v := .ref T.a_Awake) rfl T.g_Awake rfl) pa_nil))) (pa_cons (pe_callB (call_isP K rfl List.mem_cons_self hz hf) (by rfl) T.m_isinstance (by decide +kernel) (pa_cons (pv 0) (pa_cons (pe_glob (v := .ref T.a_Fogged) rfl T.g_Fogged rfl) pa_nil))) (pa_cons (pe_callB (call_isP K rfl List.mem_cons_self hz hf) (by rfl) T.m_isinstance (by decide +kernel) (pa_cons (pv 0) (pa_cons (pe_glob (v := .ref T.a_Clear) rfl T.g_Clear rfl) pa_nil))) pa_nil)))))))
      (pss_cons (ps_set (i := 1) sc_l_kind.nd rfl (by first | exact Or.inl rfl | exact Or.inr rfl) (pe_op op_cat (pv 1) (pe_lst (pa_cons (pe_callB (call_isP K rfl List.mem_cons_self hz hf) (by rfl) T.m_isinstance (by decide +kernel) (pa_cons (pv 0) (pa_cons (pe_glob (v := .ref T.a_Busy) rfl T.g_Busy rfl) pa_nil))) (pa_cons (pe_callB (call_isP K rfl List.mem_cons_self hz hf) (by rfl) T.m_isinstance (by decide +kernel) (pa_cons (pv 0) (pa_cons (pe_glob (v := .ref T.a_NoRow) rfl T.g_NoRow rfl) pa_nil))) (pa_cons (pe_callB (call_isP K rfl List.mem_cons_self hz hf) (by rfl) T.m_isinstance (by decide +kernel) (pa_cons (pv 0) (pa_cons (pe_glob (v := .ref T.a_NoBook) rfl T.g_NoBook rfl) pa_nil))) (pa_cons (pe_callB (call_isP K rfl List.mem_cons_self hz hf) (by rfl) T.m_isinstance (by decide +kernel) (pa_cons (pv 0) (pa_cons (pe_glob (v := .ref T.a_Lost) rfl T.g_Lost rfl) pa_nil))) pa_nil)))))))
      (pss_cons (ps_set (i := 1) sc_l_kind.nd rfl (by first | exact Or.inl rfl | exact Or.inr rfl) (pe_op op_cat (pv 1) (pe_lst (pa_cons (pe_callB (call_isP K rfl List.mem_cons_self hz hf) (by rfl) T.m_isinstance (by decide +kernel) (pa_cons (pv 0) (pa_cons (pe_glob (v := .ref T.a_Legible) rfl T.g_Legible rfl) pa_nil))) (pa_cons (pe_callB (call_isP K rfl List.mem_cons_self hz hf) (by rfl) T.m_isinstance (by decide +kernel) (pa_cons (pv 0) (pa_cons (pe_glob (v := .ref T.a_NothingLeft) rfl T.g_NothingLeft rfl) pa_nil))) (pa_cons (pe_callB (call_isP K rfl List.mem_cons_self hz hf) (by rfl) T.m_isinstance (by decide +kernel) (pa_cons (pv 0) (pa_cons (pe_glob (v := .ref T.a_BadPlace) rfl T.g_BadPlace rfl) pa_nil))) pa_nil))))))
      (pss_cons (ps_set (i := 1) sc_l_kind.nd rfl (by first | exact Or.inl rfl | exact Or.inr rfl) (pe_op op_cat (pv 1) (pe_lst (pa_cons (pe_callB (call_isP K rfl List.mem_cons_self hz hf) (by rfl) T.m_isinstance (by decide +kernel) (pa_cons (pv 0) (pa_cons (pe_glob (v := .ref T.a_BadWord) rfl T.g_BadWord rfl) pa_nil))) (pa_cons (pe_callB (call_isP K rfl List.mem_cons_self hz hf) (by rfl) T.m_isinstance (by decide +kernel) (pa_cons (pv 0) (pa_cons (pe_glob (v := .ref T.a_Taken) rfl T.g_Taken rfl) pa_nil))) (pa_cons (pe_callB (call_isP K rfl List.mem_cons_self hz hf) (by rfl) T.m_isinstance (by decide +kernel) (pa_cons (pv 0) (pa_cons (pe_glob (v := .ref T.a_Known) rfl T.g_Known rfl) pa_nil))) (pa_cons (pe_callB (call_isP K rfl List.mem_cons_self hz hf) (by rfl) T.m_isinstance (by decide +kernel) (pa_cons (pv 0) (pa_cons (pe_glob (v := .ref T.a_NoWord) rfl T.g_NoWord rfl) pa_nil))) pa_nil)))))))
      (pss_cons (ps_set (i := 2) sc_l_kind.nd rfl (by first | exact Or.inl rfl | exact Or.inr rfl) (pe_lst (pa_cons pe_str (pa_cons pe_str (pa_cons pe_str (pa_cons pe_str (pa_cons pe_str (pa_cons pe_str (pa_cons pe_str (pa_cons pe_str (pa_cons pe_str pa_nil)))))))))))
      (pss_cons (ps_set (i := 2) sc_l_kind.nd rfl (by first | exact Or.inl rfl | exact Or.inr rfl) (pe_op op_cat (pv 2) (pe_lst (pa_cons pe_str (pa_cons pe_str (pa_cons pe_str (pa_cons pe_str (pa_cons pe_str (pa_cons pe_str (pa_cons pe_str (pa_cons pe_str (pa_cons pe_str pa_nil))))))))))))
      (pss_cons (ps_set (i := 2) sc_l_kind.nd rfl (by first | exact Or.inl rfl | exact Or.inr rfl) (pe_op op_cat (pv 2) (pe_lst (pa_cons pe_str (pa_cons pe_str (pa_cons pe_str (pa_cons pe_str (pa_cons pe_str pa_nil))))))))
      (pss_cons (ps_if (pt_cmpR op_ne (pe_bm PySem.F.plainAttrs_list PySem.F.slot_list_count PySem.F.type_list_count mt_fcount (pv 1) (pa_cons pe_bl pa_nil)) pe_int (nomark _))
      (pss_one (ps_ret pe_str))
      pss_nil)
      (pss_one (ps_ret (pe_ix ix_list (pv 2) (pe_bm PySem.F.plainAttrs_list PySem.F.slot_list_index PySem.F.type_list_index mt_index (pv 1) (pa_cons pe_bl pa_nil)) (fun _ _ => rfl)))))))))))))), ?_⟩
    have xc := kind_exc T hi
    have kt := kind_kit T hi
    refine ⟨_, rfl, _, _, _, _, rfl, .inl rfl, xc, rfl, .own _, kt 0 (by decide), _, rfl, _, _, _, _, rfl, .inl rfl, xc, rfl, .own _, kt 1 (by decide), _, rfl, _, _, _, _, rfl, .inl rfl, xc, rfl, .own _, kt 2 (by decide), _, rfl, _, _, _, _, rfl, .inl rfl, xc, rfl, .own _, kt 3 (by decide), szl (by show 4 ≤ 100000; decide), fun p1 n1 => ?_⟩
    generalize h_H1 : upd H p1 _ = H1
    have k_H1 : Kp H H1 := by rw [← h_H1]; exact .new n1
    have q_H1 := (congrFun h_H1 p1).symm.trans upd_same
    clear h_H1
    refine ⟨_, rfl, _, rfl, _, _, _, _, rfl, .inl rfl, xc, rfl, .own _, kt 4 (by decide), _, rfl, _, _, _, _, rfl, .inl rfl, xc, rfl, .own _, kt 5 (by decide), _, rfl, _, _, _, _, rfl, .inl rfl, xc, rfl, .own _, kt 6 (by decide), _, rfl, _, _, _, _, rfl, .inl rfl, xc, rfl, .own _, kt 7 (by decide), szl (by show 4 ≤ 100000; decide), fun p2 n2 => ?_⟩
    generalize h_H2 : upd H1 p2 _ = H2
    have k_H2 : Kp H1 H2 := by rw [← h_H2]; exact .new n2
    have q_H2 := (congrFun h_H2 p2).symm.trans upd_same
    clear h_H2
    refine ⟨p1, p2, _, _, rfl, rfl, k_H2.same _ _ rfl q_H1, q_H2, szl (by show 8 ≤ 100000; decide), fun p3 n3 => ?_⟩
    generalize h_H3 : upd H2 p3 _ = H3
    have k_H3 : Kp H2 H3 := by rw [← h_H3]; exact .new n3
    have q_H3 := (congrFun h_H3 p3).symm.trans upd_same
    clear h_H3
    refine ⟨_, rfl, _, rfl, _, _, _, _, rfl, .inl rfl, xc, rfl, .own _, kt 8 (by decide), _, rfl, _, _, _, _, rfl, .inl rfl, xc, rfl, .own _, kt 9 (by decide), _, rfl, _, _, _, _, rfl, .inl rfl, xc, rfl, .own _, kt 10 (by decide), _, rfl, _, _, _, _, rfl, .inl rfl, xc, rfl, .own _, kt 11 (by decide), szl (by show 4 ≤ 100000; decide), fun p4 n4 => ?_⟩
    generalize h_H4 : upd H3 p4 _ = H4
    have k_H4 : Kp H3 H4 := by rw [← h_H4]; exact .new n4
    have q_H4 := (congrFun h_H4 p4).symm.trans upd_same
    clear h_H4
    refine ⟨p3, p4, _, _, rfl, rfl, k_H4.same _ _ rfl q_H3, q_H4, szl (by show 12 ≤ 100000; decide), fun p5 n5 => ?_⟩
    generalize h_H5 : upd H4 p5 _ = H5
    have k_H5 : Kp H4 H5 := by rw [← h_H5]; exact .new n5
    have q_H5 := (congrFun h_H5 p5).symm.trans upd_same
    clear h_H5
    refine ⟨_, rfl, _, rfl, _, _, _, _, rfl, .inl rfl, xc, rfl, .own _, kt 12 (by decide), _, rfl, _, _, _, _, rfl, .inl rfl, xc, rfl, .own _, kt 13 (by decide), _, rfl, _, _, _, _, rfl, .inl rfl, xc, rfl, .own _, kt 14 (by decide), _, rfl, _, _, _, _, rfl, .inl rfl, xc, rfl, .own _, kt 15 (by decide), szl (by show 4 ≤ 100000; decide), fun p6 n6 => ?_⟩
    generalize h_H6 : upd H5 p6 _ = H6
    have k_H6 : Kp H5 H6 := by rw [← h_H6]; exact .new n6
    have q_H6 := (congrFun h_H6 p6).symm.trans upd_same
    clear h_H6
    refine ⟨p5, p6, _, _, rfl, rfl, k_H6.same _ _ rfl q_H5, q_H6, szl (by show 16 ≤ 100000; decide), fun p7 n7 => ?_⟩
    generalize h_H7 : upd H6 p7 _ = H7
    have k_H7 : Kp H6 H7 := by rw [← h_H7]; exact .new n7
    have q_H7 := (congrFun h_H7 p7).symm.trans upd_same
    clear h_H7
    refine ⟨_, rfl, _, rfl, _, _, _, _, rfl, .inl rfl, xc, rfl, .own _, kt 16 (by decide), _, rfl, _, _, _, _, rfl, .inl rfl, xc, rfl, .own _, kt 17 (by decide), _, rfl, _, _, _, _, rfl, .inl rfl, xc, rfl, .own _, kt 18 (by decide), szl (by show 3 ≤ 100000; decide), fun p8 n8 => ?_⟩
    generalize h_H8 : upd H7 p8 _ = H8
    have k_H8 : Kp H7 H8 := by rw [← h_H8]; exact .new n8
    have q_H8 := (congrFun h_H8 p8).symm.trans upd_same
    clear h_H8
    refine ⟨p7, p8, _, _, rfl, rfl, k_H8.same _ _ rfl q_H7, q_H8, szl (by show 19 ≤ 100000; decide), fun p9 n9 => ?_⟩
    generalize h_H9 : upd H8 p9 _ = H9
    have k_H9 : Kp H8 H9 := by rw [← h_H9]; exact .new n9
    have q_H9 := (congrFun h_H9 p9).symm.trans upd_same
    clear h_H9
    refine ⟨_, rfl, _, rfl, _, _, _, _, rfl, .inl rfl, xc, rfl, .own _, kt 19 (by decide), _, rfl, _, _, _, _, rfl, .inl rfl, xc, rfl, .own _, kt 20 (by decide), _, rfl, _, _, _, _, rfl, .inl rfl, xc, rfl, .own _, kt 21 (by decide), _, rfl, _, _, _, _, rfl, .inl rfl, xc, rfl, .own _, kt 22 (by decide), szl (by show 4 ≤ 100000; decide), fun p10 n10 => ?_⟩
    generalize h_H10 : upd H9 p10 _ = H10
    have k_H10 : Kp H9 H10 := by rw [← h_H10]; exact .new n10
    have q_H10 := (congrFun h_H10 p10).symm.trans upd_same
    clear h_H10
    refine ⟨p9, p10, _, _, rfl, rfl, k_H10.same _ _ rfl q_H9, q_H10, szl (by show 23 ≤ 100000; decide), fun p11 n11 => ?_⟩
    generalize h_H11 : upd H10 p11 _ = H11
    have k_H11 : Kp H10 H11 := by rw [← h_H11]; exact .new n11
    have q_H11 := (congrFun h_H11 p11).symm.trans upd_same
    clear h_H11
    refine ⟨szl (by show 9 ≤ 100000; decide), fun p12 n12 => ?_⟩
    generalize h_H12 : upd H11 p12 _ = H12
    have k_H12 : Kp H11 H12 := by rw [← h_H12]; exact .new n12
    have q_H12 := (congrFun h_H12 p12).symm.trans upd_same
    clear h_H12
    refine ⟨_, rfl, szl (by show 9 ≤ 100000; decide), fun p13 n13 => ?_⟩
    generalize h_H13 : upd H12 p13 _ = H13
    have k_H13 : Kp H12 H13 := by rw [← h_H13]; exact .new n13
    have q_H13 := (congrFun h_H13 p13).symm.trans upd_same
    clear h_H13
    refine ⟨p12, p13, _, _, rfl, rfl, k_H13.same _ _ rfl q_H12, q_H13, szl (by show 18 ≤ 100000; decide), fun p14 n14 => ?_⟩
    generalize h_H14 : upd H13 p14 _ = H14
    have k_H14 : Kp H13 H14 := by rw [← h_H14]; exact .new n14
    have q_H14 := (congrFun h_H14 p14).symm.trans upd_same
    clear h_H14
    refine ⟨_, rfl, szl (by show 5 ≤ 100000; decide), fun p15 n15 => ?_⟩
    generalize h_H15 : upd H14 p15 _ = H15
    have k_H15 : Kp H14 H15 := by rw [← h_H15]; exact .new n15
    have q_H15 := (congrFun h_H15 p15).symm.trans upd_same
    clear h_H15
    refine ⟨p14, p15, _, _, rfl, rfl, k_H15.same _ _ rfl q_H14, q_H15, szl (by show 23 ≤ 100000; decide), fun p16 n16 => ?_⟩
    generalize h_H16 : upd H15 p16 _ = H16
    have k_H16 : Kp H15 H16 := by rw [← h_H16]; exact .new n16
    have q_H16 := (congrFun h_H16 p16).symm.trans upd_same
    clear h_H16
    have kF := ((((k_H12).trans k_H13).trans k_H14).trans k_H15).trans k_H16
    have qP : H16 p11 = some (.lst (kbs i)) := kF.same _ _ rfl q_H11
    have qN : H16 p16 = some (.lst (KN.map V.str)) := q_H16
    refine ⟨_, rfl, .inl ⟨rfl, _, .inl (.inl qP)⟩, p11, _, _, rfl, rfl, .inl (.inl qP), rfl, kbs_flat i, rfl, _, rfl, ?_⟩
    rw [kbs_one i hi]
    refine iteFo rfl ?_
    refine ⟨_, rfl, _, rfl, .inl ⟨rfl, _, .inl (.inl qP)⟩, p11, _, _, i, .bl true, rfl, rfl, .inl (.inl qP), rfl, kbs_flat i, ?_, rfl, fun m z hm hz => ?_, p16, _, _, .str (kn i), rfl, rfl, .inl (.inl qN), kn_at hi, k _ ((((((((((((((((k_H1).trans k_H2).trans k_H3).trans k_H4).trans k_H5).trans k_H6).trans k_H7).trans k_H8).trans k_H9).trans k_H10).trans k_H11).trans k_H12).trans k_H13).trans k_H14).trans k_H15).trans k_H16)⟩
    · rw [kbs_at hi, decide_eq_true rfl]
    · have e := (kbs_at (i := i) (show m < 23 by omega)).symm.trans hz
      rw [← Option.some.inj e, decide_eq_false (by omega)]
      rfl
/-! ### the law's own sight of sleep and fog -/
theorem fil_sort (f : Nat → Bool) (n : Nat) : (fil f n).Pairwise (· < ·) := by
  unfold fil
  rw [List.pairwise_map]
  exact (List.Pairwise.filter f List.pairwise_lt_range).imp fun h => by omega
theorem lt_ext : ∀ {a b : List Int}, a.Pairwise (· < ·) → b.Pairwise (· < ·) → (∀ x, x ∈ a ↔ x ∈ b) → a = b
  | [], [], _, _, _ => rfl
  | [], y :: b, _, _, h => absurd ((h y).mpr List.mem_cons_self) List.not_mem_nil
  | x :: a, [], _, _, h => absurd ((h x).mp List.mem_cons_self) List.not_mem_nil
  | x :: a, y :: b, ha, hb, h => by
    rw [List.pairwise_cons] at ha hb
    have e : x = y := by
      rcases List.mem_cons.mp ((h x).mp List.mem_cons_self) with e | m
      · exact e
      · rcases List.mem_cons.mp ((h y).mpr List.mem_cons_self) with e | m2
        · exact e.symm
        · have := hb.1 x m
          have := ha.1 y m2
          omega
    subst e
    rw [lt_ext ha.2 hb.2 fun z => ⟨fun m => ?_, fun m => ?_⟩]
    · rcases List.mem_cons.mp ((h z).mp (List.mem_cons_of_mem _ m)) with e | m2
      · have := ha.1 z m
        omega
      · exact m2
    · rcases List.mem_cons.mp ((h z).mpr (List.mem_cons_of_mem _ m)) with e | m2
      · have := hb.1 z m
        omega
      · exact m2
theorem le_lt {a : List Int} (h : a.Pairwise (· ≤ ·)) (n : a.Nodup) : a.Pairwise (· < ·) :=
  (List.pairwise_and_iff.mpr ⟨h, n⟩).imp fun ⟨h1, h2⟩ => by omega
theorem lt_nodup {a : List Int} (h : a.Pairwise (· < ·)) : a.Nodup := List.Pairwise.imp (fun {x y} (h : x < y) => (by omega : x ≠ y)) h
theorem marks_sort (bs : List Bool) : (marks bs).Pairwise (· < ·) := fil_sort _ _
theorem marks_iff {bs : List Bool} {x : Int} : x ∈ marks bs ↔ ∃ p : Nat, x = (p : Int) ∧ p < bs.length ∧ bs.getD p false = true := fil_mem
theorem getD_set {bs : List Bool} {i p : Nat} {b : Bool} (hi : i < bs.length) : (bs.set i b).getD p false = if p = i then b else bs.getD p false := by
  rw [List.getD_eq_getElem?_getD, List.getD_eq_getElem?_getD, List.getElem?_set]
  by_cases h : i = p
  · rw [if_pos h, if_pos h.symm, if_pos hi]
    rfl
  · rw [if_neg h, if_neg (fun z => h z.symm)]
theorem marks_on {bs : List Bool} {m : Int} (h0 : 0 ≤ m) (h1 : m.toNat < bs.length) (c : bs.getD m.toNat false = false) {ns : List Int} (hp : ns.Perm (marks bs ++ [m])) (hs : ns.Pairwise (· ≤ ·)) : ns = marks (bs.set m.toNat true) := by
  have nm : m ∉ marks bs := fun z => by
    obtain ⟨p, e, _, q⟩ := marks_iff.mp z
    have : p = m.toNat := by omega
    rw [this, c] at q
    cases q
  have nd : (marks bs ++ [m]).Nodup := by
    rw [List.nodup_append]
    refine ⟨lt_nodup (marks_sort bs), by simp, fun a ha b hb e => ?_⟩
    rw [List.mem_singleton.mp hb] at e
    exact nm (e ▸ ha)
  refine lt_ext (le_lt hs (hp.nodup_iff.mpr nd)) (marks_sort _) fun x => ?_
  rw [hp.mem_iff, marks_iff, List.mem_append, marks_iff, List.mem_singleton]
  constructor
  · rintro (⟨p, e, hl, q⟩ | e)
    · refine ⟨p, e, by rw [List.length_set]; exact hl, ?_⟩
      rw [getD_set h1]
      split
      · rfl
      · exact q
    · exact ⟨m.toNat, by omega, by rw [List.length_set]; exact h1, by rw [getD_set h1, if_pos rfl]⟩
  · rintro ⟨p, e, hl, q⟩
    rw [List.length_set] at hl
    rw [getD_set h1] at q
    by_cases z : p = m.toNat
    · exact .inr (by omega)
    · rw [if_neg z] at q
      exact .inl ⟨p, e, hl, q⟩
theorem marks_off {bs : List Bool} {m : Int} (h0 : 0 ≤ m) (h1 : m.toNat < bs.length) {j : Nat} (hj : (marks bs)[j]? = some m) : (marks bs).eraseIdx j = marks (bs.set m.toNat false) := by
  have nd := lt_nodup (marks_sort bs)
  refine lt_ext ((marks_sort bs).sublist (List.eraseIdx_sublist _ _)) (marks_sort _) fun x => ?_
  rw [List.mem_eraseIdx_iff_getElem?, marks_iff]
  constructor
  · rintro ⟨i, ne, e⟩
    obtain ⟨p, ep, hl, q⟩ := marks_iff.mp (List.mem_of_getElem? e)
    refine ⟨p, ep, by rw [List.length_set]; exact hl, ?_⟩
    rw [getD_set h1, if_neg, q]
    intro z
    have ex : x = m := by omega
    rw [ex] at e
    have hi := (List.getElem?_eq_some_iff.mp e).1
    have hj' := (List.getElem?_eq_some_iff.mp hj).1
    exact ne ((List.getElem?_inj hi nd).mp (e.trans hj.symm))
  · rintro ⟨p, e, hl, q⟩
    rw [List.length_set] at hl
    rw [getD_set h1] at q
    by_cases z : p = m.toNat
    · rw [if_pos z] at q
      cases q
    · rw [if_neg z] at q
      obtain ⟨i, hi⟩ := List.mem_iff_getElem?.mp (marks_iff.mpr ⟨p, e, hl, q⟩)
      refine ⟨i, fun y => ?_, hi⟩
      rw [y, hj] at hi
      have := Option.some.inj hi
      omega
theorem first_at {ns : List Int} (nd : ns.Nodup) {m : Int} (h : m ∈ ns) : ∃ j : Nat, ns[j]? = some m ∧ ∀ i : Nat, i < j → ns[i]? ≠ some m := by
  obtain ⟨j, hj⟩ := List.mem_iff_getElem?.mp h
  refine ⟨j, hj, fun i hi e => ?_⟩
  have h1 := (List.getElem?_eq_some_iff.mp e).1
  have := (List.getElem?_inj h1 nd).mp (e.trans hj.symm)
  omega
/-- the four deeds: of fog or not, coming or going -/
def skyN (k b : Bool) : Str := if k = true then (if b = true then "fog" else "lift") else (if b = true then "doze" else "wake")
def skyE (k b : Bool) : Str := if k = true then (if b = true then "Fogged" else "Clear") else (if b = true then "Asleep" else "Awake")
def skyK (k : Bool) : Str := if k = true then "fogs" else "asleep"
def kL (k : Bool) : Int := if k = true then 1 else 0
def skyDue (n : Nat) (k b : Bool) (m : Int) (row : List Bool) : Option Str :=
  if ¬ (0 ≤ m ∧ m < (n : Int) - kL k) then some "NoMast" else if row.getD m.toNat false = b then some (skyE k b) else none
def skyRows (rows : Bool → List Bool) (k b : Bool) (m : Int) : Bool → List Bool := fun x => if x = k then (rows k).set m.toNat b else rows x
def dueT : Option Str → List V
  | some x => [.str "no", .str x]
  | none => [.str "told", .non]
structure SkySt (H : Hp) (S : Addr) (ad : Bool → Addr) (n : Nat) (rows : Bool → List Bool) : Prop where
  st : H S = some (.dK [(Sum.inr "masts", .int (n : Int)), (Sum.inr "asleep", .ref (ad false)), (Sum.inr "fogs", .ref (ad true))])
  at_ : ∀ k, H (ad k) = some (.lst ((marks (rows k)).map V.int))
  ne : ad false ≠ ad true
  len : ∀ k, ((rows k).length : Int) = (n : Int) - kL k
theorem SkySt.kp {H H' : Hp} {S : Addr} {ad : Bool → Addr} {n : Nat} {rows : Bool → List Bool} (s : SkySt H S ad n rows) (k : Kp H H') : SkySt H' S ad n rows :=
  ⟨k.same _ _ rfl s.st, fun x => k.same _ _ rfl (s.at_ x), s.ne, s.len⟩
theorem SkySt.kpE {H H' : Hp} {X : List Addr} {S : Addr} {ad : Bool → Addr} {n : Nat} {rows : Bool → List Bool} (s : SkySt H S ad n rows) (k : KpE X H H') (h1 : S ∉ X) (h2 : ∀ k, ad k ∉ X) : SkySt H' S ad n rows :=
  ⟨k.same _ _ rfl h1 s.st, fun x => k.same _ _ rfl (h2 x) (s.at_ x), s.ne, s.len⟩
theorem sky_get {H : Hp} {S : Addr} {ad : Bool → Addr} {n : Nat} {rows : Bool → List Bool} (s : SkySt H S ad n rows) (k : Bool) : DGet H S (.str (skyK k)) (some (.ref (ad k))) := by
  cases k
  · exact DGet.k (k := Sum.inr "asleep") s.st
  · exact DGet.k (k := Sum.inr "fogs") s.st
theorem sky_in (k b : Bool) : inV (.str (skyN k b)) [.str "doze", .str "wake"] = !k := by cases k <;> cases b <;> decide +kernel
theorem sky_in2 (k b : Bool) : inV (.str (skyN k b)) [.str "doze", .str "fog"] = b := by cases k <;> cases b <;> decide +kernel
theorem sky_fogs (k : Bool) : decide (V.str (skyK k) = V.str "fogs") = k := by cases k <;> decide +kernel
def sp_l_sky_deed : Sp := fun vs H Q _ => ∃ (S D : Addr) (ad : Bool → Addr) (n : Nat) (rows : Bool → List Bool) (k b : Bool) (m : Int), vs = [.ref S, .ref D] ∧ SkySt H S ad n rows ∧ H D = some (.tup [.str (skyN k b), .int m]) ∧ n ≤ 1000 ∧
  ∀ (r : Addr) (ad' : Bool → Addr) (H' : Hp), H r = none → KpE [S, ad false, ad true] H H' → (∀ x, ad' x = ad x ∨ H (ad' x) = none) → SkySt H' S ad' n (if (skyDue n k b m (rows k)).isSome = true then rows else skyRows rows k b m) → H' r = some (.tup (dueT (skyDue n k b m (rows k)))) → Q (.ref r) H'
theorem ok_l_sky_deed (T : Txt K mg) : FnOk P w K mg base CX0 1 T.f_l_sky_deed T.d_l_sky_deed ["_law_state", "_law_deed"] sp_l_sky_deed := by
  refine T.F_l_sky_deed.ok sc_l_sky_deed (fun vs H Q E h => ?_) (fun cdv A outer s H vs Q E hr h => ?_)
  · obtain ⟨S, D, ad, n, rows, k, b, m, rfl, _⟩ := h
    rfl
  · obtain ⟨S, D, ad, n, rows, k, b, m, rfl, hS, hD, hn, q⟩ := h
    have hu := hu_of hr
    refine ⟨_, (Evl.pss_cut (ps_set (i := 2) sc_l_sky_deed.nd rfl (by first | exact Or.inl rfl | exact Or.inr rfl) (pe_ifExp (pt_cmpR op_in_seq (pe_ix ix_tup (pv 1) pe_int (fun _ _ => rfl)) (pe_tup (pa_cons pe_str (pa_cons pe_str pa_nil))) rfl) pe_str pe_str))
      (Evl.pss_cut (ps_set (i := 3) sc_l_sky_deed.nd rfl (by first | exact Or.inl rfl | exact Or.inr rfl) (pe_op op_sub (pe_dget hu (pv 0) pe_str (fun _ _ => rfl)) (pe_callTy call_int1 (by rfl) T.m_int (by decide +kernel) (pa_cons (pe_cmpR op_eq (pv 2) pe_str (nomark _)) pa_nil))))
      (pss_cons (ps_if (pt_not (pt_chain op_le op_lt pe_int (pe_ix ix_tup (pv 1) pe_int (fun _ _ => rfl)) (pv 3)))
      (pss_one (ps_ret (pe_tup (pa_cons pe_str (pa_cons pe_str pa_nil)))))
      pss_nil)
      (Evl.pss_cut (ps_set (i := 4) sc_l_sky_deed.nd rfl (by first | exact Or.inl rfl | exact Or.inr rfl) (pe_cmpR op_in_seq (pe_ix ix_tup (pv 1) pe_int (fun _ _ => rfl)) (pe_dget hu (pv 0) (pv 2) (fun _ _ => rfl)) rfl))
      (pss_cons (ps_if (pt_cmpR op_in_seq (pe_ix ix_tup (pv 1) pe_int (fun _ _ => rfl)) (pe_tup (pa_cons pe_str (pa_cons pe_str pa_nil))) rfl)
      (pss_cons (ps_if (pt_val (pv 4))
      (pss_one (ps_ret (pe_tup (pa_cons pe_str (pa_cons (pe_dget hu (pe_disp (pps_cons pe_str pe_str (pps_cons pe_str pe_str pps_nil)) rfl rfl (by intro z; cases z) (by decide)) (pe_ix ix_tup (pv 1) pe_int (fun _ _ => rfl)) (fun _ _ => rfl)) pa_nil)))))
      pss_nil)
      (pss_one (ps_dput hu (pv 0) (pv 2) (pe_callB cr_sortedI (by rfl) T.m_sorted PyProof.Rows.boot_sorted (pa_cons (pe_op op_cat (pe_dget hu (pv 0) (pv 2) (fun _ _ => rfl)) (pe_lst (pa_cons (pe_ix ix_tup (pv 1) pe_int (fun _ _ => rfl)) pa_nil))) pa_nil)) rfl)))
      (pss_cons (ps_if (pt_not (pt_val (pv 4)))
      (pss_one (ps_ret (pe_tup (pa_cons pe_str (pa_cons (pe_dget hu (pe_disp (pps_cons pe_str pe_str (pps_cons pe_str pe_str pps_nil)) rfl rfl (by intro z; cases z) (by decide)) (pe_ix ix_tup (pv 1) pe_int (fun _ _ => rfl)) (fun _ _ => rfl)) pa_nil)))))
      pss_nil)
      (pss_one (ps_expr (pe_bm PySem.F.plainAttrs_list PySem.F.slot_list_remove PySem.F.type_list_remove mt_remove (pe_dget hu (pv 0) (pv 2) (fun _ _ => rfl)) (pa_cons (pe_ix ix_tup (pv 1) pe_int (fun _ _ => rfl)) pa_nil))))))
      (pss_one (ps_ret (pe_tup (pa_cons pe_str (pa_cons pe_non pa_nil)))))))))), ?_⟩
    refine ⟨fun σ' H' => ∃ H1, σ' = [some (.ref S), some (.ref D), some (.str (skyK k)), none, none] ∧ H' = H1 ∧ Kp H H1, ?_, ?_⟩
    · refine ⟨_, rfl, D, _, _, _, rfl, rfl, .inl (.inl hD), rfl, szl (by show 2 ≤ 100000; decide), fun p np => ?_⟩
      generalize h_H1 : upd H p _ = H1
      have k_H1 : Kp H H1 := by rw [← h_H1]; exact .new np
      have q_H1 := (congrFun h_H1 p).symm.trans upd_same
      clear h_H1
      refine ⟨p, _, rfl, .inr (.inl (.inl q_H1)), rfl, rfl, _, rfl, ?_⟩
      show if inV (.str (skyN k b)) [.str "doze", .str "wake"] = true then _ else _
      rw [sky_in]
      cases k
      · exact iteTo rfl ⟨_, rfl, rfl, k_H1⟩
      · exact iteFo rfl ⟨_, rfl, rfl, k_H1⟩
    · rintro σ' H' ⟨H1, rfl, rfl, k1⟩
      have hS1 := hS.kp k1
      have hD1 := k1.same _ _ rfl hD
      refine ⟨fun σ' H2 => σ' = [some (.ref S), some (.ref D), some (.str (skyK k)), some (.int ((n : Int) - kL k)), none] ∧ H2 = H', ?_, ?_⟩
      · refine ⟨_, rfl, S, .int (n : Int), rfl, DGet.k (k := Sum.inr "masts") hS1.st, _, rfl, rfl, .inr ⟨_, rfl, _, _, rfl, rfl, ?_, rfl⟩⟩
        show [some (V.ref S), some (.ref D), some (.str (skyK k)), some (.int ((n : Int) - (if decide (V.str (skyK k) = V.str "fogs") = true then 1 else 0))), none] = _
        rw [sky_fogs]
        rfl
      · rintro σ' H2 ⟨rfl, rfl⟩
        refine ⟨_, rfl, D, _, _, _, rfl, rfl, .inl (.inl hD1), rfl, _, _, rfl, rfl, _, rfl, ?_⟩
        by_cases c1 : 0 ≤ m ∧ m < (n : Int) - kL k
        · refine iteTo (decide_eq_true c1.1) ⟨_, rfl, _, _, rfl, rfl, _, rfl, ?_⟩
          refine iteFo (by rw [decide_eq_true c1.2]; rfl) ?_
          have hlen := hS.len k
          have hkL : kL k = 0 ∨ kL k = 1 := by cases k; exact .inl rfl; exact .inr rfl
          have hm : m.toNat < (rows k).length := by omega
          have due1 : skyDue n k b m (rows k) = if (rows k).getD m.toNat false = b then some (skyE k b) else none := if_neg (fun z => z c1)
          refine ⟨fun σ' H3 => σ' = [some (.ref S), some (.ref D), some (.str (skyK k)), some (.int ((n : Int) - kL k)), some (.bl ((rows k).getD m.toNat false))] ∧ H3 = H2, ?_, ?_⟩
          · refine ⟨_, rfl, D, _, _, _, rfl, rfl, .inl (.inl hD1), rfl, _, rfl, _, rfl, S, _, rfl, sky_get hS1 k, _, _, rfl, .inl (.inl (.inl (hS1.at_ k))), rfl, flat_intL _, ?_, rfl⟩
            show [some (V.ref S), some (.ref D), some (.str (skyK k)), some (.int ((n : Int) - kL k)), some (.bl (inV (.int m) ((marks (rows k)).map V.int)))] = _
            have e : inV (.int m) ((marks (rows k)).map V.int) = (rows k).getD m.toNat false := by
              rw [inV_ints, Bool.eq_iff_iff, decide_eq_true_iff]
              exact mem_marks c1.1 (by omega)
            rw [e]
          · rintro σ' H3 ⟨rfl, rfl⟩
            have toldK : ∀ r H4, H3 r = none → Kp H3 H4 → H4 r = some (.tup [.str "no", .str (skyE k b)]) → (rows k).getD m.toNat false = b → Q (.ref r) H4 := fun r H4 nr k2 hr4 c2 => by
              rw [if_pos c2] at due1
              refine q r ad _ (k1.free _ nr) (KpE.of (k1.trans k2)) (fun x => .inl rfl) ?_ ?_
              · rw [due1]
                exact hS1.kp k2
              · rw [due1]
                exact hr4
            have told : ∀ r ad2 H4, H3 r = none → KpE [S, ad false, ad true] H3 H4 → (∀ x, ad2 x = ad x ∨ H3 (ad2 x) = none) → H4 r = some (.tup [.str "told", .non]) → SkySt H4 S ad2 n (skyRows rows k b m) → ¬ (rows k).getD m.toNat false = b → Q (.ref r) H4 := fun r ad2 H4 nr k2 h2 hr4 hs c2 => by
              rw [if_neg c2] at due1
              refine q r ad2 _ (k1.free _ nr) ((KpE.of k1).trans k2) (fun x => (h2 x).imp id (k1.free _)) ?_ ?_
              · rw [due1]
                exact hs
              · rw [due1]
                exact hr4
            refine ⟨_, rfl, D, _, _, _, rfl, rfl, .inl (.inl hD1), rfl, szl (by show 2 ≤ 100000; decide), fun p np => ?_⟩
            generalize h_H4 : upd H3 p _ = H4
            have k_H4 : Kp H3 H4 := by rw [← h_H4]; exact .new np
            have q_H4 := (congrFun h_H4 p).symm.trans upd_same
            clear h_H4
            have hS4 := hS1.kp k_H4
            have hD4 := k_H4.same _ _ rfl hD1
            refine ⟨p, _, rfl, .inr (.inl (.inl q_H4)), rfl, rfl, _, rfl, ?_⟩
            show if inV (.str (skyN k b)) [.str "doze", .str "fog"] = true then _ else _
            rw [sky_in2]
            cases b with
            | true =>
              refine iteTo rfl ?_
              refine ⟨_, rfl, _, rfl, iteB (fun c2 => ?_) (fun c2 => ?_)⟩
              · intro pd nd
                refine ⟨upd_same, [(Sum.inr "doze", .str "Asleep"), (Sum.inr "fog", .str "Fogged")], rfl, (by show 2 ≤ 15; decide), ?_⟩
                have k5 : Kp H4 (upd (upd H4 pd (.dK [])) pd (.dK (mergeK [] [(Sum.inr "doze", .str "Asleep"), (Sum.inr "fog", .str "Fogged")]))) := (Kp.new nd).mut nd
                have q5 : upd (upd H4 pd (.dK [])) pd (.dK (mergeK [] [(Sum.inr "doze", .str "Asleep"), (Sum.inr "fog", .str "Fogged")])) pd = some (.dK (mergeK [] [(Sum.inr "doze", .str "Asleep"), (Sum.inr "fog", .str "Fogged")])) := upd_same
                generalize upd (upd H4 pd (.dK [])) pd (.dK (mergeK [] [(Sum.inr "doze", .str "Asleep"), (Sum.inr "fog", .str "Fogged")])) = H5 at k5 q5 ⊢
                have hg : DGet H5 pd (.str (skyN k true)) (some (.str (skyE k true))) := by
                  cases k
                  · exact DGet.k (k := Sum.inr "doze") q5
                  · exact DGet.k (k := Sum.inr "fog") q5
                refine ⟨_, rfl, D, _, _, _, rfl, rfl, .inl (.inl (k5.same _ _ rfl hD4)), rfl, pd, _, rfl, hg, szl (by show 2 ≤ 100000; decide), fun r nr => ?_⟩
                have kk := (k_H4.trans k5)
                exact toldK r _ (kk.free _ nr) (kk.trans (.new nr)) upd_same c2
              · have nin : (rows k).getD m.toNat false = false := c2
                refine ⟨_, rfl, _, rfl, S, _, rfl, sky_get hS4 k, _, rfl, D, _, _, _, rfl, rfl, .inl (.inl hD4), rfl, szl (by show 1 ≤ 100000; decide), fun p2 np2 => ?_⟩
                generalize h_H5 : upd H4 p2 _ = H5
                have k_H5 : Kp H4 H5 := by rw [← h_H5]; exact .new np2
                have q_H5 := (congrFun h_H5 p2).symm.trans upd_same
                clear h_H5
                have hS5 := hS4.kp k_H5
                have hml := fil_len (fun i => (rows k).getD i false) (rows k).length
                refine ⟨ad k, p2, _, _, rfl, rfl, hS5.at_ k, q_H5, szl (by rw [List.length_map]; show (fil (fun i => (rows k).getD i false) (rows k).length).length + 1 ≤ 100000; omega), fun p3 np3 => ?_⟩
                generalize h_H6 : upd H5 p3 _ = H6
                have k_H6 : Kp H5 H6 := by rw [← h_H6]; exact .new np3
                have q_H6 := (congrFun h_H6 p3).symm.trans upd_same
                clear h_H6
                have hS6 := hS5.kp k_H6
                refine ⟨p3, marks (rows k) ++ [m], rfl, .inl (.inl (by rw [q_H6, List.map_append]; rfl)), fun ns' p4 hp hs np4 => ?_⟩
                have en := marks_on c1.1 hm nin hp hs
                subst en
                generalize h_H7 : upd H6 p4 _ = H7
                have k_H7 : Kp H6 H7 := by rw [← h_H7]; exact .new np4
                have q_H7 := (congrFun h_H7 p4).symm.trans upd_same
                clear h_H7
                have hS7 := hS6.kp k_H7
                refine ⟨_, rfl, _, rfl, S, _, rfl, DPut.k (k := Sum.inr (skyK k)) hS7.st (szt (by show 3 < 100000; decide)), ?_⟩
                have k37 := ((k_H4.trans k_H5).trans k_H6).trans k_H7
                generalize hH8 : upd H7 S _ = H8
                have e78 : KpE [S, ad false, ad true] H7 H8 := by rw [← hH8]; exact KpE.put hS7.st rfl List.mem_cons_self
                have nS : ∀ {z : Addr} {xs : List V}, H7 z = some (.lst xs) → H8 z = some (.lst xs) := fun {z xs} hz => by
                  rw [← hH8, upd_ne (ne_of hz hS7.st (by intro y; cases y))]
                  exact hz
                refine ⟨szl (by show 2 ≤ 100000; decide), fun r nr => ?_⟩
                have e38 := (KpE.of k37).trans e78
                have n3p : H3 p4 = none := k_H4.free _ (k_H5.free _ (k_H6.free _ np4))
                have nadp : ∀ x, ad x ≠ p4 := fun x z => by
                  have := hS1.at_ x
                  rw [z, n3p] at this
                  cases this
                refine told r (fun x => if x = k then p4 else ad x) _ (e38.free _ nr) (e38.trans (KpE.of (.new nr))) (fun x => ?_) upd_same (SkySt.kp ⟨?_, fun x => ?_, ?_, fun x => ?_⟩ (.new nr)) (by rw [nin]; decide)
                · show (if x = k then p4 else ad x) = ad x ∨ H3 (if x = k then p4 else ad x) = none
                  by_cases z : x = k
                  · rw [if_pos z]
                    exact .inr n3p
                  · rw [if_neg z]
                    exact .inl rfl
                · rw [← hH8, upd_same]
                  cases k <;> rfl
                · show H8 (if x = k then p4 else ad x) = some (.lst ((marks (if x = k then (rows k).set m.toNat true else rows x)).map V.int))
                  by_cases z : x = k
                  · rw [if_pos z, if_pos z]
                    exact nS q_H7
                  · rw [if_neg z, if_neg z]
                    exact nS (hS7.at_ x)
                · show (if false = k then p4 else ad false) ≠ (if true = k then p4 else ad true)
                  cases k
                  · exact (nadp true).symm
                  · exact nadp false
                · show (((if x = k then (rows k).set m.toNat true else rows x).length : Nat) : Int) = _
                  by_cases z : x = k
                  · rw [if_pos z, List.length_set, z]
                    exact hlen
                  · rw [if_neg z]
                    exact hS.len x
            | false =>
              refine iteFo rfl ?_
              refine ⟨_, rfl, _, rfl, iteB (fun c2 => ?_) (fun c2 => ?_)⟩
              · have c2 : (!(rows k).getD m.toNat false) = true := c2
                have nin : (rows k).getD m.toNat false = false := by simpa using c2
                intro pd nd
                refine ⟨upd_same, [(Sum.inr "wake", .str "Awake"), (Sum.inr "lift", .str "Clear")], rfl, (by show 2 ≤ 15; decide), ?_⟩
                have k5 : Kp H4 (upd (upd H4 pd (.dK [])) pd (.dK (mergeK [] [(Sum.inr "wake", .str "Awake"), (Sum.inr "lift", .str "Clear")]))) := (Kp.new nd).mut nd
                have q5 : upd (upd H4 pd (.dK [])) pd (.dK (mergeK [] [(Sum.inr "wake", .str "Awake"), (Sum.inr "lift", .str "Clear")])) pd = some (.dK (mergeK [] [(Sum.inr "wake", .str "Awake"), (Sum.inr "lift", .str "Clear")])) := upd_same
                generalize upd (upd H4 pd (.dK [])) pd (.dK (mergeK [] [(Sum.inr "wake", .str "Awake"), (Sum.inr "lift", .str "Clear")])) = H5 at k5 q5 ⊢
                have hg : DGet H5 pd (.str (skyN k false)) (some (.str (skyE k false))) := by
                  cases k
                  · exact DGet.k (k := Sum.inr "wake") q5
                  · exact DGet.k (k := Sum.inr "lift") q5
                refine ⟨_, rfl, D, _, _, _, rfl, rfl, .inl (.inl (k5.same _ _ rfl hD4)), rfl, pd, _, rfl, hg, szl (by show 2 ≤ 100000; decide), fun r nr => ?_⟩
                have kk := (k_H4.trans k5)
                exact toldK r _ (kk.free _ nr) (kk.trans (.new nr)) upd_same nin
              · have c2 : (!(rows k).getD m.toNat false) = false := c2
                have ain : (rows k).getD m.toNat false = true := by simpa using c2
                have hmem : m ∈ marks (rows k) := (mem_marks c1.1 (by omega)).mpr ain
                obtain ⟨j, hj, hj2⟩ := first_at (lt_nodup (marks_sort (rows k))) hmem
                refine ⟨_, rfl, _, rfl, S, _, rfl, sky_get hS4 k, .inl ⟨rfl, _, SqL.of (hS4.at_ k)⟩, _, rfl, D, _, _, _, rfl, rfl, .inl (.inl hD4), rfl, _, marks (rows k), m, j, rfl, rfl, hS4.at_ k, hj, hj2, ?_⟩
                rw [marks_off c1.1 hm hj]
                generalize hH8 : upd H4 (ad k) _ = H8
                have e78 : KpE [S, ad false, ad true] H4 H8 := by
                  rw [← hH8]
                  exact KpE.put (hS4.at_ k) rfl (by cases k <;> simp)
                refine ⟨szl (by show 2 ≤ 100000; decide), fun r nr => ?_⟩
                have e38 := (KpE.of k_H4).trans e78
                refine told r ad _ (e38.free _ nr) (e38.trans (KpE.of (.new nr))) (fun x => .inl rfl) upd_same (SkySt.kp ⟨?_, fun x => ?_, hS.ne, fun x => ?_⟩ (.new nr)) (by rw [ain]; decide)
                · rw [← hH8, upd_ne (ne_of hS4.st (hS4.at_ k) (by intro y; cases y))]
                  exact hS4.st
                · show H8 (ad x) = some (.lst ((marks (if x = k then (rows k).set m.toNat false else rows x)).map V.int))
                  by_cases z : x = k
                  · rw [if_pos z, ← hH8, z, upd_same]
                  · rw [if_neg z, ← hH8, upd_ne]
                    · exact hS4.at_ x
                    · intro y
                      have e := hS.ne
                      cases x <;> cases k <;> first | exact z rfl | exact e y | exact e y.symm
                · show (((if x = k then (rows k).set m.toNat false else rows x).length : Nat) : Int) = _
                  by_cases z : x = k
                  · rw [if_pos z, List.length_set, z]
                    exact hlen
                  · rw [if_neg z]
                    exact hS.len x
        · have due1 : skyDue n k b m (rows k) = some "NoMast" := if_pos c1
          have fin : ∀ r, H2 r = none → Q (.ref r) (upd H2 r (.tup [.str "no", .str "NoMast"])) := fun r nr => by
            have k2 : Kp H2 (upd H2 r (.tup [.str "no", .str "NoMast"])) := .new nr
            refine q r ad _ (k1.free _ nr) (KpE.of (k1.trans k2)) (fun x => .inl rfl) ?_ ?_
            · rw [due1]
              exact hS1.kp k2
            · rw [due1]
              exact upd_same
          by_cases c2 : 0 ≤ m
          · refine iteTo (decide_eq_true c2) ⟨_, rfl, _, _, rfl, rfl, _, rfl, ?_⟩
            refine iteTo (by rw [decide_eq_false (fun z => c1 ⟨c2, z⟩)]; rfl) ?_
            exact ⟨szl (by show 2 ≤ 100000; decide), fin⟩
          · refine iteFo (decide_eq_false c2) ⟨_, rfl, iteTo rfl ?_⟩
            exact ⟨szl (by show 2 ≤ 100000; decide), fin⟩
/-! ### a deed of sleep or fog, done and tried -/
def rkS (k : Bool) : RK := if k = true then .fog else .sleep
def skyI (k b : Bool) : Nat := if k = true then (if b = true then 10 else 11) else (if b = true then 8 else 9)
theorem skyI_lt (k b : Bool) : skyI k b < 23 := by cases k <;> cases b <;> decide
theorem skyI_kn (k b : Bool) : kn (skyI k b) = skyE k b := by cases k <;> cases b <;> rfl
/-- what a law of sleep and fog knows of its line -/
structure LineS (P : Program) (w : World) (K : PySem.W.Frag) (H : Hp) (L : Addr) (a : LA) (c : LC) (rows : Bool → List Bool) : Prop where
  at_ : LineAt P w K H L a c
  arms : (c.row .arms).length = c.n
  row : ∀ k, c.row (rkS k) = (rows k).map PyData.bool
  len : ∀ k, ((rows k).length : Int) = (c.n : Int) - kL k
  few : c.n ≤ 12
theorem LineS.kp {P : Program} {w : World} {K : PySem.W.Frag} {H H' : Hp} {L : Addr} {a : LA} {c : LC} {rows : Bool → List Bool} (l : LineS P w K H L a c rows) (k : Kp H H') : LineS P w K H' L a c rows := ⟨l.at_.kp k, l.arms, l.row, l.len, l.few⟩
def skyC (c : LC) (k b : Bool) (m : Int) : LC := c.mark (skyN k b) (rkS k) m b
theorem LineS.step {P : Program} {w : World} {K : PySem.W.Frag} {H H' : Hp} {L f : Addr} {a : LA} {c : LC} {rows : Bool → List Bool} (l : LineS P w K H L a c rows) {k b : Bool} {m : Int} (h : 0 ≤ m ∧ m < (c.n : Int) - kL k) (at_ : LineAt P w K H' L (a.futA f) (skyC c k b m)) : LineS P w K H' L (a.futA f) (skyC c k b m) (skyRows rows k b m) := by
  have hl := l.len k
  have hm : m.toNat < (rows k).length := by omega
  refine ⟨at_, ?_, fun x => ?_, fun x => ?_, l.few⟩
  · show ((c.mark (skyN k b) (rkS k) m b).row .arms).length = c.n
    rw [mark_other (by cases k <;> intro z <;> cases z)]
    exact l.arms
  · show (c.mark (skyN k b) (rkS k) m b).row (rkS x) = (if x = k then (rows k).set m.toNat b else rows x).map PyData.bool
    by_cases z : x = k
    · rw [if_pos z, z]
      exact mark_row (l.row k) hm
    · rw [if_neg z, mark_other (by intro y; cases x <;> cases k <;> first | exact z rfl | cases y)]
      exact l.row x
  · show (((if x = k then (rows k).set m.toNat b else rows x).length : Nat) : Int) = (c.n : Int) - kL x
    by_cases z : x = k
    · rw [if_pos z, List.length_set, z]
      exact hl
    · rw [if_neg z]
      exact l.len x
def sp_l_do (P : Program) (w : World) (K : PySem.W.Frag) : Sp := fun vs H Q E => ∃ (L D : Addr) (a : LA) (c : LC) (rows : Bool → List Bool) (k b : Bool) (m : Int), vs = [.ref L, .ref D] ∧ H D = some (.tup [.str (skyN k b), .int m]) ∧ LineS P w K H L a c rows ∧ c.past.length < 9000 ∧
  (¬ (0 ≤ m ∧ m < (c.n : Int) - kL k) → E (.ref (He.ga K "NoMast")) none H) ∧
  ((0 ≤ m ∧ m < (c.n : Int) - kL k) → (rows k).getD m.toNat false = b → ∀ H', Kp H H' → E (.ref (He.ga K (skyE k b))) none H') ∧
  ((0 ≤ m ∧ m < (c.n : Int) - kL k) → (rows k).getD m.toNat false = (!b) → ∀ (f : Addr) (H' : Hp), H f = none → KpE (footL L a c.n) H H' → LineAt P w K H' L (a.futA f) (skyC c k b m) → Q .non H')
theorem ok_l_do (T : Txt K mg) : FnOk P w K mg base (L2.CX P w) 12 T.f_l_do T.d_l_do ["_law_line", "_law_deed"] (sp_l_do P w K) := by
  refine T.F_l_do.okX sc_l_do (fun vs H Q E h => ?_) (fun cdv A outer s H vs Q E hr h => ?_)
  · obtain ⟨L, D, a, c, rows, k, b, m, rfl, _⟩ := h
    rfl
  · obtain ⟨L, D, a, c, rows, k, b, m, rfl, hD, hL, hp, x1, x2, q⟩ := h
    obtain ⟨dx, hl⟩ := hL.at_.ob
    have row := hL.row k
    have len := hL.len k
    have few := hL.few
    have lk : (rows k).length ≤ 1000 := by cases k <;> simp only [kL] at len <;> omega
    refine ⟨_, (pss_cons (ps_if (pt_cmpR op_eq (pe_ix ix_tup (pv 1) pe_int (fun _ _ => rfl)) pe_str (nomark _))
      (pss_one ps_never)
      pss_nil)
      (pss_cons (ps_if (pt_cmpR op_eq (pe_ix ix_tup (pv 1) pe_int (fun _ _ => rfl)) pe_str (nomark _))
      (pss_one ps_never)
      pss_nil)
      (pss_cons (ps_if (pt_cmpR op_eq (pe_ix ix_tup (pv 1) pe_int (fun _ _ => rfl)) pe_str (nomark _))
      (pss_one ps_never)
      pss_nil)
      (pss_cons (ps_if (pt_cmpR op_eq (pe_ix ix_tup (pv 1) pe_int (fun _ _ => rfl)) pe_str (nomark _))
      (pss_one ps_never)
      pss_nil)
      (pss_cons (ps_if (pt_cmpR op_eq (pe_ix ix_tup (pv 1) pe_int (fun _ _ => rfl)) pe_str (nomark _))
      (pss_one ps_never)
      pss_nil)
      (pss_cons (ps_if (pt_cmpR op_eq (pe_ix ix_tup (pv 1) pe_int (fun _ _ => rfl)) pe_str (nomark _))
      (pss_one ps_never)
      pss_nil)
      (pss_cons (ps_if (pt_cmpR op_eq (pe_ix ix_tup (pv 1) pe_int (fun _ _ => rfl)) pe_str (nomark _))
      (pss_one (ps_ret (pe_meth (pv 0) T.cl_Line T.M_p_Line_doze (ok_p_Line_doze T) (hr.mono (by decide)) T.b_p_Line_doze .nil (passes_call (takes_of rfl rfl rfl rfl) (fun _ _ _ _ z => z)) (pa_cons (pe_ix ix_tup (pv 1) pe_int (fun _ _ => rfl)) pa_nil))))
      pss_nil)
      (pss_cons (ps_if (pt_cmpR op_eq (pe_ix ix_tup (pv 1) pe_int (fun _ _ => rfl)) pe_str (nomark _))
      (pss_one (ps_ret (pe_meth (pv 0) T.cl_Line T.M_p_Line_wake (ok_p_Line_wake T) (hr.mono (by decide)) T.b_p_Line_wake .nil (passes_call (takes_of rfl rfl rfl rfl) (fun _ _ _ _ z => z)) (pa_cons (pe_ix ix_tup (pv 1) pe_int (fun _ _ => rfl)) pa_nil))))
      pss_nil)
      (pss_cons (ps_if (pt_cmpR op_eq (pe_ix ix_tup (pv 1) pe_int (fun _ _ => rfl)) pe_str (nomark _))
      (pss_one (ps_ret (pe_meth (pv 0) T.cl_Line T.M_p_Line_fog (ok_p_Line_fog T) (hr.mono (by decide)) T.b_p_Line_fog .nil (passes_call (takes_of rfl rfl rfl rfl) (fun _ _ _ _ z => z)) (pa_cons (pe_ix ix_tup (pv 1) pe_int (fun _ _ => rfl)) pa_nil))))
      pss_nil)
      (pss_cons (ps_if (pt_cmpR op_eq (pe_ix ix_tup (pv 1) pe_int (fun _ _ => rfl)) pe_str (nomark _))
      (pss_one (ps_ret (pe_meth (pv 0) T.cl_Line T.M_p_Line_lift (ok_p_Line_lift T) (hr.mono (by decide)) T.b_p_Line_lift .nil (passes_call (takes_of rfl rfl rfl rfl) (fun _ _ _ _ z => z)) (pa_cons (pe_ix ix_tup (pv 1) pe_int (fun _ _ => rfl)) pa_nil))))
      pss_nil)
      (pss_cons (ps_if (pt_cmpR op_eq (pe_ix ix_tup (pv 1) pe_int (fun _ _ => rfl)) pe_str (nomark _))
      (pss_one ps_never)
      pss_nil)
      (pss_one ps_never)))))))))))), ?_⟩
    cases k with
    | false =>
      cases b with
      | true =>
        refine ⟨_, rfl, D, _, _, _, rfl, rfl, .inl (.inl hD), rfl, rfl, _, rfl, iteFo (by decide +kernel) ?_⟩
        refine ⟨_, rfl, D, _, _, _, rfl, rfl, .inl (.inl hD), rfl, rfl, _, rfl, iteFo (by decide +kernel) ?_⟩
        refine ⟨_, rfl, D, _, _, _, rfl, rfl, .inl (.inl hD), rfl, rfl, _, rfl, iteFo (by decide +kernel) ?_⟩
        refine ⟨_, rfl, D, _, _, _, rfl, rfl, .inl (.inl hD), rfl, rfl, _, rfl, iteFo (by decide +kernel) ?_⟩
        refine ⟨_, rfl, D, _, _, _, rfl, rfl, .inl (.inl hD), rfl, rfl, _, rfl, iteFo (by decide +kernel) ?_⟩
        refine ⟨_, rfl, D, _, _, _, rfl, rfl, .inl (.inl hD), rfl, rfl, _, rfl, iteFo (by decide +kernel) ?_⟩
        refine ⟨_, rfl, D, _, _, _, rfl, rfl, .inl (.inl hD), rfl, rfl, _, rfl, iteTo (by decide +kernel) ?_⟩
        exact ⟨_, rfl, L, dx, _, rfl, hl, fldL_no _ _ _ (by decide +kernel) (by decide +kernel) (by decide +kernel), _, rfl, D, _, _, _, rfl, rfl, .inl (.inl hD), rfl, L, a, c, m, rows false, rfl, hL.at_, hL.arms, row, len, lk, hp, x1, x2, q⟩
      | false =>
        refine ⟨_, rfl, D, _, _, _, rfl, rfl, .inl (.inl hD), rfl, rfl, _, rfl, iteFo (by decide +kernel) ?_⟩
        refine ⟨_, rfl, D, _, _, _, rfl, rfl, .inl (.inl hD), rfl, rfl, _, rfl, iteFo (by decide +kernel) ?_⟩
        refine ⟨_, rfl, D, _, _, _, rfl, rfl, .inl (.inl hD), rfl, rfl, _, rfl, iteFo (by decide +kernel) ?_⟩
        refine ⟨_, rfl, D, _, _, _, rfl, rfl, .inl (.inl hD), rfl, rfl, _, rfl, iteFo (by decide +kernel) ?_⟩
        refine ⟨_, rfl, D, _, _, _, rfl, rfl, .inl (.inl hD), rfl, rfl, _, rfl, iteFo (by decide +kernel) ?_⟩
        refine ⟨_, rfl, D, _, _, _, rfl, rfl, .inl (.inl hD), rfl, rfl, _, rfl, iteFo (by decide +kernel) ?_⟩
        refine ⟨_, rfl, D, _, _, _, rfl, rfl, .inl (.inl hD), rfl, rfl, _, rfl, iteFo (by decide +kernel) ?_⟩
        refine ⟨_, rfl, D, _, _, _, rfl, rfl, .inl (.inl hD), rfl, rfl, _, rfl, iteTo (by decide +kernel) ?_⟩
        exact ⟨_, rfl, L, dx, _, rfl, hl, fldL_no _ _ _ (by decide +kernel) (by decide +kernel) (by decide +kernel), _, rfl, D, _, _, _, rfl, rfl, .inl (.inl hD), rfl, L, a, c, m, rows false, rfl, hL.at_, hL.arms, row, len, lk, hp, x1, x2, q⟩
    | true =>
      cases b with
      | true =>
        refine ⟨_, rfl, D, _, _, _, rfl, rfl, .inl (.inl hD), rfl, rfl, _, rfl, iteFo (by decide +kernel) ?_⟩
        refine ⟨_, rfl, D, _, _, _, rfl, rfl, .inl (.inl hD), rfl, rfl, _, rfl, iteFo (by decide +kernel) ?_⟩
        refine ⟨_, rfl, D, _, _, _, rfl, rfl, .inl (.inl hD), rfl, rfl, _, rfl, iteFo (by decide +kernel) ?_⟩
        refine ⟨_, rfl, D, _, _, _, rfl, rfl, .inl (.inl hD), rfl, rfl, _, rfl, iteFo (by decide +kernel) ?_⟩
        refine ⟨_, rfl, D, _, _, _, rfl, rfl, .inl (.inl hD), rfl, rfl, _, rfl, iteFo (by decide +kernel) ?_⟩
        refine ⟨_, rfl, D, _, _, _, rfl, rfl, .inl (.inl hD), rfl, rfl, _, rfl, iteFo (by decide +kernel) ?_⟩
        refine ⟨_, rfl, D, _, _, _, rfl, rfl, .inl (.inl hD), rfl, rfl, _, rfl, iteFo (by decide +kernel) ?_⟩
        refine ⟨_, rfl, D, _, _, _, rfl, rfl, .inl (.inl hD), rfl, rfl, _, rfl, iteFo (by decide +kernel) ?_⟩
        refine ⟨_, rfl, D, _, _, _, rfl, rfl, .inl (.inl hD), rfl, rfl, _, rfl, iteTo (by decide +kernel) ?_⟩
        exact ⟨_, rfl, L, dx, _, rfl, hl, fldL_no _ _ _ (by decide +kernel) (by decide +kernel) (by decide +kernel), _, rfl, D, _, _, _, rfl, rfl, .inl (.inl hD), rfl, L, a, c, m, rows true, rfl, hL.at_, hL.arms, row, len, lk, hp, x1, x2, q⟩
      | false =>
        refine ⟨_, rfl, D, _, _, _, rfl, rfl, .inl (.inl hD), rfl, rfl, _, rfl, iteFo (by decide +kernel) ?_⟩
        refine ⟨_, rfl, D, _, _, _, rfl, rfl, .inl (.inl hD), rfl, rfl, _, rfl, iteFo (by decide +kernel) ?_⟩
        refine ⟨_, rfl, D, _, _, _, rfl, rfl, .inl (.inl hD), rfl, rfl, _, rfl, iteFo (by decide +kernel) ?_⟩
        refine ⟨_, rfl, D, _, _, _, rfl, rfl, .inl (.inl hD), rfl, rfl, _, rfl, iteFo (by decide +kernel) ?_⟩
        refine ⟨_, rfl, D, _, _, _, rfl, rfl, .inl (.inl hD), rfl, rfl, _, rfl, iteFo (by decide +kernel) ?_⟩
        refine ⟨_, rfl, D, _, _, _, rfl, rfl, .inl (.inl hD), rfl, rfl, _, rfl, iteFo (by decide +kernel) ?_⟩
        refine ⟨_, rfl, D, _, _, _, rfl, rfl, .inl (.inl hD), rfl, rfl, _, rfl, iteFo (by decide +kernel) ?_⟩
        refine ⟨_, rfl, D, _, _, _, rfl, rfl, .inl (.inl hD), rfl, rfl, _, rfl, iteFo (by decide +kernel) ?_⟩
        refine ⟨_, rfl, D, _, _, _, rfl, rfl, .inl (.inl hD), rfl, rfl, _, rfl, iteFo (by decide +kernel) ?_⟩
        refine ⟨_, rfl, D, _, _, _, rfl, rfl, .inl (.inl hD), rfl, rfl, _, rfl, iteTo (by decide +kernel) ?_⟩
        exact ⟨_, rfl, L, dx, _, rfl, hl, fldL_no _ _ _ (by decide +kernel) (by decide +kernel) (by decide +kernel), _, rfl, D, _, _, _, rfl, rfl, .inl (.inl hD), rfl, L, a, c, m, rows true, rfl, hL.at_, hL.arms, row, len, lk, hp, x1, x2, q⟩
def sp_l_tried (P : Program) (w : World) (K : PySem.W.Frag) : Sp := fun vs H Q _ => ∃ (L D : Addr) (a : LA) (c : LC) (rows : Bool → List Bool) (k b : Bool) (m : Int), vs = [.ref L, .ref D] ∧ H D = some (.tup [.str (skyN k b), .int m]) ∧ LineS P w K H L a c rows ∧ c.past.length < 9000 ∧
  (∀ x, skyDue c.n k b m (rows k) = some x → ∀ r H', H r = none → Kp H H' → H' r = some (.tup (dueT (some x))) → Q (.ref r) H') ∧
  (skyDue c.n k b m (rows k) = none → ∀ r f H', H r = none → H f = none → KpE (footL L a c.n) H H' → LineS P w K H' L (a.futA f) (skyC c k b m) (skyRows rows k b m) → H' r = some (.tup (dueT none)) → Q (.ref r) H')
theorem ok_l_tried (T : Txt K mg) : FnOk P w K mg base CX0 13 T.f_l_tried T.d_l_tried ["_law_line", "_law_deed"] (sp_l_tried P w K) := by
  refine T.F_l_tried.ok sc_l_tried (fun vs H Q E h => ?_) (fun cdv A outer s H vs Q E hr h => ?_)
  · obtain ⟨L, D, a, c, rows, k, b, m, rfl, _⟩ := h
    rfl
  · obtain ⟨L, D, a, c, rows, k, b, m, rfl, hD, hL, hp, kN, kY⟩ := h
    refine ⟨_, (pss_cons (ps_set (i := 2) sc_l_tried.nd rfl (by first | exact Or.inl rfl | exact Or.inr rfl) (pe_tup (pa_cons pe_str (pa_cons pe_str pa_nil))))
      (pss_cons (ps_try_as (i := 3) rfl rfl sc_l_tried.nd rfl rfl ⟨rfl, by decide, Or.inl T.g_MastError⟩ takes0
      (fun W pn xe tk _ => (pss_one (ps_set (i := 2) sc_l_tried.nd rfl (by first | exact Or.inl rfl | exact Or.inr rfl) (pe_tup (pa_cons pe_str (pa_cons (pe_callS (k := 12) (ok_l_do (P := P) (w := w) (base := base) T) (hr.mono (by decide)) rfl T.g_l_do T.F_l_do.kp T.b_l_do (fun σ => passAt tk σ) (pa_cons (pv 0) (pa_cons (pv 1) pa_nil))) pa_nil))))))
      (fun a oe cls d pn hz hf => (pss_one (ps_set (i := 2) sc_l_tried.nd rfl (by first | exact Or.inl rfl | exact Or.inr rfl) (pe_tup (pa_cons pe_str (pa_cons (pe_callE (ok_l_kind T) (hr.mono (by decide)) hz hf rfl T.g_l_kind T.F_l_kind.kp T.b_l_kind (pa_cons (pv 3) pa_nil)) pa_nil)))))))
      (pss_one (ps_ret (pv 2))))), ?_⟩
    refine ⟨szl (by show 2 ≤ 100000; decide), fun p1 n1 => ?_⟩
    generalize h_H1 : upd H p1 _ = H1
    have k_H1 : Kp H H1 := by rw [← h_H1]; exact .new n1
    have q_H1 := (congrFun h_H1 p1).symm.trans upd_same
    clear h_H1
    have hL1 := hL.kp k_H1
    have hD1 := k_H1.same _ _ rfl hD
    have ref : ∀ (i : Nat), i < 23 → skyDue c.n k b m (rows k) = some (kn i) → ∀ H2, Kp H1 H2 → ∀ (r : Addr) (H3 : Hp), Kp H2 H3 → H3 r = none → Q (.ref r) (upd H3 r (.tup [.str "no", .str (kn i)])) := fun i hi due H2 k2 r H3 k3 nr => by
      have kall := (k_H1.trans k2).trans k3
      exact kN _ due r _ (kall.free _ nr) (kall.trans (.new nr)) upd_same
    refine ⟨_, rfl, _, rfl, L, D, a, c, rows, k, b, m, rfl, hD1, hL1, hp, fun c1 => ?_, fun c1 c2 H2 k2 => ?_, fun c1 c2 f H2 nf k2 l2 => ?_⟩
    · refine ⟨true, kind_mast T (i := 4) (by decide), fun _ e ne => ?_, fun q => Bool.noConfusion q⟩
      refine ⟨_, rfl, 4, rfl, by decide, rfl, rfl, fun H3 k3 => ⟨szl (by show 2 ≤ 100000; decide), fun r nr => ?_⟩⟩
      exact ⟨_, rfl, ref 4 (by decide) (if_pos c1) _ (.refl _) r _ k3 nr⟩
    · have hk : PySem.W.exmOne K (.ref (He.ga K (skyE k b))) (.ref T.a_MastError) = some true := by
        rw [← skyI_kn]
        exact kind_mast T (skyI_lt k b)
      refine ⟨true, hk, fun _ e ne => ?_, fun q => Bool.noConfusion q⟩
      refine ⟨_, rfl, skyI k b, rfl, skyI_lt k b, by rw [skyI_kn], rfl, fun H3 k3 => ⟨szl (by show 2 ≤ 100000; decide), fun r nr => ?_⟩⟩
      exact ⟨_, rfl, ref _ (skyI_lt k b) (by unfold skyDue; rw [if_neg (fun z => z c1), if_pos c2, skyI_kn]) _ k2 r _ k3 nr⟩
    · refine ⟨szl (by show 2 ≤ 100000; decide), fun r nr => ?_⟩
      have kall := (KpE.of (S := footL L a c.n) k_H1).trans k2
      have l3 := (hL1.step c1 l2).kp (.new (o := .tup [.str "told", .non]) nr)
      exact ⟨_, rfl, kY (by unfold skyDue; rw [if_neg (fun z => z c1), if_neg (by rw [c2]; cases b <;> decide)]) r f _ (kall.free _ nr) (k_H1.free _ nf) (kall.trans (KpE.of (.new nr))) l3 upd_same⟩
/-! ### law -/
theorem LineAt.loose {P : Program} {w : World} {K : PySem.W.Frag} {H : Hp} {L : Addr} {a : LA} {c : LC} (l : LineAt P w K H L a c) : ∀ b ∈ footL L a c.n, ∀ u, H b = some u → Loose u := fun b hb u e => by
  rcases List.mem_append.mp hb with hb | hb
  · simp only [List.mem_cons, List.not_mem_nil, or_false] at hb
    rcases hb with rfl | rfl | rfl | rfl | rfl
    · obtain ⟨dx, h⟩ := l.ob
      rw [h] at e
      cases e
      trivial
    · obtain ⟨vs, h, _⟩ := l.past
      rw [h] at e
      cases e
      trivial
    · obtain ⟨vs, h, _⟩ := l.fut
      rw [h] at e
      cases e
      trivial
    · rw [l.st.book.pl] at e
      cases e
      trivial
    · rw [l.st.book.wd] at e
      cases e
      trivial
  · exact l.st.loose b hb u e
theorem foot_fut {L f b : Addr} {a : LA} {n : Nat} (h : b ∈ footL L (a.futA f) n) : b = f ∨ b ∈ footL L a n := by
  unfold footL at h ⊢
  rcases List.mem_append.mp h with h | h
  · simp only [List.mem_cons, List.not_mem_nil, or_false, LA.futA] at h
    rcases h with rfl | rfl | rfl | rfl | rfl
    · exact .inr (by simp)
    · exact .inr (by simp)
    · exact .inl rfl
    · exact .inr (by simp)
    · exact .inr (by simp)
  · exact .inr (List.mem_append.mpr (.inr h))
def sp_law (K : PySem.W.Frag) : Sp := fun vs H Q _ => ∃ (a : Addr) (ns : List Int), vs = [.ref a] ∧ SqL K H a (ns.map V.int) ∧ ns.length ≤ 63 ∧ ∀ H', Q (.bl true) H'
def dueD : Option Str → PyData
  | some x => .tuple [.str "no", .str x]
  | none => .tuple [.str "told", .none]
theorem due_dp {K : PySem.W.Frag} {H : Hp} {r : Addr} : ∀ {d : Option Str}, H r = some (.tup (dueT d)) → Dp K H (.ref r) (dueD d)
  | some _, h => .tup (.inl (.inl h)) (.cons (.str _) (.cons (.str _) .nil))
  | none, h => .tup (.inl (.inl h)) (.cons (.str _) (.cons .non .nil))
theorem due_dn : ∀ (d : Option Str), Dn 4 (dueD d)
  | some x => .tup (fun d hd => by
      simp only [List.mem_cons, List.not_mem_nil, or_false] at hd
      rcases hd with rfl | rfl
      · exact .str _ _
      · exact .str _ _) (by show 2 ≤ 10000; decide)
  | none => .tup (fun d hd => by
      simp only [List.mem_cons, List.not_mem_nil, or_false] at hd
      rcases hd with rfl | rfl
      · exact .str _ _
      · exact .non _) (by show 2 ≤ 10000; decide)
def looksD (rows : Bool → List Bool) : PyData := .list [dI (marks (rows false)), dI (marks (rows true))]
theorem dI_dn {n : Nat} {xs : List Int} (h : xs.length ≤ 10000) : Dn (n + 2) (dI xs) := .lst (fun d hd => by
  obtain ⟨x, _, rfl⟩ := List.mem_map.mp hd
  exact .int _ _) (by rw [List.length_map]; exact h)
theorem marks_len (bs : List Bool) : (marks bs).length ≤ bs.length := fil_len _ _
theorem looks_dn {rows : Bool → List Bool} (h : ∀ k, (rows k).length ≤ 1000) : Dn 4 (looksD rows) := .lst (fun d hd => by
  have h0 := marks_len (rows false)
  have h1 := marks_len (rows true)
  have := h false
  have := h true
  simp only [List.mem_cons, List.not_mem_nil, or_false] at hd
  rcases hd with rfl | rfl
  · exact dI_dn (by omega)
  · exact dI_dn (by omega)) (by show 2 ≤ 10000; decide)
theorem sky_at (x : Int) : ∃ k b, atI [V.str "doze", V.str "wake", V.str "fog", V.str "lift", V.str "doze", V.str "fog"] (x % 6) = some (.str (skyN k b)) := by
  have h1 := Int.emod_nonneg x (b := 6) (by decide)
  have h2 := Int.emod_lt_of_pos x (b := 6) (by decide)
  rcases (show x % 6 = 0 ∨ x % 6 = 1 ∨ x % 6 = 2 ∨ x % 6 = 3 ∨ x % 6 = 4 ∨ x % 6 = 5 by omega) with e | e | e | e | e | e <;> rw [e]
  · exact ⟨false, true, rfl⟩
  · exact ⟨false, false, rfl⟩
  · exact ⟨true, true, rfl⟩
  · exact ⟨true, false, rfl⟩
  · exact ⟨false, true, rfl⟩
  · exact ⟨true, true, rfl⟩
/-- what stands at each round -/
structure Sat (P : Program) (w : World) (K : PySem.W.Frag) (n : Nat) (L S : Addr) (G H : Hp) (i : Nat) (a : LA) (c : LC) (rows : Bool → List Bool) (ad : Bool → Addr) : Prop where
  kp : Kp G H
  ln : LineS P w K H L a c rows
  nn : c.n = n
  past : c.past.length ≤ i
  sk : SkySt H S ad n rows
  fF : ∀ b ∈ footL L a n, G b = none
  fS : ∀ b ∈ [S, ad false, ad true], G b = none
  dj : ∀ b ∈ [S, ad false, ad true], b ∉ footL L a n
theorem Sat.to {P : Program} {w : World} {K : PySem.W.Frag} {n : Nat} {L S : Addr} {G H H' : Hp} {i : Nat} {a : LA} {c : LC} {rows : Bool → List Bool} {ad : Bool → Addr} (s : Sat P w K n L S G H i a c rows ad) (k : Kp H H') : Sat P w K n L S G H' i a c rows ad :=
  ⟨s.kp.trans k, s.ln.kp k, s.nn, s.past, s.sk.kp k, s.fF, s.fS, s.dj⟩
theorem Sat.sky {P : Program} {w : World} {K : PySem.W.Frag} {n : Nat} {L S : Addr} {G H H' : Hp} {i : Nat} {a : LA} {c : LC} {rows rows' : Bool → List Bool} {ad ad' : Bool → Addr} (s : Sat P w K n L S G H i a c rows ad) (e : KpE [S, ad false, ad true] H H') (h : ∀ x, ad' x = ad x ∨ H (ad' x) = none) (sk : SkySt H' S ad' n rows') :
    Kp G H' ∧ LineS P w K H' L a c rows ∧ (∀ b ∈ [S, ad' false, ad' true], G b = none) ∧ ∀ b ∈ [S, ad' false, ad' true], b ∉ footL L a n := by
  have nS : ∀ b ∈ footL L a n, b ∉ [S, ad false, ad true] := fun b hb hb2 => s.dj b hb2 hb
  have lo : ∀ b ∈ [S, ad false, ad true], ∀ u, H b = some u → Loose u := fun b hb u hu => by
    simp only [List.mem_cons, List.not_mem_nil, or_false] at hb
    rcases hb with rfl | rfl | rfl
    · rw [s.sk.st] at hu; cases hu; trivial
    · rw [s.sk.at_ false] at hu; cases hu; trivial
    · rw [s.sk.at_ true] at hu; cases hu; trivial
  have nO : ∀ {x : Addr} {u : HO}, H x = some u → (∀ kvs, u ≠ .dK kvs) → (∀ vs, u ≠ .lst vs) → x ∉ [S, ad false, ad true] := fun {x u} hx h1 h2 m => by
    simp only [List.mem_cons, List.not_mem_nil, or_false] at m
    rcases m with rfl | rfl | rfl
    · rw [s.sk.st] at hx; cases hx; exact h1 _ rfl
    · rw [s.sk.at_ false] at hx; cases hx; exact h2 _ rfl
    · rw [s.sk.at_ true] at hx; cases hx; exact h2 _ rfl
  have l := s.ln.at_
  have fb : ∀ b, b ∈ footL L a n → b ∉ [S, ad false, ad true] := nS
  have en := s.nn
  have inF : ∀ b ∈ ([L, a.p, a.f, a.d1, a.d2] : List Addr), b ∈ footL L a n := fun b hb => List.mem_append.mpr (.inl hb)
  have adF : ∀ k ∈ keysOf c.n, a.ad k ∈ footL L a n := fun k hk => List.mem_append.mpr (.inr (List.mem_map.mpr ⟨k, by rw [← en]; exact hk, rfl⟩))
  have cas : ∀ x, ad' x = S ∨ ad' x ∈ [S, ad false, ad true] ∨ H (ad' x) = none := fun x => by
    rcases h x with z | z
    · refine .inr (.inl ?_)
      rw [z]
      cases x <;> simp
    · exact .inr (.inr z)
  have all : ∀ b ∈ [S, ad' false, ad' true], b ∈ [S, ad false, ad true] ∨ H b = none := fun b hb => by
    simp only [List.mem_cons, List.not_mem_nil, or_false] at hb
    rcases hb with rfl | rfl | rfl
    · exact .inl List.mem_cons_self
    · rcases h false with z | z
      · rw [z]; exact .inl (by simp)
      · exact .inr z
    · rcases h true with z | z
      · rw [z]; exact .inl (by simp)
      · exact .inr z
  refine ⟨KpE.kp s.kp e s.fS, ⟨⟨?_, ?_, ?_, ?_, l.nlp, l.nlf, l.ap, l.pf⟩, s.ln.arms, s.ln.row, s.ln.len, s.ln.few⟩, fun b hb => ?_, fun b hb hb2 => ?_⟩
  · obtain ⟨dx, h1⟩ := l.ob
    exact ⟨dx, e.same _ _ rfl (fb _ (inF _ (by simp))) h1⟩
  · obtain ⟨dx, h1⟩ := l.st.ob
    obtain ⟨ky, h2, _⟩ := l.st.rows.ob
    obtain ⟨dx2, h3⟩ := l.st.book.ob
    exact l.st.kpE e lo (nO h1 (by intro g z; cases z) (by intro g z; cases z)) (nO h2 (by intro g z; cases z) (by intro g z; cases z)) (fun k hk => fb _ (adF k hk)) (nO h3 (by intro g z; cases z) (by intro g z; cases z)) (fb _ (inF _ (by simp))) (fb _ (inF _ (by simp)))
  · obtain ⟨vs, h1, h2⟩ := l.past
    exact ⟨vs, e.same _ _ rfl (fb _ (inF _ (by simp))) h1, DpAll.tk (.kpE e lo) l.nlp h2⟩
  · obtain ⟨vs, h1, h2⟩ := l.fut
    exact ⟨vs, e.same _ _ rfl (fb _ (inF _ (by simp))) h1, DpAll.tk (.kpE e lo) l.nlf h2⟩
  · rcases all b hb with m | z
    · exact s.fS b m
    · exact s.kp.free _ z
  · rcases all b hb with m | z
    · exact s.dj b m hb2
    · have := l.alloc b (by rw [en]; exact hb2)
      exact this z
theorem reps (n : Nat) : List.replicate n (PyData.bool false) = (List.replicate n false).map PyData.bool := List.map_replicate.symm
theorem ok_law (T : Txt K mg) {f : Addr} {fd : FuncData} (F : Fun K "law" "law" s_law f fd) : FnOk P w K mg base CX0 20 f fd ["_law_script"] (sp_law K) := by
  refine F.ok sc_law (fun vs H Q E h => ?_) (fun cdv A outer s H vs Q E hr h => ?_)
  · obtain ⟨a, ns, rfl, _⟩ := h
    rfl
  · obtain ⟨sa, ns, rfl, hS, hlen, k⟩ := h
    have hu := hu_of hr
    refine ⟨_, (Evl.pss_cut (ps_set (i := 1) sc_law.nd rfl (by first | exact Or.inl rfl | exact Or.inr rfl) (pe_op op_add pe_int (pe_op op_mod (pe_call (ok_l_cell T) (hr.mono (by decide)) rfl T.g_l_cell T.F_l_cell.kp T.b_l_cell .nil pass0 (pa_cons (pv 0) (pa_cons pe_int pa_nil))) pe_int)))
      (pss_cons (ps_set (i := 2) sc_law.nd rfl (by first | exact Or.inl rfl | exact Or.inr rfl) (pe_make T.K_Line (ok_p_Line_init T) (hr.mono (by decide)) rfl T.g_Line T.b_p_Line_init .nil pass0 (pa_cons (pv 1) pa_nil)))
      (pss_cons (ps_set (i := 3) sc_law.nd rfl (by first | exact Or.inl rfl | exact Or.inr rfl) (pe_disp (pps_cons pe_str (pv 1) (pps_cons pe_str (pe_lst pa_nil) (pps_cons pe_str (pe_lst pa_nil) pps_nil))) rfl rfl (by intro z; cases z) (by decide)))
      (pss_cons (ps_for PassesOwn.never rfl (pi_range2 (by rfl) T.m_range (pa_cons pe_int (pa_cons (pe_callB (call_max2 rfl) (by rfl) T.m_max (by decide +kernel) (pa_cons pe_int (pa_cons (pe_callB (call_min2 rfl) (by rfl) T.m_min (by decide +kernel) (pa_cons pe_int (pa_cons (pe_callB call_len_seq (by rfl) T.m_len PySem.boot_len (pa_cons (pv 0) pa_nil)) pa_nil))) pa_nil))) pa_nil))) (pg_name (i := 4) sc_law.nd rfl (by first | exact Or.inl rfl | exact Or.inr rfl))
      (pss_cons (ps_set (i := 5) sc_law.nd rfl (by first | exact Or.inl rfl | exact Or.inr rfl) (pe_call (ok_l_row T) (hr.mono (by decide)) rfl T.g_l_row T.F_l_row.kp T.b_l_row .nil pass0 (pa_cons (pe_call (ok_l_cell T) (hr.mono (by decide)) rfl T.g_l_cell T.F_l_cell.kp T.b_l_cell .nil pass0 (pa_cons (pv 0) (pa_cons (pv 4) pa_nil))) (pa_cons pe_int (pa_cons pe_int pa_nil)))))
      (pss_cons (ps_set (i := 6) sc_law.nd rfl (by first | exact Or.inl rfl | exact Or.inr rfl) (pe_op op_sub (pe_op op_mod (pe_ix ix_list (pv 5) pe_int (fun _ _ => rfl)) (pe_op op_add (pv 1) pe_int)) pe_int))
      (Evl.pss_cut (ps_if (pt_cmpR op_eq (pe_op op_mod (pe_ix ix_list (pv 5) pe_int (fun _ _ => rfl)) pe_int) pe_int (nomark _))
      (pss_one (ps_set (i := 6) sc_law.nd rfl (by first | exact Or.inl rfl | exact Or.inr rfl) (pe_ix ix_tup (pe_tup (pa_cons (pe_op op_pow pe_int pe_int) (pa_cons (pe_op op_sub pe_int (pe_op op_pow pe_int pe_int)) pa_nil))) (pe_op op_mod (pe_ix ix_list (pv 5) pe_int (fun _ _ => rfl)) pe_int) (fun _ _ => rfl))))
      pss_nil)
      (pss_cons (ps_set (i := 7) sc_law.nd rfl (by first | exact Or.inl rfl | exact Or.inr rfl) (pe_tup (pa_cons (pe_ix ix_tup (pe_tup (pa_cons pe_str (pa_cons pe_str (pa_cons pe_str (pa_cons pe_str (pa_cons pe_str (pa_cons pe_str pa_nil))))))) (pe_op op_mod (pe_ix ix_list (pv 5) pe_int (fun _ _ => rfl)) pe_int) (fun _ _ => rfl)) (pa_cons (pv 6) pa_nil))))
      (pss_cons (ps_set (i := 8) sc_law.nd rfl (by first | exact Or.inl rfl | exact Or.inr rfl) (pe_call (ok_l_sky_deed T) (hr.mono (by decide)) rfl T.g_l_sky_deed T.F_l_sky_deed.kp T.b_l_sky_deed .nil pass0 (pa_cons (pv 3) (pa_cons (pv 7) pa_nil))))
      (Evl.pss_cut (ps_if (pt_not (pt_val (pe_call (ok_l_like T 4) (hr.mono (by decide)) rfl T.g_l_like T.F_l_like.kp T.b_l_like .nil pass0 (pa_cons (pe_call (ok_l_tried T) (hr.mono (by decide)) rfl T.g_l_tried T.F_l_tried.kp T.b_l_tried .nil pass0 (pa_cons (pv 2) (pa_cons (pv 7) pa_nil))) (pa_cons (pv 8) pa_nil)))))
      (pss_one (ps_ret pe_bl))
      pss_nil)
      (pss_cons (ps_set (i := 9) sc_law.nd rfl (by first | exact Or.inl rfl | exact Or.inr rfl) (pe_lst (pa_cons (pe_meth0 (pv 2) T.cl_Line T.M_p_Line_asleep (ok_p_Line_asleep T) (hr.mono (by decide)) T.b_p_Line_asleep .nil pass0) (pa_cons (pe_meth0 (pv 2) T.cl_Line T.M_p_Line_fogs (ok_p_Line_fogs T) (hr.mono (by decide)) T.b_p_Line_fogs .nil pass0) pa_nil))))
      (Evl.pss_cut (ps_if (PW.pt (pw_and (pt_cmpR op_gt (pe_op op_mod (pe_ix ix_list (pv 5) pe_int (fun _ _ => rfl)) pe_int) pe_int (nomark _)) (pw_and1 (pt_not (pt_val (pe_call (ok_l_like T 4) (hr.mono (by decide)) rfl T.g_l_like T.F_l_like.kp T.b_l_like .nil pass0 (pa_cons (pv 9) (pa_cons (pe_lst (pa_cons (pe_dget hu (pv 3) pe_str (fun _ _ => rfl)) (pa_cons (pe_dget hu (pv 3) pe_str (fun _ _ => rfl)) pa_nil))) pa_nil))))))))
      (pss_one (ps_ret pe_bl))
      pss_nil)
      (pss_cons (ps_expr (pe_bm PySem.F.plainAttrs_list PySem.F.slot_list_append PySem.F.type_list_append mt_append (pe_ix ix_list (pv 9) pe_int (fun _ _ => rfl)) (pa_cons pe_int pa_nil)))
      (pss_one (ps_expr (pe_bm PySem.F.plainAttrs_list PySem.F.slot_list_append PySem.F.type_list_append mt_append (pe_ix ix_list (pv 9) pe_int (fun _ _ => rfl)) (pa_cons pe_int pa_nil))))))))))))))
      (pss_one (ps_ret (pe_call (ok_l_like T 4) (hr.mono (by decide)) rfl T.g_l_like T.F_l_like.kp T.b_l_like .nil pass0 (pa_cons (pe_lst (pa_cons (pe_meth0 (pv 2) T.cl_Line T.M_p_Line_asleep (ok_p_Line_asleep T) (hr.mono (by decide)) T.b_p_Line_asleep .nil pass0) (pa_cons (pe_meth0 (pv 2) T.cl_Line T.M_p_Line_fogs (ok_p_Line_fogs T) (hr.mono (by decide)) T.b_p_Line_fogs .nil pass0) pa_nil))) (pa_cons (pe_lst (pa_cons (pe_dget hu (pv 3) pe_str (fun _ _ => rfl)) (pa_cons (pe_dget hu (pv 3) pe_str (fun _ _ => rfl)) pa_nil))) pa_nil))))))))), ?_⟩
    refine ⟨fun σ' H' => ∃ n : Nat, σ' = [some (.ref sa), some (.int (n : Int)), none, none, none, none, none, none, none, none] ∧ 2 ≤ n ∧ n ≤ 12 ∧ H' = H, ?_, ?_⟩
    · refine ⟨_, rfl, sa, ns, 0, rfl, hS, by decide, _, _, rfl, rfl, (by show (0 : Int) < 11; decide), _, _, rfl, rfl, ?_⟩
      have h0 := Int.emod_nonneg (cellV ns 0) (b := 11) (by decide)
      have h1 := Int.emod_lt_of_pos (cellV ns 0) (b := 11) (by decide)
      refine ⟨(2 + cellV ns 0 % 11).toNat, ?_, by omega, by omega, rfl⟩
      rw [Int.toNat_of_nonneg (by omega)]
      rfl
    rintro σ' H' ⟨n, rfl, hn1, hn2, rfl⟩
    refine ⟨_, rfl, fun L dx nL ndx nn => ?_⟩
    refine ⟨L, dx, n, rfl, upd_same, hn1, hn2, fun a H1 hF e1 hL => ⟨rfl, ?_⟩⟩
    have k1 : Kp H' H1 := kp_made nL ndx nn e1
    have hF0 : ∀ b ∈ footL L a n, H' b = none := fun b hb => by
      rcases hF b hb with rfl | z
      · exact nL
      · exact ((Kp.new ndx).trans (.new (by rw [upd_ne nn.symm]; exact nL))).free _ z
    have hL : LineAt P w K H1 L a (newC n) := hL
    clear e1 hF
    intro S nS
    have hS0 : upd H1 S (HO.dK []) S = some (HO.dK []) := upd_same
    have kS : Kp H1 (upd H1 S (HO.dK [])) := .new nS
    generalize upd H1 S (HO.dK []) = H2 at hS0 kS ⊢
    refine ⟨_, rfl, Nat.zero_le _, fun A0 nA0 => ?_⟩
    generalize h_H3 : upd H2 A0 _ = H3
    have k_H3 : Kp H2 H3 := by rw [← h_H3]; exact .new nA0
    have q_H3 := (congrFun h_H3 A0).symm.trans upd_same
    clear h_H3
    refine ⟨Nat.zero_le _, fun A1 nA1 => ?_⟩
    generalize h_H4 : upd H3 A1 _ = H4
    have k_H4 : Kp H3 H4 := by rw [← h_H4]; exact .new nA1
    have q_H4 := (congrFun h_H4 A1).symm.trans upd_same
    clear h_H4
    have kk4 := (k_H3.trans k_H4)
    have hS4 := kk4.same _ _ rfl hS0
    have q04 := k_H4.same _ _ rfl q_H3
    refine ⟨hS4, [(Sum.inr "masts", .int (n : Int)), (Sum.inr "asleep", .ref A0), (Sum.inr "fogs", .ref A1)], rfl, (by show 3 ≤ 15; decide), ?_⟩
    have k14 := kS.trans kk4
    have k15 : Kp H1 (upd H4 S (.dK (mergeK [] [(Sum.inr "masts", .int (n : Int)), (Sum.inr "asleep", .ref A0), (Sum.inr "fogs", .ref A1)]))) := k14.mut nS
    have q5S : upd H4 S (.dK (mergeK [] [(Sum.inr "masts", .int (n : Int)), (Sum.inr "asleep", .ref A0), (Sum.inr "fogs", .ref A1)])) S = some (.dK [(Sum.inr "masts", .int (n : Int)), (Sum.inr "asleep", .ref A0), (Sum.inr "fogs", .ref A1)]) := upd_same
    have q50 : upd H4 S (.dK (mergeK [] [(Sum.inr "masts", .int (n : Int)), (Sum.inr "asleep", .ref A0), (Sum.inr "fogs", .ref A1)])) A0 = some (.lst []) := by rw [upd_ne (ne_of q04 hS4 (by intro z; cases z))]; exact q04
    have q51 : upd H4 S (.dK (mergeK [] [(Sum.inr "masts", .int (n : Int)), (Sum.inr "asleep", .ref A0), (Sum.inr "fogs", .ref A1)])) A1 = some (.lst []) := by rw [upd_ne (ne_of q_H4 hS4 (by intro z; cases z))]; exact q_H4
    generalize upd H4 S (.dK (mergeK [] [(Sum.inr "masts", .int (n : Int)), (Sum.inr "asleep", .ref A0), (Sum.inr "fogs", .ref A1)])) = H5 at k15 q5S q50 q51 ⊢
    have ne01 : A0 ≠ A1 := fun z => by
      rw [← z, q_H3] at nA1
      cases nA1
    have f0 : H1 A0 = none := kS.free _ nA0
    have f1 : H1 A1 = none := kS.free _ (k_H3.free _ nA1)
    have al := hL.alloc
    have mk0 : ∀ m : Nat, marks (List.replicate m false) = [] := fun m => by
      cases e : marks (List.replicate m false) with
      | nil => rfl
      | cons x r =>
        exfalso
        obtain ⟨p, _, hp, hb⟩ := marks_iff.mp (show x ∈ marks (List.replicate m false) by rw [e]; exact List.mem_cons_self)
        rw [List.getD_eq_getElem?_getD, List.getElem?_replicate] at hb
        split at hb <;> cases hb
    have fF1 : ∀ b ∈ [S, A0, A1], H1 b = none := fun b hb => by
      simp only [List.mem_cons, List.not_mem_nil, or_false] at hb
      rcases hb with rfl | rfl | rfl
      · exact nS
      · exact f0
      · exact f1
    have sat0 : Sat P w K n L S H' H5 0 a (newC n) (fun k => List.replicate (n - (kL k).toNat) false) (fun k => if k = true then A1 else A0) := by
      refine ⟨k1.trans k15, ⟨hL.kp k15, List.length_replicate, fun k => ?_, fun k => ?_, hn2⟩, rfl, Nat.le_refl _, ⟨q5S, fun k => ?_, ne01, fun k => ?_⟩, hF0, fun b hb => k1.free _ (fF1 b hb), fun b hb hb2 => al b hb2 (fF1 b hb)⟩
      · cases k
        · exact reps n
        · exact reps (n - 1)
      · rw [List.length_replicate]
        show ((n - (kL k).toNat : Nat) : Int) = (n : Int) - kL k
        cases k <;> simp only [kL] <;> omega
      · rw [mk0]
        cases k
        · exact q50
        · exact q51
      · rw [List.length_replicate]
        cases k <;> simp only [kL] <;> omega
    generalize (fun k => List.replicate (n - (kL k).toNat) false) = rows0 at sat0
    generalize (fun k => if k = true then A1 else A0) = ad0 at sat0
    clear q51 q50 q5S
    refine ⟨_, rfl, sa, _, rfl, .inl (sat0.kp.sqL hS), 61, _, rfl, 16, _, rfl, _, _, rfl, ?_, ?_⟩
    · rw [List.length_map]
      split <;> split <;> omega
    refine for_range (lo := 1) (n := ((if (if (((ns.map V.int).length : Nat) : Int) < 61 then (((ns.map V.int).length : Nat) : Int) else 61) > 16 then (if (((ns.map V.int).length : Nat) : Int) < 61 then (((ns.map V.int).length : Nat) : Int) else 61) else 16) - 1).toNat) (fun i σ G => ∃ (a : LA) (c : LC) (rows : Bool → List Bool) (ad : Bool → Addr) (y4 y5 y6 y7 y8 y9 : Option V), σ = [some (.ref sa), some (.int (n : Int)), some (.ref L), some (.ref S), y4, y5, y6, y7, y8, y9] ∧ Sat P w K n L S H' G i a c rows ad)
      ⟨a, _, rows0, ad0, none, none, none, none, none, none, rfl, sat0⟩ ?_ ?_
    · rintro i σ G hi ⟨a, c, rows, ad, y4, y5, y6, y7, y8, y9, rfl, st⟩
      have hi : i < 60 := by
        rw [List.length_map] at hi
        revert hi
        split <;> split <;> omega
      refine ⟨_, rfl, _, rfl, sa, ns, 1 + i, rfl, st.kp.sqL hS, by omega, _, _, _, rfl, by decide, by decide, by decide, by decide, fun nums p1 G1 np1 kg1 qp1 dr => ?_⟩
      obtain ⟨hnl, hnb⟩ := dr
      have n0 : 0 < nums.length := by omega
      have n1 : 1 < nums.length := by omega
      have n2 : 2 < nums.length := by omega
      refine ⟨_, rfl, p1, _, _, _, rfl, rfl, .inl (.inl qp1), at_int (j := 1) n1, _, rfl, _, _, rfl, rfl, _, _, rfl, rfl, (by show (0 : Int) < (n : Int) + 3; omega), _, _, rfl, rfl, ?_⟩
      refine ⟨fun σ' G2 => ∃ m : Int, σ' = [some (.ref sa), some (.int (n : Int)), some (.ref L), some (.ref S), some (.int (1 + (i : Int))), some (.ref p1), some (.int m), y7, y8, y9] ∧ Kp G1 G2, ?_, ?_⟩
      · refine ⟨_, rfl, p1, _, _, _, rfl, rfl, .inl (.inl qp1), at_int (j := 2) n2, _, _, rfl, rfl, (by show (0 : Int) < 29; decide), rfl, _, rfl, iteB (fun c => ?_) (fun c => ?_)⟩
        · refine ⟨_, _, rfl, rfl, ⟨by decide, by decide, by decide⟩, _, _, rfl, rfl, ⟨by decide, by decide, by decide⟩, _, _, rfl, rfl, szl (by show 2 ≤ 100000; decide), fun pt npt => ?_⟩
          generalize h_G2 : upd G1 pt _ = G2
          have k_G2 : Kp G1 G2 := by rw [← h_G2]; exact .new npt
          have q_G2 := (congrFun h_G2 pt).symm.trans upd_same
          clear h_G2
          have e0 := Int.emod_nonneg nums[1] (b := 2) (by decide)
          have e1 := Int.emod_lt_of_pos nums[1] (b := 2) (by decide)
          rcases (show nums[1] % 2 = 0 ∨ nums[1] % 2 = 1 by omega) with e | e
          · refine ⟨_, rfl, p1, _, _, _, rfl, rfl, .inl (.inl (k_G2.same _ _ rfl qp1)), at_int (j := 1) n1, _, _, rfl, rfl, (by show (0 : Int) < 2; decide), pt, _, _, _, rfl, rfl, .inl (.inl q_G2), (by rw [e]; rfl), _, rfl, k_G2⟩
          · refine ⟨_, rfl, p1, _, _, _, rfl, rfl, .inl (.inl (k_G2.same _ _ rfl qp1)), at_int (j := 1) n1, _, _, rfl, rfl, (by show (0 : Int) < 2; decide), pt, _, _, _, rfl, rfl, .inl (.inl q_G2), (by rw [e]; rfl), _, rfl, k_G2⟩
        · exact ⟨_, rfl, .refl _⟩
      rintro σ' G2 ⟨m, rfl, kg2⟩
      have qp2 := kg2.same _ _ rfl qp1
      obtain ⟨kb, b, ekb⟩ := sky_at nums[0]
      refine ⟨szl (by show 6 ≤ 100000; decide), fun pt npt => ?_⟩
      generalize h_G3 : upd G2 pt _ = G3
      have k_G3 : Kp G2 G3 := by rw [← h_G3]; exact .new npt
      have q_G3 := (congrFun h_G3 pt).symm.trans upd_same
      clear h_G3
      refine ⟨_, rfl, p1, _, _, _, rfl, rfl, .inl (.inl (k_G3.same _ _ rfl qp2)), at_int (j := 0) n0, _, _, rfl, rfl, (by show (0 : Int) < 6; decide), pt, _, _, _, rfl, rfl, .inl (.inl q_G3), ekb, _, rfl, szl (by show 2 ≤ 100000; decide), fun D nD => ?_⟩
      generalize h_G4 : upd G3 D _ = G4
      have k_G4 : Kp G3 G4 := by rw [← h_G4]; exact .new nD
      have q_G4 := (congrFun h_G4 D).symm.trans upd_same
      clear h_G4
      have kg4 := ((kg1.trans kg2).trans k_G3).trans k_G4
      have st4 := st.to kg4
      have qp4 := (k_G3.trans k_G4).same _ _ rfl qp2
      refine ⟨_, rfl, _, rfl, S, D, ad, n, rows, kb, b, m, rfl, st4.sk, q_G4, by omega, fun r ad5 G5 nr e5 ha5 sk5 hr5 => ?_⟩
      obtain ⟨kp5, ln5, fS5, dj5⟩ := st4.sky e5 ha5 sk5
      have nn4 := st4.nn
      have pl4 := st4.past
      have nT : ∀ {z : Addr} {vs : List V}, G4 z = some (.tup vs) → z ∉ [S, ad false, ad true] := fun {z vs} hz m => by
        simp only [List.mem_cons, List.not_mem_nil, or_false] at m
        rcases m with rfl | rfl | rfl
        · rw [st4.sk.st] at hz; cases hz
        · rw [st4.sk.at_ false] at hz; cases hz
        · rw [st4.sk.at_ true] at hz; cases hz
      have fresh4 : ∀ {z : Addr}, z ∈ [S, ad false, ad true] → z ≠ p1 := fun {z} hz e => by
        have h1 := st.fS z hz
        rw [e] at h1
        have h2 := st.kp.free
        simp only [List.mem_cons, List.not_mem_nil, or_false] at hz
        rcases hz with rfl | rfl | rfl
        · have := st.sk.st
          rw [e, np1] at this
          cases this
        · have := st.sk.at_ false
          rw [e, np1] at this
          cases this
        · have := st.sk.at_ true
          rw [e, np1] at this
          cases this
      have qp5 := e5.same _ _ rfl (fun m => fresh4 m rfl) qp4
      have hD5 := e5.same _ _ rfl (nT q_G4) q_G4
      have pF : p1 ∉ footL L a n := fun m => st.ln.at_.alloc p1 (by rw [st.nn]; exact m) np1
      refine ⟨fun σ' G6 => ∃ (a' : LA) (c' : LC) (rows' : Bool → List Bool), σ' = [some (.ref sa), some (.int (n : Int)), some (.ref L), some (.ref S), some (.int (1 + (i : Int))), some (.ref p1), some (.int m), some (.ref D), some (.ref r), y9] ∧ Sat P w K n L S H' G6 (i + 1) a' c' rows' ad5 ∧ G6 p1 = some (.lst (nums.map V.int)), ?_, ?_⟩
      · refine ⟨_, rfl, _, rfl, L, D, a, c, rows, kb, b, m, rfl, hD5, ln5, by omega, fun x ex t G6 nt k6 ht6 => ?_, fun ex t f6 G6 nt nf6 e6 ln6 ht6 => ?_⟩
        · rw [nn4] at ex
          rw [ex] at sk5 hr5
          have hr6 := k6.same _ _ rfl hr5
          refine ⟨_, rfl, _, _, dueD (some x), rfl, due_dp ht6, due_dp hr6, due_dn _, fun G7 k7 => ⟨_, rfl, iteFo rfl ?_⟩⟩
          have k57 := k6.trans k7
          exact ⟨a, c, rows, rfl, ⟨kp5.trans k57, ln5.kp k57, nn4, by omega, sk5.kp k57, st4.fF, fS5, dj5⟩, k57.same _ _ rfl qp5⟩
        · rw [nn4] at ex e6
          rw [ex] at sk5 hr5
          have lo6 := ln5.at_.loose
          rw [nn4] at lo6
          have nT6 : ∀ {z : Addr} {vs : List V}, G5 z = some (.tup vs) → z ∉ footL L a n := fun {z vs} hz mm => lo6 z mm _ hz
          have hr6 := e6.same _ _ rfl (nT6 hr5) hr5
          refine ⟨_, rfl, _, _, dueD none, rfl, due_dp ht6, due_dp hr6, due_dn _, fun G7 k7 => ⟨_, rfl, iteFo rfl ?_⟩⟩
          have kp6 : Kp H' G6 := KpE.kp kp5 e6 st4.fF
          have sk6 := sk5.kpE e6 (fun mm => dj5 S List.mem_cons_self mm) (fun kx mm => dj5 (ad5 kx) (by cases kx <;> simp) mm)
          have al5 : ∀ bb ∈ [S, ad5 false, ad5 true], G5 bb ≠ none := fun bb hb z => by
            simp only [List.mem_cons, List.not_mem_nil, or_false] at hb
            rcases hb with rfl | rfl | rfl
            · rw [sk5.st] at z; cases z
            · rw [sk5.at_ false] at z; cases z
            · rw [sk5.at_ true] at z; cases z
          refine ⟨a.futA f6, _, _, rfl, ⟨kp6.trans k7, ln6.kp k7, nn4, ?_, sk6.kp k7, fun bb hb => ?_, fS5, fun bb hb hb2 => ?_⟩, k7.same _ _ rfl (e6.same _ _ rfl pF qp5)⟩
          · show (c.past ++ [_]).length ≤ i + 1
            rw [List.length_append]
            exact Nat.add_le_add_right pl4 1
          · rcases foot_fut hb with rfl | hb
            · exact kp5.free _ nf6
            · exact st4.fF bb hb
          · rcases foot_fut hb2 with rfl | hb2
            · exact al5 _ hb nf6
            · exact dj5 bb hb hb2
      rintro σ' G6 ⟨a', c', rows', rfl, s6, qp6⟩
      clear sk5 hr5 e5 ha5 kp5 ln5 fS5 dj5 hD5
      have lenB : ∀ kx, (rows' kx).length ≤ 1000 := fun kx => by
        have h1 := s6.ln.len kx
        have h2 := s6.ln.few
        cases kx <;> simp only [kL] at h1 <;> omega
      obtain ⟨dx6, hl6⟩ := s6.ln.at_.ob
      refine ⟨_, rfl, L, dx6, _, rfl, hl6, fldL_no _ _ _ (by decide +kernel) (by decide +kernel) (by decide +kernel), L, a', c', rows' false, rfl, s6.ln.at_, s6.ln.row false, lenB false, fun r1 G7 nr1 k7 hr1 => ?_⟩
      have s7 := s6.to k7
      refine ⟨_, rfl, L, dx6, _, rfl, k7.same _ _ rfl hl6, fldL_no _ _ _ (by decide +kernel) (by decide +kernel) (by decide +kernel), L, a', c', rows' true, rfl, s7.ln.at_, s7.ln.row true, lenB true, fun r2 G8 nr2 k8 hr2 => ?_⟩
      refine ⟨szl (by show 2 ≤ 100000; decide), fun pf npf => ?_⟩
      generalize h_G9 : upd G8 pf _ = G9
      have k_G9 : Kp G8 G9 := by rw [← h_G9]; exact .new npf
      have q_G9 := (congrFun h_G9 pf).symm.trans upd_same
      clear h_G9
      have k69 := (k7.trans k8).trans k_G9
      have s9 := s6.to k69
      have hr1' := (k8.trans k_G9).same _ _ rfl hr1
      have hr2' := k_G9.same _ _ rfl hr2
      refine ⟨fun σ' G10 => σ' = [some (.ref sa), some (.int (n : Int)), some (.ref L), some (.ref S), some (.int (1 + (i : Int))), some (.ref p1), some (.int m), some (.ref D), some (.ref r), some (.ref pf)] ∧ Kp G9 G10, ?_, ?_⟩
      · refine ⟨_, rfl, p1, _, _, _, rfl, rfl, .inl (.inl (k69.same _ _ rfl qp6)), at_int (j := 2) n2, _, _, rfl, rfl, (by show (0 : Int) < 4; decide), _, _, rfl, rfl, _, rfl, iteB (fun c => ?_) (fun c => ?_)⟩
        · refine ⟨_, rfl, _, rfl, S, _, rfl, sky_get s9.sk false, _, rfl, S, _, rfl, sky_get s9.sk true, szl (by show 2 ≤ 100000; decide), fun pd npd => ?_⟩
          generalize h_G10 : upd G9 pd _ = G10
          have k_G10 : Kp G9 G10 := by rw [← h_G10]; exact .new npd
          have q_G10 := (congrFun h_G10 pd).symm.trans upd_same
          clear h_G10
          have s10 := s9.to k_G10
          refine ⟨_, _, looksD rows', rfl, .lst (.inl (.inl (k_G10.same _ _ rfl q_G9))) (.cons (dp_dI (.inl (.inl (k_G10.same _ _ rfl hr1')))) (.cons (dp_dI (.inl (.inl (k_G10.same _ _ rfl hr2')))) .nil)), .lst (.inl (.inl q_G10)) (.cons (dp_dI (.inl (.inl (s10.sk.at_ false)))) (.cons (dp_dI (.inl (.inl (s10.sk.at_ true)))) .nil)), looks_dn lenB, fun G11 k11 => ⟨_, rfl, iteFo rfl ⟨rfl, k_G10.trans k11⟩⟩⟩
        · exact ⟨rfl, .refl _⟩
      rintro σ' G10 ⟨rfl, k10⟩
      have s10 := s9.to k10
      have q10 := k10.same _ _ rfl q_G9
      have hr10 := k10.same _ _ rfl hr1'
      have hr20 := k10.same _ _ rfl hr2'
      have n12 : r2 ≠ r1 := fun z => by
        rw [z, hr1] at nr2
        cases nr2
      have ml : ∀ kx, ((marks (rows' kx)).map V.int).length ≤ 1000 := fun kx => by
        rw [List.length_map]
        exact Nat.le_trans (marks_len _) (lenB kx)
      refine ⟨_, rfl, pf, _, _, _, rfl, rfl, .inl (.inl q10), rfl, .inl ⟨rfl, _, SqL.of hr10⟩, r1, _, _, rfl, rfl, hr10, szt (by have := ml false; omega), ?_⟩
      have hpf : pf ≠ r1 := fun z => by
        rw [z, (k8.same _ _ rfl hr1)] at npf
        cases npf
      refine ⟨_, rfl, pf, [.ref r1, .ref r2], 1, .ref r2, rfl, rfl, .inl (.inl (by rw [upd_ne hpf]; exact q10)), rfl, .inl ⟨rfl, _, SqL.of (by rw [upd_ne n12]; exact hr20)⟩, r2, _, _, rfl, rfl, (by rw [upd_ne n12]; exact hr20), szt (by have := ml true; omega), ?_⟩
      have kk := k69.trans k10
      exact ⟨a', c', rows', ad5, _, _, _, _, _, _, rfl, s6.to ((kk.mut nr1).mut (k7.free _ nr2))⟩
    · rintro σ G ⟨a, c, rows, ad, y4, y5, y6, y7, y8, y9, rfl, st⟩
      have lenB : ∀ kx, (rows kx).length ≤ 1000 := fun kx => by
        have h1 := st.ln.len kx
        have h2 := st.ln.few
        cases kx <;> simp only [kL] at h1 <;> omega
      obtain ⟨dx6, hl6⟩ := st.ln.at_.ob
      refine ⟨_, rfl, L, dx6, _, rfl, hl6, fldL_no _ _ _ (by decide +kernel) (by decide +kernel) (by decide +kernel), L, a, c, rows false, rfl, st.ln.at_, st.ln.row false, lenB false, fun r1 G7 nr1 k7 hr1 => ?_⟩
      have s7 := st.to k7
      refine ⟨_, rfl, L, dx6, _, rfl, k7.same _ _ rfl hl6, fldL_no _ _ _ (by decide +kernel) (by decide +kernel) (by decide +kernel), L, a, c, rows true, rfl, s7.ln.at_, s7.ln.row true, lenB true, fun r2 G8 nr2 k8 hr2 => ?_⟩
      refine ⟨szl (by show 2 ≤ 100000; decide), fun pf npf => ?_⟩
      generalize h_G9 : upd G8 pf _ = G9
      have k_G9 : Kp G8 G9 := by rw [← h_G9]; exact .new npf
      have q_G9 := (congrFun h_G9 pf).symm.trans upd_same
      clear h_G9
      have s9 := (s7.to k8).to k_G9
      refine ⟨_, rfl, S, _, rfl, sky_get s9.sk false, _, rfl, S, _, rfl, sky_get s9.sk true, szl (by show 2 ≤ 100000; decide), fun pd npd => ?_⟩
      generalize h_G10 : upd G9 pd _ = G10
      have k_G10 : Kp G9 G10 := by rw [← h_G10]; exact .new npd
      have q_G10 := (congrFun h_G10 pd).symm.trans upd_same
      clear h_G10
      have s10 := s9.to k_G10
      exact ⟨_, _, looksD rows, rfl, .lst (.inl (.inl (k_G10.same _ _ rfl q_G9))) (.cons (dp_dI (.inl (.inl ((k8.trans (k_G9.trans k_G10)).same _ _ rfl hr1)))) (.cons (dp_dI (.inl (.inl ((k_G9.trans k_G10).same _ _ rfl hr2)))) .nil)), .lst (.inl (.inl q_G10)) (.cons (dp_dI (.inl (.inl (s10.sk.at_ false)))) (.cons (dp_dI (.inl (.inl (s10.sk.at_ true)))) .nil)), looks_dn lenB, fun G11 _ => k G11⟩
end
theorem all_mk {w : World} {K : PySem.W.Frag} {h : Heap} {mg : Str → Option Value} {fa : Addr} (X : K.In h) (G : h.Ns mainGlobals mg) (hfa : mg ("law" : Str) = some (.ref fa)) (c : SaysB factsL fnL K) :
    ∃ fd : FuncData, (∀ (s : Shared) (v : Value), BindsTo s fd ⟨[v], []⟩ [("_law_script", v)]) ∧ ∀ base : Heap, K.In base → base.Ns mainGlobals mg → FnOk rowR.prog w K mg base CX0 20 fa fd ["_law_script"] (sp_law K) := by
  have T : Txt K mg := ⟨⟨h, X, G⟩, c⟩
  have hl : mg ("law" : Str) = some (.ref (He.ga K "law")) := TopB.glo T 0 rfl
  have e := hfa.symm.trans hl
  cases e
  have F : Fun K "law" "law" s_law (He.fAd K ("law", none)) (fdOf K (He.fAd K ("law", none))) := TopB.fun_ T (a := ("law", none)) 27 rfl
  obtain ⟨oc, od, kV, doc, pm, an, cdv, ct, osl, efd, lk, hcd⟩ := F.ex
  refine ⟨fdOf K (He.fAd K ("law", none)), fun s v => ?_, fun base _ _ => ok_law T F⟩
  rw [efd]
  exact .of_eq rfl

end Mw
open PySem PySem.W PySem.Calls PyProof.Rows
set_option maxRecDepth 100000 in
set_option maxHeartbeats 0 in
theorem PySem.Challenge.cw_mastword_k25_sleep_and_fog_holds : PySem.Challenge.rw_mastword_k25_sleep_and_fog.Holds := by
  w_on; o_law
  refine HandSHeadRun.head_any (r := (OpenLaw.row PySem.Challenge.rw_mastword_k25_sleep_and_fog)) (q := view (OpenLaw.row PySem.Challenge.rw_mastword_k25_sleep_and_fog).prog [87]) (H := Mw.hookB Mw.asL Mw.factsL Mw.fnL) (ob := Mw.obL) (M := 16000) (loose := Mw.looseL) (d := HandSHeadRun.topDef (OpenLaw.row PySem.Challenge.rw_mastword_k25_sleep_and_fog).prog 87) (kwd := []) Mw.obL_eq
    (by kernel_rfl) (fun s => by kernel_rfl) Mw.runL (by kernel_rfl) (by kernel_rfl) (by kernel_rfl) (by rfl) (by first | assumption | decide +kernel) (by decide +kernel) ⟨rfl, rfl, rfl, rfl, rfl, by decide +kernel⟩ ?hw ?hc
  case hw => w_witness2
  case hc =>
    refine L2.walk_ofE (l := PySem.Challenge.rw_mastword_k25_sleep_and_fog) (n := 63) (k := 20) (x := "_law_script") (CX := L2.CX0) rfl (by decide) (by kernel_rfl) ⟨rfl, by decide, by decide⟩ ?F (fun _ _ _ _ z => z)
    intro w mg fa h Y G hmg0
    obtain ⟨K, KX, c⟩ := Y
    have hmg : mg ("law" : PySem.Str) = some (.ref fa) := by
      have e : (HandSHeadRun.topDef (OpenLaw.row PySem.Challenge.rw_mastword_k25_sleep_and_fog).prog 87).name = ("law" : PySem.Str) := by kernel_rfl
      rw [← e]
      exact hmg0
    obtain ⟨fd, hb, hF⟩ := Mw.all_mk (w := w) KX G hmg c
    exact ⟨K, fd, Mw.sp_law K, KX, hb, fun H a ns hl _ hS => ⟨a, ns, rfl, hS, hl, fun _ => rfl⟩, hF⟩

