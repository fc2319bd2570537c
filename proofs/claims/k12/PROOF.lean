import PyProof.Rows.All
import Wide.All
import OpenK.AllK
import Wide.FinOn
import HandS.ForMost
import HandS.ForExc
import HandS.AnyAll
import HandS.EndTab
import HandS.ExcIs
import HandS.ExcField
import HandS.ExcInit
import HandS.IsInst
import HandS.Conv
import HandS.Replace
import HandS.Flow
import HandS.Walk
import HandS.Evl
import KE.KExcIs
import HandS.EndOwn
import HandS.CallRecv
import HandS.Style
import HandS.Star
import HandS.Zip
import HandS.ExcValue
import KE.KDictZip
import KE.KDictList
import PySem.Challenge.RW_mastword_k12_stretches_of_arms
set_option Elab.async false
set_option linter.all false
set_option maxRecDepth 100000
set_option maxHeartbeats 2000000
namespace Mw
open PySem PySem.Spec PyProof.Rows L2
/-! ### what is kept: every tracked thing but the tables of code objects, which stay tables -/
def isT : HO → Bool
  | .tbl _ => true
  | _ => false
structure Kp (H H' : Hp) : Prop where
  same : ∀ a o, isT o = false → H a = some o → H' a = some o
  tab : ∀ a, GxR.TabG H a → GxR.TabG H' a
  free : ∀ a, H' a = none → H a = none
theorem Kp.refl (H : Hp) : Kp H H := ⟨fun _ _ _ h => h, fun _ h => h, fun _ h => h⟩
theorem Kp.trans {H H1 H2 : Hp} (a : Kp H H1) (b : Kp H1 H2) : Kp H H2 :=
  ⟨fun x o t h => b.same x o t (a.same x o t h), fun x h => b.tab x (a.tab x h), fun x h => a.free x (b.free x h)⟩
theorem Kp.mut {H H' : Hp} {p : Addr} {o : HO} (e : Kp H H') (h : H p = none) : Kp H (upd H' p o) := by
  refine ⟨fun a u t ha => ?_, fun a ⟨ps, ha, ht⟩ => ?_, fun a ha => ?_⟩
  · rw [upd_ne (ne_of_none ha h)]
    exact e.same a u t ha
  · obtain ⟨ps', h1, h2⟩ := e.tab a ⟨ps, ha, ht⟩
    exact ⟨ps', by rw [upd_ne (ne_of_none ha h)]; exact h1, h2⟩
  · by_cases q : a = p
    · rw [q]
      exact h
    · rw [upd_ne q] at ha
      exact e.free a ha
theorem Kp.new {H : Hp} {p : Addr} {o : HO} (h : H p = none) : Kp H (upd H p o) := (Kp.refl H).mut h
theorem Kp.rd {H H' : Hp} {a : Addr} {u : HO} (e : Kp H H') (t : isT u = false) (h : Rd H a u) : Rd H' a u := by
  rcases h with h | ⟨o, h⟩
  · exact Or.inl (e.same a _ t h)
  · exact Or.inr ⟨o, e.same a _ rfl h⟩
theorem Kp.sqL {K : PySem.W.Frag} {H H' : Hp} {a : Addr} {xs : List V} (e : Kp H H') (h : SqL K H a xs) : SqL K H' a xs := by
  rcases h with h | h
  · exact Or.inl (e.rd rfl h)
  · exact Or.inr h
theorem Kp.sqT {K : PySem.W.Frag} {H H' : Hp} {a : Addr} {xs : List V} (e : Kp H H') (h : SqT K H a xs) : SqT K H' a xs := by
  rcases h with h | h
  · exact Or.inl (e.rd rfl h)
  · exact Or.inr h
mutual
theorem Kp.dp {K : PySem.W.Frag} {H H' : Hp} (e : Kp H H') : ∀ {d : PyData} {v : V}, Dp K H v d → Dp K H' v d
  | _, _, .non => .non
  | _, _, .bl b => .bl b
  | _, _, .int i => .int i
  | _, _, .str x => .str x
  | _, _, .lst h a => .lst (e.sqL h) (Kp.dpAll e a)
  | _, _, .tup h a => .tup (e.sqT h) (Kp.dpAll e a)
theorem Kp.dpAll {K : PySem.W.Frag} {H H' : Hp} (e : Kp H H') : ∀ {ds : List PyData} {vs : List V}, DpAll K H vs ds → DpAll K H' vs ds
  | _, _, .nil => .nil
  | _, _, .cons h t => .cons (Kp.dp e h) (Kp.dpAll e t)
end
theorem DpAll.len {K : PySem.W.Frag} {H : Hp} : ∀ {vs : List V} {ds : List PyData}, DpAll K H vs ds → vs.length = ds.length
  | _, _, .nil => rfl
  | _, _, .cons _ t => congrArg (· + 1) (DpAll.len t)
theorem DpAll.get {K : PySem.W.Frag} {H : Hp} : ∀ {vs : List V} {ds : List PyData} {i : Nat} {d : PyData}, DpAll K H vs ds → ds[i]? = some d → ∃ v, vs[i]? = some v ∧ Dp K H v d
  | _, _, i, d, .nil, h => by simp at h
  | _, _, 0, d, .cons a _, h => by
    have e := Option.some.inj h
    subst e
    exact ⟨_, rfl, a⟩
  | _, _, i + 1, d, .cons _ t, h => DpAll.get (i := i) t h
theorem DpAll.app {K : PySem.W.Frag} {H : Hp} : ∀ {vs ws : List V} {ds es : List PyData}, DpAll K H vs ds → DpAll K H ws es → DpAll K H (vs ++ ws) (ds ++ es)
  | _, _, _, _, .nil, b => b
  | _, _, _, _, .cons a t, b => .cons a (DpAll.app t b)
/-- data without lists -/
inductive Nl : PyData → Prop
  | non : Nl .none
  | bl (b : Bool) : Nl (.bool b)
  | int (i : Int) : Nl (.int i)
  | str (x : Str) : Nl (.str x)
  | tup {ds : List PyData} : (∀ d ∈ ds, Nl d) → Nl (.tuple ds)
/-! a list may change: what has no list in it stays -/
mutual
theorem Dp.mut {K : PySem.W.Frag} {H : Hp} {p : Addr} {o : HO} {zs : List V} (hp : H p = some (.lst zs)) : ∀ {d : PyData} {v : V}, Nl d → Dp K H v d → Dp K (upd H p o) v d
  | _, _, _, .non => .non
  | _, _, _, .bl b => .bl b
  | _, _, _, .int i => .int i
  | _, _, _, .str x => .str x
  | _, _, n, .lst _ _ => nomatch n
  | _, _, n, .tup h a => by
    cases n with
    | tup n =>
      refine .tup ?_ (DpAll.mut hp n a)
      rcases h with (h | ⟨ob, h⟩) | h
      · exact .inl (.inl (by rw [upd_ne (ne_of h hp (by intro z; cases z))]; exact h))
      · exact .inl (.inr ⟨ob, by rw [upd_ne (ne_of h hp (by intro z; cases z))]; exact h⟩)
      · exact .inr h
theorem DpAll.mut {K : PySem.W.Frag} {H : Hp} {p : Addr} {o : HO} {zs : List V} (hp : H p = some (.lst zs)) : ∀ {ds : List PyData} {vs : List V}, (∀ d ∈ ds, Nl d) → DpAll K H vs ds → DpAll K (upd H p o) vs ds
  | _, _, _, .nil => .nil
  | _, _, n, .cons h t => .cons (Dp.mut hp (n _ List.mem_cons_self) h) (DpAll.mut hp (fun d hd => n d (List.mem_cons_of_mem _ hd)) t)
end
theorem DpAll.snoc {K : PySem.W.Frag} {H : Hp} {vs : List V} {ds : List PyData} {v : V} {d : PyData} (a : DpAll K H vs ds) (h : Dp K H v d) : DpAll K H (vs ++ [v]) (ds ++ [d]) := DpAll.app a (.cons h .nil)
theorem DpAll.dropLast {K : PySem.W.Frag} {H : Hp} : ∀ {vs : List V} {ds : List PyData}, DpAll K H vs ds → DpAll K H vs.dropLast ds.dropLast
  | _, _, .nil => .nil
  | _, _, .cons _ .nil => .nil
  | _, _, .cons h (.cons h2 t) => .cons h (DpAll.dropLast (.cons h2 t))
theorem dp_ints {K : PySem.W.Frag} {H : Hp} : ∀ ns : List Int, DpAll K H (ns.map V.int) (ns.map PyData.int)
  | [] => .nil
  | n :: r => .cons (.int n) (dp_ints r)
theorem dp_strs {K : PySem.W.Frag} {H : Hp} : ∀ ns : List Str, DpAll K H (ns.map V.str) (ns.map PyData.str)
  | [] => .nil
  | n :: r => .cons (.str n) (dp_strs r)
/-- a list of ints, a list of texts as data -/
def dI (ns : List Int) : PyData := .list (ns.map PyData.int)
def dS (ns : List Str) : PyData := .list (ns.map PyData.str)
theorem dp_dI {K : PySem.W.Frag} {H : Hp} {a : Addr} {ns : List Int} (h : SqL K H a (ns.map V.int)) : Dp K H (.ref a) (dI ns) := .lst h (dp_ints ns)
theorem dpAll_ints {K : PySem.W.Frag} {H : Hp} : ∀ {ns : List Int} {vs : List V}, DpAll K H vs (ns.map PyData.int) → vs = ns.map V.int
  | [], _, .nil => rfl
  | n :: r, _, .cons h t => by
    cases h
    rw [dpAll_ints t]
    rfl
theorem dp_of_dI {K : PySem.W.Frag} {H : Hp} {v : V} {ns : List Int} (h : Dp K H v (dI ns)) : ∃ a, v = .ref a ∧ SqL K H a (ns.map V.int) := by
  cases h with
  | lst h t =>
    rw [dpAll_ints t] at h
    exact ⟨_, rfl, h⟩
/-! ### small words -/
theorem at_int {ns : List Int} {j : Nat} (h : j < ns.length) : atI (ns.map V.int) (j : Int) = some (.int ns[j]) := atI_nat (by rw [List.getElem?_map, List.getElem?_eq_getElem h]; rfl)
theorem at_intZ {ns : List Int} {z : Int} (h0 : 0 ≤ z) (h : z.toNat < ns.length) : atI (ns.map V.int) z = some (.int ns[z.toNat]) := by
  have e := at_int h
  rw [Int.toNat_of_nonneg h0] at e
  exact e
theorem szl {n : Nat} (h : n ≤ 100000) : n ≤ sizeLine := Nat.le_trans h (by decide)
theorem szt {n : Nat} (h : n < 100000) : n < sizeLine := Nat.lt_of_lt_of_le h (by decide)
theorem iteB {b : Bool} {A B : Prop} (h1 : b = true → A) (h2 : b = false → B) : if b = true then A else B := by
  cases b with
  | true => rw [if_pos rfl]; exact h1 rfl
  | false => rw [if_neg Bool.false_ne_true]; exact h2 rfl
theorem iteD {c : Prop} [Decidable c] {A B : Prop} (h1 : c → A) (h2 : ¬ c → B) : if decide c = true then A else B :=
  iteB (fun h => h1 (of_decide_eq_true h)) (fun h => h2 (of_decide_eq_false h))
theorem iteN {c : Prop} [Decidable c] {A B : Prop} (h1 : ¬ c → A) (h2 : c → B) : if (!decide c) = true then A else B :=
  iteB (fun h => h1 (fun z => by rw [decide_eq_true z] at h; cases h)) (fun h => h2 (by
    by_cases z : c
    · exact z
    · rw [decide_eq_false z] at h; cases h))
theorem iteTo {b : Bool} {A B : Prop} (e : b = true) (h : A) : if b = true then A else B := by rw [if_pos e]; exact h
theorem iteFo {b : Bool} {A B : Prop} (e : b = false) (h : B) : if b = true then A else B := by rw [e, if_neg Bool.false_ne_true]; exact h
/-! ### rules with the written part by its own name (inside a comprehension) -/
section
variable {X : Cx} (K : PySem.W.Frag)
theorem ix_listK (h : X.K = K) : IxR X (rIxL K) := h ▸ ix_list
theorem ix_tupK (h : X.K = K) : IxR X (rIxT K) := h ▸ ix_tup
theorem ix_seqK (h : X.K = K) : IxR X (rIx K) := h ▸ ix_seq
def rLenSq : List V → Hp → VK → Prop := fun xs H Q => ∃ p ys, xs = [.ref p] ∧ (SqL K H p ys ∨ SqT K H p ys) ∧ Q (.int ys.length) H
theorem call_lenSK (h : X.K = K) : CallR X (.builtin "len") (rLenSq K) := h ▸ call_len_seq
def rLenV : List V → Hp → VK → Prop := fun xs H Q => ∃ x n, xs = [x] ∧ LenV K x H n ∧ Q (.int n) H
theorem call_lenK (h : X.K = K) : CallR X (.builtin "len") (rLenV K) := h ▸ call_len
theorem op_inK (h : X.K = K) : OpR X (compareOp .In) (rIn K false) := h ▸ op_in_seq
theorem op_notInK (h : X.K = K) : OpR X (compareOp .NotIn) (rIn K true) := h ▸ op_notIn_seq
theorem op_eqDK (h : X.K = K) (hu : X.A.units + 64 < cLine) : OpR X (compareOp .Eq) (rEqD K) := h ▸ op_eqD hu
theorem op_neDK (h : X.K = K) (hu : X.A.units + 64 < cLine) : OpR X (compareOp .NotEq) (rNeD K) := h ▸ op_neD hu
theorem call_isiKK (h : X.K = K) : CallR X (.builtin "isinstance") (rIsi K) := h ▸ call_isi
end
section
variable {X : Cx} (K : PySem.W.Frag)
theorem pgK {e : Expr} {n : Nat} {t : TGs} (h : X.K = K) (p : PG X e (gTup X.K n t)) : PG X e (gTup K n t) := h ▸ p
/-- isinstance(e, C), e what the suite has caught (without or with a dict of its own) -/
def rIsX (cls : Value) (d : Option Addr) (a : Addr) : List V → Hp → VK → Prop := fun xs H Q => ∃ (D : Addr) (c : V) (cv : Value) (b : Bool), cls = .ref D ∧ (d = none ∨ ∃ dd fs, d = some dd ∧ H dd = some (.xd fs)) ∧ ExcC K D ∧ xs = [.ref a, c] ∧ ClsV c cv ∧ PySem.W.kitOne K (.ref D) cv = some b ∧ Q (.bl b) H
theorem call_isX {a : Addr} {oe : Obj} {pn : List (Addr × Obj)} {cls : Value} {d : Option Addr} (h : X.K = K) (hz : Zc cls d oe) (hf : ∃ vs, oe.data = .fields vs) : CallR (X.suite a ((a, oe) :: pn)) (.builtin "isinstance") (rIsX K cls d a) := by
  subst h
  intro pins s σ H xs us Q I r h'
  obtain ⟨D, c, cv, b, rfl, hd, C, rfl, hc, hk, q⟩ := h'
  cases r with | cons rx rr =>
  cases rr with | cons rt rr =>
  cases rr
  cases rx
  have ec := hc.eq rt
  subst ec
  obtain ⟨hget, _⟩ := I.pin (a, oe) (List.mem_append_left _ List.mem_cons_self)
  obtain ⟨vs, hv⟩ := hf
  have hcl : (PySem.W.clsIn X.K D).isSome = true := by
    obtain ⟨cd, hc, _⟩ := PySem.W.any_some C.hd
    rw [hc]
    first | rfl | done
  have nc : PySem.W.notCls oe = true := by
    unfold PySem.W.notCls
    rw [hv]
  rcases hd with rfl | ⟨dd, fs, rfl, hdd⟩
  · have J : PySem.W.InstAt s.heap a oe D none := ⟨hget, hz.1, nc, by rw [hz.2]; trivial⟩
    exact PySem.W.kia_one (PySem.W.kitx_exc hcl C.hg C.hk C.hs C.ha C.hn C.ht C.hm) I.kIn J hk (fun z => nomatch z) fun tk => ⟨.bl b, H, I.kept (t' := tk) fun _ _ z => z, rfl, q⟩
  · obtain ⟨mA, hns, hr⟩ := I.hok dd _ hdd
    obtain ⟨od, ho, hl⟩ := lookIn_ns hns
    have J : PySem.W.InstAt s.heap a oe D (some od) := ⟨hget, hz.1, nc, by rw [hz.2]; exact ho⟩
    exact PySem.W.kia_one (PySem.W.kitx_exc hcl C.hg C.hk C.hs C.ha C.hn C.ht C.hm) I.kIn J hk (fun z => nomatch z) fun tk => ⟨.bl b, H, I.kept (t' := tk) fun _ _ z => z, rfl, q⟩
end
/-! ### isinstance of an own error, by what the written part says of its class -/
theorem kit_sub {K : PySem.W.Frag} {t : Value} {C : Addr} (ic : PySem.W.isClsIn K C = true) (tC : PySem.W.typeIn K (.ref C) = some (.type "type")) (h : PySem.W.subIn K t (.ref C) = some true) : PySem.W.kitOne K t (.ref C) = some true := by
  unfold PySem.W.kitOne
  by_cases e : (t == .ref C) = true
  · rw [if_pos e]
  · rw [if_neg e]
    have h2 : ((PySem.W.clsIn K C).isSome && PySem.W.typeIn K (.ref C) == some (.type "type")) = true := by
      have q : (PySem.W.clsIn K C).isSome = true := ic
      rw [q, tC]
      rfl
    show (if ((PySem.W.clsIn K C).isSome && PySem.W.typeIn K (.ref C) == some (.type "type")) = true then PySem.W.subIn K t (.ref C) else none) = some true
    rw [if_pos h2]
    exact h
theorem kit_not {K : PySem.W.Frag} {t : Value} {C : Addr} (ic : PySem.W.isClsIn K C = true) (tC : PySem.W.typeIn K (.ref C) = some (.type "type")) (h : PySem.W.subIn K t (.ref C) = some false) (hs : PySem.W.subIn K t t = some true) : PySem.W.kitOne K t (.ref C) = some false := by
  unfold PySem.W.kitOne
  have e : ¬ (t == .ref C) = true := fun e => by
    have z : t = .ref C := by simpa using e
    rw [z] at h hs
    rw [h] at hs
    cases hs
  rw [if_neg e]
  have h2 : ((PySem.W.clsIn K C).isSome && PySem.W.typeIn K (.ref C) == some (.type "type")) = true := by
    have q : (PySem.W.clsIn K C).isSome = true := ic
    rw [q, tC]
    rfl
  show (if ((PySem.W.clsIn K C).isSome && PySem.W.typeIn K (.ref C) == some (.type "type")) = true then PySem.W.subIn K t (.ref C) else none) = some false
  rw [if_pos h2]
  exact h
theorem meta_ve : PySem.W.kitMeta "ValueError" = true := by decide +kernel
theorem kit_ve {K : PySem.W.Frag} {C : Addr} (h : PySem.W.subIn K (.ref C) (.type "ValueError") = some true) : PySem.W.kitOne K (.ref C) (.type "ValueError") = some true := by
  unfold PySem.W.kitOne
  rw [if_neg (by intro z; cases z)]
  show (if PySem.W.kitMeta "ValueError" = true then PySem.W.subIn K (.ref C) (.type "ValueError") else none) = some true
  rw [if_pos meta_ve]
  exact h
theorem at_mod (z : Str) {m : Int} {n : Nat} (hn : 0 < n) (hl : z.cps.toList.length = n) : ∃ c, atI z.cps.toList (m % (n : Int)) = some c := by
  have h0 : 0 ≤ m % (n : Int) := Int.emod_nonneg _ (by omega)
  have h1 : m % (n : Int) < (n : Int) := Int.emod_lt_of_pos _ (by omega)
  have hj : (m % (n : Int)).toNat < z.cps.toList.length := by omega
  refine ⟨z.cps.toList[(m % (n : Int)).toNat], ?_⟩
  have e := atI_nat (List.getElem?_eq_getElem hj)
  rw [Int.toNat_of_nonneg h0] at e
  exact e
theorem cutV_map {lo hi : Option Int} {ns : List Int} : ∃ ms : List Int, cutV (ns.map V.int) lo hi = ms.map V.int ∧ (∀ m ∈ ms, m ∈ ns) ∧ ms.length ≤ ns.length := by
  unfold cutV
  rw [List.length_map]
  refine ⟨(ns.drop _).take _, by rw [List.map_take, List.map_drop], fun m h => List.mem_of_mem_drop (List.mem_of_mem_take h), ?_⟩
  rw [List.length_take, List.length_drop]
  omega
theorem mem_ints {ns : List Int} {i : Nat} {x : V} (h : (ns.map V.int)[i]? = some x) : ∃ z, z ∈ ns ∧ x = .int z ∧ ns[i]? = some z := by
  rw [List.getElem?_map] at h
  cases e : ns[i]? with
  | none =>
    rw [e] at h
    cases h
  | some z =>
    rw [e] at h
    exact ⟨z, List.mem_of_getElem? e, (Option.some.inj h).symm, rfl⟩
theorem mem_strs {ns : List Str} {i : Nat} {x : V} (h : (ns.map V.str)[i]? = some x) : ∃ z, z ∈ ns ∧ x = .str z ∧ ns[i]? = some z := by
  rw [List.getElem?_map] at h
  cases e : ns[i]? with
  | none =>
    rw [e] at h
    cases h
  | some z =>
    rw [e] at h
    exact ⟨z, List.mem_of_getElem? e, (Option.some.inj h).symm, rfl⟩
theorem take_snoc {α : Type} {l : List α} {i : Nat} {z : α} (h : l[i]? = some z) : l.take (i + 1) = l.take i ++ [z] := by
  rw [List.take_succ, h]
  rfl
/-! ### list(zip(a, b)) of two lists: the list keeps every pair that it is given -/
section
variable {prog : Program} {w : World} {A : Around} {E : Value → Shared → Prop} {s : Shared} {z TI TO i1 i2 a b S lo : Addr} {xs ys : Array Value}
theorem zl_len : typeLookup (.type "zip") "__len__" = pure none := PySem.am_miss_of_fast (by decide +kernel)
theorem zl_hint : typeLookup (.type "zip") "__length_hint__" = pure none := PySem.am_miss_of_fast (by decide +kernel)
/-- a zip on its way, while the list S is being filled -/
structure ZOn (z TI TO i1 i2 a b S : Addr) (xs ys : Array Value) (i : Nat) (h : Heap) : Prop where
  ti : IsPair h TI (.ref i1) (.ref i2)
  n1 : h.IsListIter i1 a i
  n2 : h.IsListIter i2 b i
  la : h.IsList a xs
  lb : h.IsList b ys
  zz : (IsZip h z TI TO .none ∧ ∃ u v, IsPair h TO u v) ∨ ∃ T f oT, IsZipHeld h z TI TO T f ∧ h.get? T = some oT ∧ T ≠ z ∧ T ≠ i1 ∧ T ≠ i2 ∧ T ≠ S
/-- S is none of the objects of the zip -/
structure ZOff (z TI TO i1 i2 a b S : Addr) : Prop where
  z : z ≠ S
  ti : TI ≠ S
  to : TO ≠ S
  n1 : i1 ≠ S
  n2 : i2 ≠ S
  la : a ≠ S
  lb : b ≠ S
theorem ZOn.keep {i : Nat} {h h' : Heap} (st : ZOn z TI TO i1 i2 a b S xs ys i h) (f : ZOff z TI TO i1 i2 a b S) (k : ∀ c o, c ≠ S → h.get? c = some o → h'.get? c = some o) : ZOn z TI TO i1 i2 a b S xs ys i h' := by
  refine ⟨k _ _ f.ti st.ti, st.n1.at fun o e => k _ o f.n1 e, st.n2.at fun o e => k _ o f.n2 e, st.la.at fun o e => k _ o f.la e, st.lb.at fun o e => k _ o f.lb e, ?_⟩
  rcases st.zz with ⟨hz, u, v, ho⟩ | ⟨T, g, oT, hz, hT, r1, r2, r3, r4⟩
  · exact .inl ⟨k _ _ f.z hz, u, v, k _ _ f.to ho⟩
  · exact .inr ⟨T, g, oT, k _ _ f.z hz, k _ _ r4 hT, r1, r2, r3, r4⟩
theorem ZOn.item {i : Nat} {x y : Value} {Q : Option Value → Shared → Prop} (D : ZipApart z TI TO i1 i2 a b) (st : ZOn z TI TO i1 i2 a b S xs ys i s.heap) (hx : xs[i]? = some x) (hy : ys[i]? = some y) (hS : S < s.heap.objs.size)
    (q : ∀ h', ZOn z TI TO i1 i2 a b S xs ys (i + 1) h' → IsPair h' s.heap.objs.size x y → (∀ c o, c ≠ z → c ≠ TO → c ≠ i1 → c ≠ i2 → s.heap.get? c = some o → h'.get? c = some o) → Q (some (.ref s.heap.objs.size)) { s with heap := h' }) :
    wpAny (model prog w) A (pyNext (.ref z)) Q E s := by
  have new : ∀ {c : Addr} {o : Obj}, s.heap.get? c = some o → s.heap.objs.size ≠ c := fun e => Nat.ne_of_gt (Heap.lt_size e)
  have m1 : s.heap.objs.size ≠ i1 := by
    obtain ⟨_, e, _⟩ := st.n1
    exact new e
  have m2 : s.heap.objs.size ≠ i2 := by
    obtain ⟨_, e, _⟩ := st.n2
    exact new e
  rcases st.zz with ⟨hz, u, v, ho⟩ | ⟨T, g, oT, hz, hT, r1, r2, r3, r4⟩
  · refine wpAny_pyNext_zip_item D hz st.ti ho st.n1 st.n2 st.la st.lb hx hy fun h' g1 g2 g3 g4 g5 g6 k => q h' ⟨k _ _ D.TIz D.TITO D.TIi1 D.TIi2 st.ti, g3, g4, ?_, ?_, ?_⟩ g5 k
    · exact st.la.at fun o e => k _ o D.l1z D.l1TO D.l1i1 D.l1i2 e
    · exact st.lb.at fun o e => k _ o D.l2z D.l2TO D.l2i1 D.l2i2 e
    · exact .inr ⟨_, false, _, g1, g5, new hz, m1, m2, Nat.ne_of_gt hS⟩
  · refine wpAny_pyNext_zip_item_held D hz hT st.ti st.n1 st.n2 st.la st.lb hx hy fun h' g1 g3 g4 g5 g6 k => q h' ⟨k _ _ D.TIz D.TIi1 D.TIi2 st.ti, g3, g4, ?_, ?_, ?_⟩ g5 fun c o c1 _ c3 c4 e => k c o c1 c3 c4 e
    · exact st.la.at fun o e => k _ o D.l1z D.l1i1 D.l1i2 e
    · exact st.lb.at fun o e => k _ o D.l2z D.l2i1 D.l2i2 e
    · exact .inr ⟨T, true, oT, g1, k _ _ r1 r2 r3 hT, r1, r2, r3, r4⟩
theorem ZOn.stop {i : Nat} {Q : Option Value → Shared → Prop} (hh : A.handled = none) (D : ZipApart z TI TO i1 i2 a b) (st : ZOn z TI TO i1 i2 a b S xs ys i s.heap) (he : xs[i]? = none ∨ ys[i]? = none)
    (q : ∀ h', (∀ c o, c ≠ z → c ≠ TO → c ≠ i1 → c ≠ i2 → s.heap.get? c = some o → h'.get? c = some o) → Q none { s with heap := h' }) : wpAny (model prog w) A (pyNext (.ref z)) Q E s := by
  rcases st.zz with ⟨hz, u, v, ho⟩ | ⟨T, g, oT, hz, hT, r1, r2, r3, r4⟩
  · exact wpAny_pyNext_zip_end hh D hz st.ti ho st.n1 st.n2 st.la st.lb he q
  · exact wpAny_pyNext_zip_end_held hh D hz hT st.ti st.n1 st.n2 st.la st.lb he fun h' k => q h' fun c o c1 _ c3 c4 e => k c o c1 c3 c4 e
/-- the pairs told so far -/
structure ZGot (xs ys : Array Value) (lo : Addr) (h : Heap) (ts : List Addr) : Prop where
  rise : ts.Pairwise (· < ·)
  above : ∀ t ∈ ts, lo ≤ t
  pairs : ∀ (j : Nat) (t : Addr), ts[j]? = some t → ∃ x y, xs[j]? = some x ∧ ys[j]? = some y ∧ IsPair h t x y
theorem ZGot.there {h : Heap} {ts : List Addr} (g : ZGot xs ys lo h ts) {t : Addr} (m : t ∈ ts) : t < h.objs.size := by
  obtain ⟨j, e⟩ := List.mem_iff_getElem?.mp m
  obtain ⟨_, _, _, _, p⟩ := g.pairs j t e
  exact Heap.lt_size p
theorem ZGot.move {h h' : Heap} {ts : List Addr} (g : ZGot xs ys lo h ts) (k : ∀ t o, lo ≤ t → h.get? t = some o → h'.get? t = some o) : ZGot xs ys lo h' ts :=
  ⟨g.rise, g.above, fun j t e => by
    obtain ⟨x, y, e1, e2, e3⟩ := g.pairs j t e
    exact ⟨x, y, e1, e2, k t _ (g.above t (List.mem_of_getElem? e)) e3⟩⟩
theorem ZGot.more {h : Heap} {ts : List Addr} {t : Addr} {x y : Value} (g : ZGot xs ys lo h ts) (hx : xs[ts.length]? = some x) (hy : ys[ts.length]? = some y) (p : IsPair h t x y) (hl : lo ≤ t) (hr : ∀ u ∈ ts, u < t) : ZGot xs ys lo h (ts ++ [t]) := by
  refine ⟨List.pairwise_append.mpr ⟨g.rise, List.pairwise_singleton _ _, fun u hu v hv => ?_⟩, fun u hu => ?_, fun j u e => ?_⟩
  · rw [List.mem_singleton.mp hv]
    exact hr u hu
  · rcases List.mem_append.mp hu with hu | hu
    · exact g.above u hu
    · rw [List.mem_singleton.mp hu]
      exact hl
  · by_cases c : j < ts.length
    · rw [List.getElem?_append_left c] at e
      exact g.pairs j u e
    · by_cases c2 : j = ts.length
      · subst c2
        obtain rfl : t = u := by simpa using e
        exact ⟨x, y, hx, hy, p⟩
      · rw [List.getElem?_eq_none (by rw [List.length_append, List.length_singleton]; omega)] at e
        cases e
structure ZLow (z TO i1 i2 S lo : Addr) : Prop where
  z : z < lo
  to : TO < lo
  n1 : i1 < lo
  n2 : i2 < lo
  s : S < lo
theorem zl_ne {x t lo : Addr} (h : x < lo) (k : lo ≤ t) : t ≠ x := Nat.ne_of_gt (Nat.lt_of_lt_of_le h k)
theorem zl_loop {R : Result → Shared → Prop} {h₁ : Heap} (hh : A.handled = none) (D : ZipApart z TI TO i1 i2 a b) (F : ZOff z TI TO i1 i2 a b S) (L : ZLow z TO i1 i2 S lo) (res : Value) (hn : min xs.size ys.size ≤ sizeLine)
    (q : ∀ h' tk acc c ts, (∀ d o, d ≠ S → d ≠ z → d ≠ TO → d ≠ i1 → d ≠ i2 → h₁.get? d = some o → h'.get? d = some o) → h'.get? S = some { cls := .type "list", dict := none, data := .seq acc c, slots := #[] } →
      ts.length = min xs.size ys.size → ZGot xs ys lo h' ts → acc.toList = ts.map Value.ref → R (.ok (.ret res)) { s with heap := h', toks := tk }) :
    ∀ (k i : Nat) (h : Heap) (tk c : Nat) (acc : Array Value) (ts : List Addr), min xs.size ys.size - i = k → i ≤ min xs.size ys.size → ZOn z TI TO i1 i2 a b S xs ys i h →
      (∀ d o, d ≠ S → d ≠ z → d ≠ TO → d ≠ i1 → d ≠ i2 → h₁.get? d = some o → h.get? d = some o) → h.get? S = some { cls := .type "list", dict := none, data := .seq acc c, slots := #[] } →
      acc.toList = ts.map Value.ref → ts.length = i → ZGot xs ys lo h ts → lo ≤ h.objs.size →
      codeAny (model prog w) A (.builtin "list.extend.loop" ⟨[.ref S, .ref z, res], []⟩) R { s with heap := h, toks := tk } := by
  intro k
  induction k with
  | zero =>
    intro i h tk c acc ts hk hi st kp hS ha hl g hlo
    refine codeAny_builtin PySem.F.entry_extend_loop (by
      rw [Around.under_plainId PySem.F.plain_extend_loop _]
      show wpAny _ A.in1 (pyNext (.ref z) >>= _) _ _ _
      refine wpAny_bind (ZOn.stop (s := { s with heap := h, toks := tk }) (A := A.in1) hh D st ?_ fun h' kz => ?_)
      · rcases Nat.le_total xs.size ys.size with c1 | c1
        · exact .inl (Array.getElem?_eq_none (by omega))
        · exact .inr (Array.getElem?_eq_none (by omega))
      · refine wpAny_pure (q h' tk acc c ts (fun d o d0 d1 d2 d3 d4 e => kz d o d1 d2 d3 d4 (kp d o d0 d1 d2 d3 d4 e)) (kz S _ (Ne.symm F.z) (Ne.symm F.to) (Ne.symm F.n1) (Ne.symm F.n2) hS) (by omega) (g.move fun t o ht e => ?_) ha)
        exact kz t o (zl_ne L.z ht) (zl_ne L.to ht) (zl_ne L.n1 ht) (zl_ne L.n2 ht) e)
  | succ k ih =>
    intro i h tk c acc ts hk hi st kp hS ha hl g hlo
    have hlt : i < min xs.size ys.size := by omega
    have hx : xs[i]? = some (xs[i]'(by omega)) := Array.getElem?_eq_getElem _
    have hy : ys[i]? = some (ys[i]'(by omega)) := Array.getElem?_eq_getElem _
    have hsz : acc.size = i := by rw [← Array.length_toList, ha, List.length_map, hl]
    refine codeAny_builtin PySem.F.entry_extend_loop (by
      rw [Around.under_plainId PySem.F.plain_extend_loop _]
      show wpAny _ A.in1 (pyNext (.ref z) >>= _) _ _ _
      refine wpAny_bind (ZOn.item (s := { s with heap := h, toks := tk }) (S := S) D st hx hy (Heap.lt_size hS) fun h' st' ht kz => ?_)
      dsimp only at ht kz ⊢
      have hS' := kz S _ (Ne.symm F.z) (Ne.symm F.to) (Ne.symm F.n1) (Ne.symm F.n2) hS
      have up : ∀ d o, d ≠ S → h'.get? d = some o → (h'.update S (Obj.mapSeq (·.push (Value.ref h.objs.size)))).get? d = some o := fun d o hd e => (Heap.get?_update_other _ _ (Ne.symm hd)).trans e
      have hSl : S < h.objs.size := Heap.lt_size hS
      have ht' : IsPair (h'.update S (Obj.mapSeq (·.push (Value.ref h.objs.size)))) h.objs.size _ _ := up _ _ (Nat.ne_of_gt hSl) ht
      have g' : ZGot xs ys lo (h'.update S (Obj.mapSeq (·.push (Value.ref h.objs.size)))) ts := g.move fun t o hl e => up t o (zl_ne L.s hl) (kz t o (zl_ne L.z hl) (zl_ne L.to hl) (zl_ne L.n1 hl) (zl_ne L.n2 hl) e)
      show wpAny _ A.in1 (updateSeq S (·.push (Value.ref h.objs.size)) >>= _) _ _ _
      refine wpAny_bind (wpAny_updateSeq hS' rfl (wpAny_pure ⟨plainId_quiet PySem.F.plain_extend_loop _, ih (i + 1) _ tk _ (acc.push (Value.ref h.objs.size)) (ts ++ [h.objs.size]) (by omega) hlt (st'.keep F up)
        (fun d o d0 d1 d2 d3 d4 e => up d o d0 (kz d o d1 d2 d3 d4 (kp d o d0 d1 d2 d3 d4 e))) (Heap.get?_update_self _ hS' rfl) (by rw [Array.toList_push, ha, List.map_append]; rfl) (by rw [List.length_append, hl]; rfl)
        (g'.more (by rw [hl]; exact hx) (by rw [hl]; exact hy) ht' hlo fun u hu => g.there hu) ?_⟩) (by rw [hsz]; omega) (by show (acc.push (Value.ref h.objs.size)).size ≤ sizeLine + 1; rw [Array.size_push, hsz]; omega))
      exact Nat.le_trans hlo (Nat.le_of_lt (Heap.lt_size ht')))
end
section
variable {prog : Program} {w : World} {A : Around} {E : Value → Shared → Prop} {s : Shared} {z TI TO i1 i2 a b S lo : Addr} {xs ys : Array Value}
/-- a zip that nothing has been taken of -/
structure ZNew (z TI TO i1 i2 a b : Addr) (xs ys : Array Value) (h : Heap) : Prop where
  ti : IsPair h TI (.ref i1) (.ref i2)
  n1 : h.IsListIter i1 a 0
  n2 : h.IsListIter i2 b 0
  la : h.IsList a xs
  lb : h.IsList b ys
  zz : IsZip h z TI TO .none
  to : ∃ u v, IsPair h TO u v
theorem ZNew.keep {h h' : Heap} (st : ZNew z TI TO i1 i2 a b xs ys h) (k : ∀ c o, c < h.objs.size → h.get? c = some o → h'.get? c = some o) : ZNew z TI TO i1 i2 a b xs ys h' := by
  have kk : ∀ c o, h.get? c = some o → h'.get? c = some o := fun c o e => k c o (Heap.lt_size e) e
  obtain ⟨u, v, ho⟩ := st.to
  exact ⟨kk _ _ st.ti, st.n1.at fun o e => kk _ o e, st.n2.at fun o e => kk _ o e, st.la.at fun o e => kk _ o e, st.lb.at fun o e => kk _ o e, kk _ _ st.zz, u, v, kk _ _ ho⟩
theorem ZNew.on {h : Heap} (st : ZNew z TI TO i1 i2 a b xs ys h) : ZOn z TI TO i1 i2 a b S xs ys 0 h := ⟨st.ti, st.n1, st.n2, st.la, st.lb, .inl ⟨st.zz, st.to⟩⟩
theorem ZNew.lt {h : Heap} (st : ZNew z TI TO i1 i2 a b xs ys h) (hS : h.objs.size ≤ S) : ZOff z TI TO i1 i2 a b S := by
  have lt : ∀ {c : Addr} {o : Obj}, h.get? c = some o → c ≠ S := fun e => Nat.ne_of_lt (Nat.lt_of_lt_of_le (Heap.lt_size e) hS)
  obtain ⟨u, v, ho⟩ := st.to
  obtain ⟨_, e1, _⟩ := st.n1
  obtain ⟨_, e2, _⟩ := st.n2
  obtain ⟨_, e3, _⟩ := st.la
  obtain ⟨_, e4, _⟩ := st.lb
  exact ⟨lt st.zz, lt st.ti, lt ho, lt e1, lt e2, lt e3, lt e4⟩
theorem ZNew.low {h : Heap} (st : ZNew z TI TO i1 i2 a b xs ys h) (hS : h.objs.size ≤ S) : ZLow z TO i1 i2 S (S + 1) := by
  have lt : ∀ {c : Addr} {o : Obj}, h.get? c = some o → c < S + 1 := fun e => Nat.lt_succ_of_lt (Nat.lt_of_lt_of_le (Heap.lt_size e) hS)
  obtain ⟨u, v, ho⟩ := st.to
  obtain ⟨_, e1, _⟩ := st.n1
  obtain ⟨_, e2, _⟩ := st.n2
  exact ⟨lt st.zz, lt ho, lt e1, lt e2, Nat.lt_succ_self _⟩
theorem zl_extend {R : Result → Shared → Prop} {c₀ : Nat} (hh : A.handled = none) (D : ZipApart z TI TO i1 i2 a b) (st : ZNew z TI TO i1 i2 a b xs ys s.heap) (F : ZOff z TI TO i1 i2 a b S) (L : ZLow z TO i1 i2 S lo) (hlo : lo ≤ s.heap.objs.size) (res : Value)
    (hS : s.heap.get? S = some { cls := .type "list", data := .seq #[] c₀ }) (hn : min xs.size ys.size ≤ sizeLine)
    (q : ∀ h' tk acc c ts, (∀ d o, d ≠ S → d ≠ z → d ≠ TO → d ≠ i1 → d ≠ i2 → s.heap.get? d = some o → h'.get? d = some o) → h'.get? S = some { cls := .type "list", dict := none, data := .seq acc c, slots := #[] } →
      ts.length = min xs.size ys.size → ZGot xs ys lo h' ts → acc.toList = ts.map Value.ref → R (.ok (.ret res)) { s with heap := h', toks := tk }) :
    wpAny (model prog w) A.in1 (Builtin.List.listExtendWith (.ref S) (.ref z) res)
      (fun fin s' => match fin with | .done f => R (.ok f) s' | .again c' => c'.quiet = true ∧ codeAny (model prog w) A c' R s') (fun e s' => R (.error e) s') s := by
  have hT : s.TypeIs (.ref z) "zip" := ⟨_, st.zz, rfl⟩
  have h1 : Builtin.List.listSameRef (.ref S) (.ref z) = false := by
    have := F.z
    simp [Builtin.List.listSameRef, Ne.symm this]
  unfold Builtin.List.listExtendWith
  refine wpAny_bind (wpAny_typeOf hT ?_)
  rw [if_neg (by rw [h1]; decide)]
  refine wpAny_bind (wpAny_pyIter_zip st.zz (wpAny_bind (wpAny_holding ?_)))
  unfold Builtin.List.listLengthHint
  refine wpAny_bind (wpAny_specialOf hT zl_len ?_)
  show wpAny _ A.in1 (specialOf (Value.ref z) (Str.ofString "__length_hint__") >>= _) _ _ _
  refine wpAny_bind (wpAny_specialOf hT zl_hint (wpAny_pure ?_))
  show wpAny _ A.in1 (rule "list.extend.makes-room" >>= fun _ => Builtin.List.listTouch (.ref S) >>= fun _ => again (.builtin "list.extend.loop" ⟨[.ref S, .ref z, res], []⟩)) _ _ _
  refine wpAny_bind (wpAny_rule (wpAny_bind ?_))
  show wpAny _ A.in1 (updateSeq S (·.push .none) >>= fun _ => updateSeq S (·.pop)) _ _ _
  have hS2 := Heap.get?_update_self (Obj.mapSeq (·.push Value.none)) hS rfl
  have hS3 := Heap.get?_update_self (Obj.mapSeq (·.pop)) hS2 rfl
  have up : ∀ d o, d ≠ S → s.heap.get? d = some o → ((s.heap.update S (Obj.mapSeq (·.push Value.none))).update S (Obj.mapSeq (·.pop))).get? d = some o := fun d o hd e =>
    (Heap.get?_update_other _ _ (Ne.symm hd)).trans ((Heap.get?_update_other _ _ (Ne.symm hd)).trans e)
  refine wpAny_bind (wpAny_updateSeq hS rfl (wpAny_updateSeq (hz := by seq_fits) hS2 rfl (wpAny_pure ⟨plainId_quiet PySem.F.plain_extend_loop _, ?_⟩)))
  refine zl_loop (s := s) (h₁ := s.heap) hh D F L res hn q (min xs.size ys.size) 0 _ s.toks _ #[] [] (Nat.sub_zero _) (Nat.zero_le _) (st.on.keep F up) (fun d o d0 _ _ _ _ e => up d o d0 e) hS3 rfl rfl ⟨List.Pairwise.nil, (fun _ m => nomatch m), (fun j t e => by simp at e)⟩ ?_
  have z1 := (Heap.SameBut.update s.heap S (Obj.mapSeq (·.push Value.none))).1
  have z2 := (Heap.SameBut.update (s.heap.update S (Obj.mapSeq (·.push Value.none))) S (Obj.mapSeq (·.pop))).1
  exact Nat.le_trans hlo (Nat.le_of_eq (z1.symm.trans z2.symm))
end
section
variable {prog : Program} {w : World} {A : Around} {E : Value → Shared → Prop} {s : Shared} {z TI TO i1 i2 a b S lo : Addr} {xs ys : Array Value}
theorem zl_init {R : Result → Shared → Prop} (hh : A.handled = none) (D : ZipApart z TI TO i1 i2 a b) (st : ZNew z TI TO i1 i2 a b xs ys s.heap) (F : ZOff z TI TO i1 i2 a b S) (L : ZLow z TO i1 i2 S lo) (hlo : lo ≤ s.heap.objs.size)
    (hS : s.heap.get? S = some { cls := .type "list", data := .seq #[] }) (hn : min xs.size ys.size ≤ sizeLine)
    (q : ∀ h' tk acc c ts, (∀ d o, d ≠ S → d ≠ z → d ≠ TO → d ≠ i1 → d ≠ i2 → s.heap.get? d = some o → h'.get? d = some o) → h'.get? S = some { cls := .type "list", dict := none, data := .seq acc c, slots := #[] } →
      ts.length = min xs.size ys.size → ZGot xs ys lo h' ts → acc.toList = ts.map Value.ref → R (.ok (.ret .none)) { s with heap := h', toks := tk }) :
    wpAny (model prog w) A.in1 (Builtin.«list.__init__» ⟨[.ref S, .ref z], []⟩)
      (fun fin s' => match fin with | .done f => R (.ok f) s' | .again c' => c'.quiet = true ∧ codeAny (model prog w) A c' R s') (fun e s' => R (.error e) s') s := by
  show wpAny _ _ (Builtin.List.listItems (.ref S) >>= fun old => Builtin.List.listUpdate (.ref S) (fun _ => #[]) >>= fun _ => letGo old.toList.reverse >>= fun _ => Builtin.List.listExtendWith (.ref S) (.ref z) .none) _ _ s
  refine wpAny_bind ?_
  unfold Builtin.List.listItems
  refine wpAny_bind (wpAny_seqItems hS rfl (wpAny_pure ?_))
  show wpAny _ _ (updateSeq S (fun _ => #[]) >>= fun _ => letGo (#[] : Array Value).toList.reverse >>= fun _ => _) _ _ s
  have hS2 := Heap.get?_update_self (Obj.mapSeq (fun _ => (#[] : Array Value))) hS rfl
  have up : ∀ d o, d ≠ S → s.heap.get? d = some o → (s.heap.update S (Obj.mapSeq (fun _ => (#[] : Array Value)))).get? d = some o := fun d o hd e => (Heap.get?_update_other _ _ (Ne.symm hd)).trans e
  obtain ⟨u, v, ho⟩ := st.to
  refine wpAny_bind (wpAny_updateSeq hS rfl (wpAny_bind (wpAny_letGo ?_)))
  refine zl_extend hh D ⟨up _ _ F.ti st.ti, st.n1.at fun o e => up _ o F.n1 e, st.n2.at fun o e => up _ o F.n2 e, st.la.at fun o e => up _ o F.la e, st.lb.at fun o e => up _ o F.lb e, up _ _ F.z st.zz, u, v, up _ _ F.to ho⟩ F L
    (Nat.le_trans hlo (Nat.le_of_eq (Heap.SameBut.update s.heap S (Obj.mapSeq (fun _ => (#[] : Array Value)))).1.symm)) .none hS2 hn fun h' tk acc c ts k => q h' tk acc c ts fun d o d0 d1 d2 d3 d4 e => k d o d0 d1 d2 d3 d4 (up d o d0 e)
theorem zl_call {Q : Value → Shared → Prop} (hh : A.handled = none) (D : ZipApart z TI TO i1 i2 a b) (st : ZNew z TI TO i1 i2 a b xs ys s.heap) (hn : min xs.size ys.size ≤ sizeLine)
    (q : ∀ h' tk acc c ts, (∀ d o, d ≠ z → d ≠ TO → d ≠ i1 → d ≠ i2 → s.heap.get? d = some o → h'.get? d = some o) → h'.get? s.heap.objs.size = some { cls := .type "list", dict := none, data := .seq acc c, slots := #[] } →
      ts.length = min xs.size ys.size → ZGot xs ys (s.heap.objs.size + 1) h' ts → acc.toList = ts.map Value.ref → Q (.ref s.heap.objs.size) { s with heap := h', toks := tk }) :
    wpAny (model prog w) A (call (.type "list") [.ref z]) Q E s := by
  refine callType_codes (Q₁ := fun obj r => obj = .ref s.heap.objs.size ∧ r = { s with heap := s.heap.push { cls := .type "list", data := .seq #[] } }) PySem.F.called_list (PySem.F.typeCall_list_1 _) PySem.F.entry_list_init (code_list_new _ ⟨rfl, rfl⟩) fun obj r hr => ?_
  obtain ⟨rfl, rfl⟩ := hr
  have hS : (s.heap.push { cls := .type "list", data := .seq #[] }).get? s.heap.objs.size = some { cls := .type "list", data := .seq (#[] : Array Value) } := Heap.get?_push_size _ rfl
  have F : ZOff z TI TO i1 i2 a b s.heap.objs.size := st.lt (Nat.le_refl _)
  refine ⟨⟨_, hS, rfl⟩, PySem.F.args_list_init_2 _ _, zl_init (A := A.in1) hh D (st.keep fun c o _ e => Heap.get?_push_of_some _ e) F (st.low (Nat.le_refl _)) (Nat.le_of_eq (Heap.size_push ..).symm) hS hn fun h' tk acc c ts k h2 h3 h4 h5 => ?_⟩
  exact ⟨rfl, q h' tk acc c ts (fun d o d1 d2 d3 d4 e => k d o (Nat.ne_of_lt (Heap.lt_size e)) d1 d2 d3 d4 (Heap.get?_push_of_some _ e)) h2 h3 h4 h5⟩
end
/-! .. as a rule: the list is new, its pairs are new -/
def layT : Hp → List (Addr × V × V) → Hp
  | H, [] => H
  | H, p :: r => layT (upd H p.1 (.tup [p.2.1, p.2.2])) r
theorem layT_old : ∀ (ps : List (Addr × V × V)) {H : Hp} {c : Addr} {o : HO}, (∀ p ∈ ps, p.1 ≠ c) → H c = some o → layT H ps c = some o
  | [], _, _, _, _, e => e
  | p :: r, _, _, _, h, e => layT_old r (fun q m => h q (List.mem_cons_of_mem _ m)) (by rw [upd_ne (Ne.symm (h p List.mem_cons_self))]; exact e)
theorem layT_none : ∀ (ps : List (Addr × V × V)) {H : Hp} {c : Addr}, (∀ p ∈ ps, p.1 ≠ c) → H c = none → layT H ps c = none
  | [], _, _, _, e => e
  | p :: r, _, _, h, e => layT_none r (fun q m => h q (List.mem_cons_of_mem _ m)) (by rw [upd_ne (Ne.symm (h p List.mem_cons_self))]; exact e)
theorem layT_at : ∀ (ps : List (Addr × V × V)) {H : Hp}, (ps.map (·.1)).Pairwise (· < ·) → ∀ p ∈ ps, layT H ps p.1 = some (.tup [p.2.1, p.2.2])
  | [], _, _, _, m => nomatch m
  | q :: r, H, h, p, m => by
    have h' := List.pairwise_cons.mp h
    rcases List.mem_cons.mp m with rfl | m
    · exact layT_old r (fun u mu => Nat.ne_of_gt (h'.1 u.1 (List.mem_map_of_mem mu))) (upd_same ..)
    · exact layT_at r h'.2 p m
theorem zl_lt {n c : Nat} (h : c < n) (k : Nat) : c ≠ n + k := by omega
theorem zl_ab {n m t : Nat} (h : m + 1 ≤ t) (e : m = n + 5) : n ≤ t ∧ t ≠ m := by omega
theorem zl_out {h : Heap} {c : Addr} (hc : h.objs.size ≤ c) : h.get? c = none := by
  cases e : h.get? c with
  | none => rfl
  | some o => exact absurd (Heap.lt_size e) (Nat.not_lt.mpr hc)
section
variable {X : Cx} {pins : List (Addr × Obj)} {σ : L2.St}
theorem lay_pairs : ∀ (ps : List (Addr × V × V)) {H : Hp} {s : Shared} {h' : Heap} (tk : Nat), Inv X pins σ H s → (∀ c o, s.heap.get? c = some o → h'.get? c = some o) → (ps.map (·.1)).Pairwise (· < ·) → (∀ p ∈ ps, s.heap.get? p.1 = none ∧ H p.1 = none) →
    (∀ p ∈ ps, ∃ u v, RelV p.2.1 u ∧ RelV p.2.2 v ∧ IsPair h' p.1 u v) → Inv X pins σ (layT H ps) { s with heap := h', toks := tk }
  | [], _, _, _, _, I, k, _, _, _ => I.kept k
  | p :: r, H, s, h', tk, I, k, hr, hn, hp => by
    have hr' := List.pairwise_cons.mp hr
    obtain ⟨G, g1, g2⟩ := restrict h' fun c => decide (c ∉ r.map (·.1))
    have ne : ∀ q ∈ r, q.1 ≠ p.1 := fun q m => Nat.ne_of_gt (hr'.1 q.1 (List.mem_map_of_mem m))
    have gp : G.get? p.1 = h'.get? p.1 := g1 _ (decide_eq_true fun m => by
      obtain ⟨q, m1, m2⟩ := List.mem_map.mp m
      exact ne q m1 m2)
    obtain ⟨u, v, ru, rv, e⟩ := hp p List.mem_cons_self
    have I1 : Inv X pins σ (upd H p.1 (.tup [p.2.1, p.2.2])) { s with heap := G, toks := tk } := by
      refine I.laidN (fun c o e => ?_) (hn p List.mem_cons_self).1 (hn p List.mem_cons_self).2 ⟨by show 2 ≤ sizeLine; decide, [u, v], .cons ru (.cons rv .nil), ⟨_, gp.trans e, rfl, _, rfl⟩⟩
      rw [g1 c (decide_eq_true fun m => ?_)]
      · exact k c o e
      · obtain ⟨q, m1, m2⟩ := List.mem_map.mp m
        have z := (hn q (List.mem_cons_of_mem _ m1)).1
        rw [m2, e] at z
        cases z
    refine lay_pairs r (s := { s with heap := G, toks := tk }) tk I1 (fun c o e => ?_) hr'.2 (fun q m => ⟨g2 _ (decide_eq_false fun z => z (List.mem_map_of_mem m)), ?_⟩) fun q m => hp q (List.mem_cons_of_mem _ m)
    · by_cases c1 : c ∈ r.map (·.1)
      · rw [show G.get? c = none from g2 c (decide_eq_false fun z => z c1)] at e
        cases e
      · rw [← g1 c (decide_eq_true c1)]
        exact e
    · rw [upd_ne (ne q m)]
      exact (hn q (List.mem_cons_of_mem _ m)).2
/-- list(zip(a, b)), both lists -/
def tListZip (K : PySem.W.Frag) (ta : TA) : TE := fun σ H Q => ta σ H fun vs H1 => ∃ a b xs ys, vs = [.ref a, .ref b] ∧ SqL K H1 a xs ∧ SqL K H1 b ys ∧
  ∀ (H2 : Hp) (p : Addr) (ts : List Addr), (∀ c o, H1 c = some o → H2 c = some o) → H1 p = none → (∀ t ∈ ts, H1 t = none) → H2 p = some (.lst (ts.map V.ref)) → ts.length = min xs.length ys.length →
    (∀ (j : Nat) (t : Addr), ts[j]? = some t → ∃ x y, xs[j]? = some x ∧ ys[j]? = some y ∧ H2 t = some (.tup [x, y])) → Q (.ref p) H2
theorem zl_trip {us vs : Array Value} {xs ys : List V} {lo : Addr} {h : Heap} {ts : List Addr} (g : ZGot us vs lo h ts) (r1 : Vals xs us.toList) (r2 : Vals ys vs.toList) (hl : ts.length = min us.size vs.size) :
    ∃ ps : List (Addr × V × V), ps.map (·.1) = ts ∧ (∀ (j : Nat) (p : Addr × V × V), ps[j]? = some p → xs[j]? = some p.2.1 ∧ ys[j]? = some p.2.2) ∧ ∀ p ∈ ps, ∃ u v, RelV p.2.1 u ∧ RelV p.2.2 v ∧ IsPair h p.1 u v := by
  have l1 : xs.length = us.size := by rw [r1.length, Array.length_toList]
  have l2 : ys.length = vs.size := by rw [r2.length, Array.length_toList]
  have lz : ts.length = (xs.zip ys).length := by rw [List.length_zip, hl, l1, l2]
  have at' : ∀ (j : Nat) (p : Addr × V × V), (ts.zip (xs.zip ys))[j]? = some p → ts[j]? = some p.1 ∧ xs[j]? = some p.2.1 ∧ ys[j]? = some p.2.2 := fun j p e => by
    obtain ⟨e1, e2⟩ := List.getElem?_zip_eq_some.mp e
    obtain ⟨e3, e4⟩ := List.getElem?_zip_eq_some.mp e2
    exact ⟨e1, e3, e4⟩
  refine ⟨ts.zip (xs.zip ys), ?_, fun j p e => (at' j p e).2, fun p m => ?_⟩
  · exact List.map_fst_zip (Nat.le_of_eq lz)
  · obtain ⟨j, e⟩ := List.mem_iff_getElem?.mp m
    obtain ⟨e1, e2, e3⟩ := at' j p e
    obtain ⟨u, v, f1, f2, f3⟩ := g.pairs j _ e1
    obtain ⟨u', q1, q2⟩ := r1.get e2
    obtain ⟨v', q3, q4⟩ := r2.get e3
    rw [Array.getElem?_toList, f1] at q1
    rw [Array.getElem?_toList, f2] at q3
    cases q1
    cases q3
    exact ⟨u, v, q2, q4, f3⟩
theorem pe_listZip {X : Cx} {e e2 : Expr} {ta : TA} {p1 q1 p2 q2 : Pos} (hc : X.calm = true) (hg : Gl X "list") (hm : X.mg "list" = none) (hg2 : Gl X "zip") (hm2 : X.mg "zip" = none) (ha : PA X [e, e2] ta)
    (na : starEach [Expr.Call (.Name "zip" p2) [e, e2] [] q2] X.env = (false, eval (.Call (.Name "zip" p2) [e, e2] [] q2) X.env) :: starEach [] X.env := by rfl)
    (hs : starEach [e, e2] X.env = (false, eval e X.env) :: starEach [e2] X.env := by rfl) (hpl : (backTo q2 (starEach [e2] X.env)).any (·.1) = false := by rfl) :
    PE X (.Call (.Name "list" p1) [.Call (.Name "zip" p2) [e, e2] [] q2] [] q1) (tListZip X.K ta) := by
  refine ⟨fun pins s σ H Q I h => ?_⟩
  have inner : wpAny (model X.prog X.w) X.A (eval (.Call (.Name "zip" p2) [e, e2] [] q2) X.env) (fun v s2 => ∃ (s1 : Shared) (H1 : Hp) (a b : Addr) (xs ys : List V) (us vs : Array Value), Inv X pins σ H1 s1 ∧ v = .ref (s1.heap.objs.size + 4) ∧ s2 = { s1 with heap := s2.heap } ∧
      ZipApart (s1.heap.objs.size + 4) (s1.heap.objs.size + 2) (s1.heap.objs.size + 3) s1.heap.objs.size (s1.heap.objs.size + 1) a b ∧ ZNew (s1.heap.objs.size + 4) (s1.heap.objs.size + 2) (s1.heap.objs.size + 3) s1.heap.objs.size (s1.heap.objs.size + 1) a b us vs s2.heap ∧
      (∀ c o, s1.heap.get? c = some o → s2.heap.get? c = some o) ∧ s2.heap.objs.size = s1.heap.objs.size + 5 ∧ Vals xs us.toList ∧ Vals ys vs.toList ∧ us.size ≤ sizeLine ∧
      ∀ (H2 : Hp) (p : Addr) (ts : List Addr), (∀ c o, H1 c = some o → H2 c = some o) → H1 p = none → (∀ t ∈ ts, H1 t = none) → H2 p = some (.lst (ts.map V.ref)) → ts.length = min xs.length ys.length →
        (∀ (j : Nat) (t : Addr), ts[j]? = some t → ∃ x y, xs[j]? = some x ∧ ys[j]? = some y ∧ H2 t = some (.tup [x, y])) → Q (.ref p) H2) X.xe s := by
    refine Call_ (ld_blt I hg2 hm2 PyProof.Rows.boot_zip (PyProof.Rows.callWith_type1 (thn (ha.run q2 pins s σ H _ I h) fun us s1 ⟨vs, H1, I1, r1, q⟩ => ?_) hs hpl))
    obtain ⟨a, b, xs, ys, ex, sx, sy, q⟩ := q
    subst ex
    cases r1 with
    | cons r rr =>
      cases rr with
      | cons r' rr =>
        cases rr
        cases r
        cases r'
        obtain ⟨its, rv, t1, z1⟩ := I1.list sx
        obtain ⟨its2, rv2, t2, _⟩ := I1.list sy
        refine call_zip_2 t1.isList t2.isList fun h' hz hTI hTO n1 n2 hsz hk => ?_
        refine ⟨s1, H1, a, b, xs, ys, its.toArray, its2.toArray, I1, rfl, rfl, PySem.W.ktu_apart s1.heap.objs.size a b t1.lt t2.lt, ⟨hTI, n1, n2, t1.isList.at fun o e => hk _ o e, t2.isList.at fun o e => hk _ o e, hz, _, _, hTO⟩, hk, hsz, rv, rv2, ?_, q⟩
        rw [List.size_toArray, ← rv.length]
        exact z1
  refine Call_ (ld_blt I hg hm boot_list (PyProof.Rows.callWith_type1 (args_cons (thn inner fun v s2 ⟨s1, H1, a, b, xs, ys, us, vs, I1, ev, es, D, st, kp, hsz, rv, rv2, hn, q⟩ => args_nil ?_) na) na))
  subst ev
  have hd : X.A.handled = none := I1.ok.hd hc
  have hmin : min us.size vs.size ≤ sizeLine := Nat.le_trans (Nat.min_le_left ..) hn
  refine zl_call hd D st hmin fun h' tk acc c ts k hS hl g hacc => ?_
  have keep : ∀ c o, s1.heap.get? c = some o → h'.get? c = some o := fun c o e => by
    have lt := Heap.lt_size e
    exact k c o (zl_lt lt 4) (zl_lt lt 3) (zl_lt lt 0) (zl_lt lt 1) (kp c o e)
  have new : ∀ c, s1.heap.objs.size ≤ c → s1.heap.get? c = none ∧ H1 c = none := fun c hc => ⟨zl_out hc, I1.hok.fresh hc⟩
  have above : ∀ t ∈ ts, s1.heap.objs.size ≤ t ∧ t ≠ s2.heap.objs.size := fun t m => by
    have z := g.above t m
    exact zl_ab z hsz
  obtain ⟨ps, e1, e2, e3⟩ := zl_trip g rv rv2 hl
  have mem : ∀ p ∈ ps, p.1 ∈ ts := fun p m => by rw [← e1]; exact List.mem_map_of_mem m
  obtain ⟨G, g1, g2⟩ := restrict h' fun c => decide (c ≠ s2.heap.objs.size)
  have I2 : Inv X pins σ (layT H1 ps) { s1 with heap := G, toks := tk } := by
    refine lay_pairs ps tk I1 (fun c o e => ?_) (by rw [e1]; exact g.rise) (fun p m => new _ (above _ (mem p m)).1) fun p m => ?_
    · rw [g1 c (decide_eq_true fun z => ?_)]
      · exact keep c o e
      · have lt := Heap.lt_size e
        rw [z, hsz] at lt
        exact absurd lt (Nat.not_lt.mpr (Nat.le_add_right _ 5))
    · obtain ⟨u, v, f1, f2, f3⟩ := e3 p m
      exact ⟨u, v, f1, f2, (g1 _ (decide_eq_true (above _ (mem p m)).2)).trans f3⟩
  have hp0 : H1 s2.heap.objs.size = none := (new _ (by rw [hsz]; omega)).2
  have hn0 : layT H1 ps s2.heap.objs.size = none := layT_none ps (fun p m => (above _ (mem p m)).2) hp0
  have I3 : Inv X pins σ (upd (layT H1 ps) s2.heap.objs.size (.lst (ts.map V.ref))) { s1 with heap := h', toks := tk } := by
    refine I2.laidN (fun c o e => ?_) (g2 _ (decide_eq_false fun z => z rfl)) hn0 ⟨?_, acc.toList, c, ?_, ?_⟩
    · by_cases cc : c = s2.heap.objs.size
      · rw [cc, show G.get? s2.heap.objs.size = none from g2 _ (decide_eq_false fun z => z rfl)] at e
        cases e
      · rw [← g1 c (decide_eq_true cc)]
        exact e
    · rw [List.length_map, hl]
      exact hmin
    · rw [hacc]
      exact vals_refs ts
    · rw [Array.toArray_toList]
      exact hS
  have old : ∀ c o, H1 c = some o → ∀ t, H1 t = none → t ≠ c := fun c o e t n z => by
    rw [z, e] at n
    cases n
  have l1 : xs.length = us.size := by rw [rv.length, Array.length_toList]
  have l2 : ys.length = vs.size := by rw [rv2.length, Array.length_toList]
  rw [es]
  refine ⟨.ref s2.heap.objs.size, _, I3, rfl, q _ _ ts (fun c o e => ?_) hp0 (fun t m => (new t (above t m).1).2) (upd_same ..) (by rw [hl, l1, l2]) fun j t e => ?_⟩
  · rw [upd_ne (Ne.symm (old c o e _ hp0))]
    exact layT_old ps (fun p m => old c o e _ (new _ (above _ (mem p m)).1).2) e
  · rw [← e1, List.getElem?_map] at e
    cases ej : ps[j]? with
    | none =>
      rw [ej] at e
      cases e
    | some p =>
      rw [ej] at e
      obtain rfl : p.1 = t := by simpa using e
      obtain ⟨f1, f2⟩ := e2 j p ej
      refine ⟨p.2.1, p.2.2, f1, f2, ?_⟩
      rw [upd_ne (above _ (mem p (List.mem_of_getElem? ej))).2]
      exact layT_at ps (by rw [e1]; exact g.rise) p (List.mem_of_getElem? ej)
end

def top (i : Nat) : Stmt := PySem.Challenge.pw_mastword_k12_stretches_of_arms.main.body.getD i (.Pass ⟨0, 0, 0, 0⟩)
abbrev s_p_runs : Stmt := top 2
theorem sc_p_runs : FnScope ["shown", "padded", "signing", "place", "sign", "firsts", "lasts"] ["shown"] (defScope s_p_runs) := ⟨rfl, rfl, rfl, by decide +kernel, rfl, by decide +kernel, by decide +kernel⟩
abbrev s_l_cell : Stmt := top 4
theorem sc_l_cell : FnScope ["_law_script", "_law_at"] ["_law_script", "_law_at"] (defScope s_l_cell) := ⟨rfl, rfl, rfl, by decide +kernel, rfl, by decide +kernel, by decide +kernel⟩
abbrev s_l_row : Stmt := top 5
theorem sc_l_row : FnScope ["_law_cell_here", "_law_many", "_law_size", "_law_row_here", "_law_rest", "_law_k", "_law_seed", "_law_mixed"] ["_law_cell_here", "_law_many", "_law_size"] (defScope s_l_row) := ⟨rfl, rfl, rfl, by decide +kernel, rfl, by decide +kernel, by decide +kernel⟩
abbrev s_l_like : Stmt := top 6
theorem sc_l_like : FnScope ["_law_found", "_law_due_here", "_law_k"] ["_law_found", "_law_due_here"] (defScope s_l_like) := ⟨rfl, rfl, rfl, by decide +kernel, rfl, by decide +kernel, by decide +kernel⟩
abbrev s_l_shown : Stmt := top 7
theorem sc_l_shown : FnScope ["_law_script", "_law_at", "_law_pick", "_law_many", "_law_nums", "_law_shown_here", "_law_asleep", "_law_fogs", "_law_place", "_law_num"] ["_law_script", "_law_at"] (defScope s_l_shown) := ⟨rfl, rfl, rfl, by decide +kernel, rfl, by decide +kernel, by decide +kernel⟩
abbrev s_l_due : Stmt := top 8
theorem sc_l_due : FnScope ["_law_shown_here", "_law_found", "_law_first", "_law_last"] ["_law_shown_here"] (defScope s_l_due) := ⟨rfl, rfl, rfl, by decide +kernel, rfl, by decide +kernel, by decide +kernel⟩
abbrev s_law : Stmt := top 9
theorem sc_law : FnScope ["_law_script", "_law_some", "_law_shown_here", "_law_handed", "_law_found"] ["_law_script"] (defScope s_law) := ⟨rfl, rfl, rfl, by decide +kernel, rfl, by decide +kernel, by decide +kernel⟩
structure Txt (K : PySem.W.Frag) (mg : Str → Option Value) where
  f_p_runs : Addr
  d_p_runs : FuncData
  F_p_runs : Fun K "runs" "runs" s_p_runs f_p_runs d_p_runs
  b_p_runs : Binds K d_p_runs ["shown"] []
  g_p_runs : mg "runs" = some (.ref f_p_runs)
  f_l_cell : Addr
  d_l_cell : FuncData
  F_l_cell : Fun K "_law_cell" "_law_cell" s_l_cell f_l_cell d_l_cell
  b_l_cell : Binds K d_l_cell ["_law_script", "_law_at"] []
  g_l_cell : mg "_law_cell" = some (.ref f_l_cell)
  f_l_row : Addr
  d_l_row : FuncData
  F_l_row : Fun K "_law_row" "_law_row" s_l_row f_l_row d_l_row
  b_l_row : Binds K d_l_row ["_law_cell_here", "_law_many", "_law_size"] []
  g_l_row : mg "_law_row" = some (.ref f_l_row)
  f_l_like : Addr
  d_l_like : FuncData
  F_l_like : Fun K "_law_like" "_law_like" s_l_like f_l_like d_l_like
  b_l_like : Binds K d_l_like ["_law_found", "_law_due_here"] []
  g_l_like : mg "_law_like" = some (.ref f_l_like)
  f_l_shown : Addr
  d_l_shown : FuncData
  F_l_shown : Fun K "_law_shown" "_law_shown" s_l_shown f_l_shown d_l_shown
  b_l_shown : Binds K d_l_shown ["_law_script", "_law_at"] []
  g_l_shown : mg "_law_shown" = some (.ref f_l_shown)
  f_l_due : Addr
  d_l_due : FuncData
  F_l_due : Fun K "_law_due" "_law_due" s_l_due f_l_due d_l_due
  b_l_due : Binds K d_l_due ["_law_shown_here"] []
  g_l_due : mg "_law_due" = some (.ref f_l_due)
  u_REST : Value
  c_REST : mg "REST" = some u_REST
  r_REST : RelV (.int 0) u_REST
  m_list : mg "list" = none
  m_zip : mg "zip" = none
  m_enumerate : mg "enumerate" = none
  m_len : mg "len" = none
  m_range : mg "range" = none
  m_isinstance : mg "isinstance" = none
  m_bool : mg "bool" = none
  m_int : mg "int" = none
  m_str : mg "str" = none
  m_all : mg "all" = none
  m_tuple : mg "tuple" = none
section
variable {P : Program} {w : World} {K : PySem.W.Frag} {mg : Str → Option Value} {base : Heap}
/-! ### _law_cell: an int of the script -/
def cellV (ns : List Int) (j : Nat) : Int :=
  if j < ns.length then ns.getD j 0 else if ns.length = 0 then 29 * (j : Int) + 5 else ns.getD (j % ns.length) 0 % 1000003 + 103 * (j : Int)
def sp_l_cell (K : PySem.W.Frag) : Sp := fun vs H Q _ => ∃ (l : Addr) (ns : List Int) (j : Nat), vs = [.ref l, .int j] ∧ SqL K H l (ns.map V.int) ∧ j ≤ 100000 ∧ Q (.int (cellV ns j)) H
theorem getD_at {ns : List Int} {j : Nat} (h : j < ns.length) : atI (ns.map V.int) (j : Int) = some (.int (ns.getD j 0)) := by
  rw [at_int h, List.getD_eq_getElem?_getD, List.getElem?_eq_getElem h]
  rfl
theorem ok_l_cell (T : Txt K mg) : FnOk P w K mg base CX0 1 T.f_l_cell T.d_l_cell ["_law_script", "_law_at"] (sp_l_cell K) := by
  refine T.F_l_cell.ok sc_l_cell (fun vs H Q E h => ?_) (fun cdv A outer s H vs Q E hr h => ?_)
  · obtain ⟨l, ns, j, rfl, _⟩ := h
    rfl
  · obtain ⟨l, ns, j, rfl, hS, hj, k⟩ := h
    have hlen : ((ns.map V.int).length : Int) = (ns.length : Int) := by rw [List.length_map]
    refine ⟨_, (pss_cons (ps_if (pt_cmpR op_lt (pv 1) (pe_callB call_len_seq (by rfl) T.m_len PySem.boot_len (pa_cons (pv 0) pa_nil)) (nomark _))
      (pss_one (ps_ret (pe_ix ix_list (pv 0) (pv 1) (fun _ _ => rfl))))
      pss_nil)
      (pss_cons (ps_if (pt_cmpR op_eq (pe_callB call_len_seq (by rfl) T.m_len PySem.boot_len (pa_cons (pv 0) pa_nil)) pe_int (nomark _))
      (pss_one (ps_ret (pe_op op_add (pe_op op_mul pe_int (pv 1)) pe_int)))
      pss_nil)
      (pss_one (ps_ret (pe_op op_add (pe_op op_mod (pe_ix ix_list (pv 0) (pe_op op_mod (pv 1) (pe_callB call_len_seq (by rfl) T.m_len PySem.boot_len (pa_cons (pv 0) pa_nil))) (fun _ _ => rfl)) pe_int) (pe_op op_mul pe_int (pv 1))))))), ?_⟩
    refine ⟨_, rfl, _, rfl, l, _, rfl, .inl hS, _, _, rfl, rfl, _, rfl, iteD (fun c => ?_) (fun c => ?_)⟩
    · rw [hlen] at c
      refine ⟨_, rfl, _, rfl, l, _, _, _, rfl, rfl, hS, getD_at (show j < ns.length by omega), ?_⟩
      have e : cellV ns j = ns.getD j 0 := if_pos (by omega)
      rw [e] at k
      exact k
    · rw [hlen] at c
      refine ⟨_, rfl, l, _, rfl, .inl hS, rfl, _, rfl, iteD (fun c2 => ?_) (fun c2 => ?_)⟩
      · have c3 : (ns.length : Int) = 0 := by
          have z := V.int.inj c2
          rw [hlen] at z
          exact z
        have e : cellV ns j = 29 * (j : Int) + 5 := by
          unfold cellV
          rw [if_neg (by omega), if_pos (by omega)]
        rw [e] at k
        exact ⟨_, rfl, _, _, rfl, rfl, .inl ⟨by decide, by decide⟩, _, _, rfl, rfl, k⟩
      · have c3 : ns.length ≠ 0 := fun z => c2 (by rw [hlen, z]; rfl)
        have hm : j % ns.length < ns.length := Nat.mod_lt _ (by omega)
        have e : cellV ns j = ns.getD (j % ns.length) 0 % 1000003 + 103 * (j : Int) := by
          unfold cellV
          rw [if_neg (by omega), if_neg c3]
        rw [e] at k
        have ea : atI (ns.map V.int) ((j : Int) % ((ns.map V.int).length : Int)) = some (.int (ns.getD (j % ns.length) 0)) := by
          rw [hlen, ← Int.natCast_emod]
          exact getD_at hm
        exact ⟨_, rfl, _, rfl, _, rfl, l, _, rfl, .inl hS, _, _, rfl, rfl, (by show (0 : Int) < ((ns.map V.int).length : Int); rw [hlen]; omega), l, _, _, _, rfl, rfl, hS, ea, _, _, rfl, rfl, (by show (0 : Int) < 1000003; decide), _, rfl, _, _, rfl, rfl, .inl ⟨by decide, by decide⟩, _, _, rfl, rfl, k⟩
/-! ### _law_like of one datum with itself -/
inductive Dn : Nat → PyData → Prop
  | non (n : Nat) : Dn (n + 1) .none
  | bl (n : Nat) (b : Bool) : Dn (n + 1) (.bool b)
  | int (n : Nat) (i : Int) : Dn (n + 1) (.int i)
  | str (n : Nat) (x : Str) : Dn (n + 1) (.str x)
  | lst {n : Nat} {ds : List PyData} : (∀ d ∈ ds, Dn n d) → ds.length ≤ 10000 → Dn (n + 1) (.list ds)
  | tup {n : Nat} {ds : List PyData} : (∀ d ∈ ds, Dn n d) → ds.length ≤ 10000 → Dn (n + 1) (.tuple ds)
def tyN : PyData → String
  | .none => "NoneType" | .bool _ => "bool" | .int _ => "int" | .str _ => "str" | .list _ => "list" | .tuple _ => "tuple" | .dict _ => "dict"
theorem ty_of {K : PySem.W.Frag} {H : Hp} {v : V} {d : PyData} (h : Dp K H v d) : TyX K H v (.type (tyN d)) := by
  cases h with
  | non => exact .base .non
  | bl b => exact .base (.bl b)
  | int i => exact .base (.int i)
  | str x => exact .base (.str x)
  | lst h _ =>
    rcases h with (h | ⟨o, h⟩) | ⟨o, its, n, e, c, _⟩
    · exact .base (.lst h)
    · exact .base (.frz h)
    · exact .kList e c
  | tup h _ =>
    rcases h with (h | ⟨o, h⟩) | ⟨o, its, n, e, c, _⟩
    · exact .base (.tup h)
    · exact .fTuple h
    · exact .kTuple e c
def sp_l_like (K : PySem.W.Frag) (n : Nat) : Sp := fun vs H Q _ => ∃ (u v : V) (d : PyData), vs = [u, v] ∧ Dp K H u d ∧ Dp K H v d ∧ Dn n d ∧ ∀ H', Kp H H' → Q (.bl true) H'
theorem fn_none {P : Program} {w : World} {K : PySem.W.Frag} {mg : Str → Option Value} {base : Heap} {f : Addr} {fd : FuncData} {ps : List Str} {sp : Sp} {k : Nat} (h : ∀ vs H Q E, ¬ sp vs H Q E) : FnOk P w K mg base CX0 k f fd ps sp :=
  ⟨fun vs H Q E q => (h vs H Q E q).elim, fun _ _ _ H _ _ vs Q E _ _ _ _ q => (h vs H Q E q).elim⟩
theorem bl_all {n : Nat} : ((List.replicate n true).map V.bl) = List.replicate n (V.bl true) := List.map_replicate
theorem all_rep (n : Nat) : (List.replicate n true).all id = true := by
  rw [List.all_eq_true]
  intro x hx
  rw [List.eq_of_mem_replicate hx]
  rfl
theorem k_bb : kitB "bool" "bool" = some true := by decide +kernel
theorem k_bi : kitB "bool" "int" = some true := by decide +kernel
theorem k_bs : kitB "bool" "str" = some false := by decide +kernel
theorem k_bl : kitB "bool" "list" = some false := by decide +kernel
theorem k_bt : kitB "bool" "tuple" = some false := by decide +kernel
theorem k_ib : kitB "int" "bool" = some false := by decide +kernel
theorem k_ii : kitB "int" "int" = some true := by decide +kernel
theorem k_is : kitB "int" "str" = some false := by decide +kernel
theorem k_il : kitB "int" "list" = some false := by decide +kernel
theorem k_it : kitB "int" "tuple" = some false := by decide +kernel
theorem k_sb : kitB "str" "bool" = some false := by decide +kernel
theorem k_si : kitB "str" "int" = some false := by decide +kernel
theorem k_ss : kitB "str" "str" = some true := by decide +kernel
theorem k_sl : kitB "str" "list" = some false := by decide +kernel
theorem k_st : kitB "str" "tuple" = some false := by decide +kernel
theorem k_lb : kitB "list" "bool" = some false := by decide +kernel
theorem k_li : kitB "list" "int" = some false := by decide +kernel
theorem k_ls : kitB "list" "str" = some false := by decide +kernel
theorem k_ll : kitB "list" "list" = some true := by decide +kernel
theorem k_lt : kitB "list" "tuple" = some false := by decide +kernel
theorem k_tb : kitB "tuple" "bool" = some false := by decide +kernel
theorem k_ti : kitB "tuple" "int" = some false := by decide +kernel
theorem k_ts : kitB "tuple" "str" = some false := by decide +kernel
theorem k_tl : kitB "tuple" "list" = some false := by decide +kernel
theorem k_tt : kitB "tuple" "tuple" = some true := by decide +kernel
theorem dec_self {x : V} : decide (x = x) = true := decide_eq_true rfl
theorem ok_l_like (T : Txt K mg) : ∀ n : Nat, FnOk P w K mg base CX0 n T.f_l_like T.d_l_like ["_law_found", "_law_due_here"] (sp_l_like K n)
  | 0 => fn_none fun vs H Q E ⟨u, v, d, _, _, _, h, _⟩ => nomatch h
  | n + 1 => by
    have IH := ok_l_like T n
    refine T.F_l_like.ok sc_l_like (fun vs H Q E h => ?_) (fun cdv A outer s H vs Q E hr h => ?_)
    · obtain ⟨u, v, d, rfl, _⟩ := h
      rfl
    · obtain ⟨u, v, d, rfl, hu, hv, hn, k⟩ := h
      have tu := ty_of hu
      have tv := ty_of hv
      refine ⟨_, (pss_cons (ps_if (pt_cmpR op_isN (pv 1) pe_non (nomark _))
      (pss_one (ps_ret (pe_cmpR op_isN (pv 0) pe_non (nomark _))))
      pss_nil)
      (pss_cons (ps_if (pt_val (pe_callB call_isi (by rfl) T.m_isinstance (by decide +kernel) (pa_cons (pv 1) (pa_cons (pe_bltn (v := .ty "bool") (by rfl) T.m_bool (by decide +kernel) rfl) pa_nil))))
      (pss_one (ps_ret (pe_and (pe_callB call_isi (by rfl) T.m_isinstance (by decide +kernel) (pa_cons (pv 0) (pa_cons (pe_bltn (v := .ty "bool") (by rfl) T.m_bool (by decide +kernel) rfl) pa_nil))) (pe_one (pe_cmpR op_eq (pv 0) (pv 1) (nomark _))))))
      pss_nil)
      (pss_cons (ps_if (pt_val (pe_callB call_isi (by rfl) T.m_isinstance (by decide +kernel) (pa_cons (pv 1) (pa_cons (pe_bltn (v := .ty "int") (by rfl) T.m_int (by decide +kernel) rfl) pa_nil))))
      (pss_one (ps_ret (pe_and (pe_callB call_isi (by rfl) T.m_isinstance (by decide +kernel) (pa_cons (pv 0) (pa_cons (pe_bltn (v := .ty "int") (by rfl) T.m_int (by decide +kernel) rfl) pa_nil))) (pe_and (pe_not (pe_callB call_isi (by rfl) T.m_isinstance (by decide +kernel) (pa_cons (pv 0) (pa_cons (pe_bltn (v := .ty "bool") (by rfl) T.m_bool (by decide +kernel) rfl) pa_nil)))) (pe_one (pe_cmpR op_eq (pv 0) (pv 1) (nomark _)))))))
      pss_nil)
      (pss_cons (ps_if (pt_val (pe_callB call_isi (by rfl) T.m_isinstance (by decide +kernel) (pa_cons (pv 1) (pa_cons (pe_bltn (v := .ty "str") (by rfl) T.m_str (by decide +kernel) rfl) pa_nil))))
      (pss_one (ps_ret (pe_and (pe_callB call_isi (by rfl) T.m_isinstance (by decide +kernel) (pa_cons (pv 0) (pa_cons (pe_bltn (v := .ty "str") (by rfl) T.m_str (by decide +kernel) rfl) pa_nil))) (pe_one (pe_cmpR op_eq (pv 0) (pv 1) (nomark _))))))
      pss_nil)
      (pss_cons (ps_if (PW.pt (pw_or (pt_cmpR op_ne (pe_callB call_isi (by rfl) T.m_isinstance (by decide +kernel) (pa_cons (pv 1) (pa_cons (pe_bltn (v := .ty "list") (by rfl) T.m_list (by decide +kernel) rfl) pa_nil))) (pe_callB call_isi (by rfl) T.m_isinstance (by decide +kernel) (pa_cons (pv 0) (pa_cons (pe_bltn (v := .ty "list") (by rfl) T.m_list (by decide +kernel) rfl) pa_nil))) (nomark _)) (pw_or1 (pt_cmpR op_ne (pe_callB call_isi (by rfl) T.m_isinstance (by decide +kernel) (pa_cons (pv 1) (pa_cons (pe_bltn (v := .ty "tuple") (by rfl) T.m_tuple (by decide +kernel) rfl) pa_nil))) (pe_callB call_isi (by rfl) T.m_isinstance (by decide +kernel) (pa_cons (pv 0) (pa_cons (pe_bltn (v := .ty "tuple") (by rfl) T.m_tuple (by decide +kernel) rfl) pa_nil))) (nomark _)))))
      (pss_one (ps_ret pe_bl))
      pss_nil)
      (pss_one (ps_ret (pe_and (pe_cmpR op_eq (pe_callB call_len (by rfl) T.m_len PySem.boot_len (pa_cons (pv 0) pa_nil)) (pe_callB call_len (by rfl) T.m_len PySem.boot_len (pa_cons (pv 1) pa_nil)) (nomark _)) (pe_one (pe_callB (cr_all rfl) (by rfl) T.m_all (by decide +kernel) (pa_cons (pe_lc (own := [("_law_k", 2)]) (g := gName 2) (tt := tYes) (by rfl) sc_l_like.nd (pi_range1 (by rfl) T.m_range (pa_cons (pe_callB call_len (by rfl) T.m_len PySem.boot_len (pa_cons (pv 1) pa_nil)) pa_nil)) (blkOk_by (own := [("_law_k", 2)]) (N := ["_law_found", "_law_due_here", "_law_k"]) (sc := defScope s_l_like) (by decide +kernel)) (fun _ _ _ _ _ => (pg_name (i := 2) sc_l_like.nd rfl (by first | exact Or.inl rfl | exact Or.inr rfl))) (fun _ _ _ _ _ => pts_nil) (fun _ _ _ _ _ => (pe_call IH hr rfl T.g_l_like T.F_l_like.kp T.b_l_like .nil pass0 (pa_cons (pe_ix (ix_seqK K rfl) (pv 0) (pv 2) (fun _ _ => rfl)) (pa_cons (pe_ix (ix_seqK K rfl) (pv 1) (pv 2) (fun _ _ => rfl)) pa_nil))))) pa_nil))))))))))), ?_⟩
      cases hn with
      | non n =>
        cases hu
        cases hv
        refine ⟨_, rfl, rfl, _, rfl, iteTo dec_self ?_⟩
        exact ⟨_, rfl, rfl, k _ (.refl _)⟩
      | bl n b =>
        cases hu
        cases hv
        refine ⟨_, rfl, rfl, _, rfl, iteFo rfl ?_⟩
        refine ⟨_, rfl, _, _, _, _, true, rfl, .ty _, tv, kit_ty k_bb, _, rfl, iteTo rfl ?_⟩
        refine ⟨_, rfl, _, _, _, _, true, rfl, .ty _, tu, kit_ty k_bb, _, rfl, iteTo rfl ?_⟩
        refine ⟨_, rfl, _, rfl, rfl, ?_⟩
        rw [dec_self]
        exact k _ (.refl _)
      | int n i =>
        cases hu
        cases hv
        refine ⟨_, rfl, rfl, _, rfl, iteFo rfl ?_⟩
        refine ⟨_, rfl, _, _, _, _, false, rfl, .ty _, tv, kit_ty k_ib, _, rfl, iteFo rfl ?_⟩
        refine ⟨_, rfl, _, _, _, _, true, rfl, .ty _, tv, kit_ty k_ii, _, rfl, iteTo rfl ?_⟩
        refine ⟨_, rfl, _, _, _, _, true, rfl, .ty _, tu, kit_ty k_ii, _, rfl, iteTo rfl ?_⟩
        refine ⟨_, rfl, _, _, _, _, false, rfl, .ty _, tu, kit_ty k_ib, _, rfl, _, rfl, iteTo rfl ?_⟩
        refine ⟨_, rfl, _, rfl, rfl, ?_⟩
        rw [dec_self]
        exact k _ (.refl _)
      | str n x =>
        cases hu
        cases hv
        refine ⟨_, rfl, rfl, _, rfl, iteFo rfl ?_⟩
        refine ⟨_, rfl, _, _, _, _, false, rfl, .ty _, tv, kit_ty k_sb, _, rfl, iteFo rfl ?_⟩
        refine ⟨_, rfl, _, _, _, _, false, rfl, .ty _, tv, kit_ty k_si, _, rfl, iteFo rfl ?_⟩
        refine ⟨_, rfl, _, _, _, _, true, rfl, .ty _, tv, kit_ty k_ss, _, rfl, iteTo rfl ?_⟩
        refine ⟨_, rfl, _, _, _, _, true, rfl, .ty _, tu, kit_ty k_ss, _, rfl, iteTo rfl ?_⟩
        refine ⟨_, rfl, _, rfl, rfl, ?_⟩
        rw [dec_self]
        exact k _ (.refl _)
      | lst hd hl =>
        rename_i ds
        cases hu with | lst hsu hau =>
        cases hv with | lst hsv hav =>
        rename_i a xs b ys
        have lx := DpAll.len hau
        have ly := DpAll.len hav
        refine ⟨_, rfl, rfl, _, rfl, iteFo rfl ?_⟩
        refine ⟨_, rfl, _, _, _, _, false, rfl, .ty _, tv, kit_ty k_lb, _, rfl, iteFo rfl ?_⟩
        refine ⟨_, rfl, _, _, _, _, false, rfl, .ty _, tv, kit_ty k_li, _, rfl, iteFo rfl ?_⟩
        refine ⟨_, rfl, _, _, _, _, false, rfl, .ty _, tv, kit_ty k_ls, _, rfl, iteFo rfl ?_⟩
        refine ⟨_, rfl, _, _, _, _, true, rfl, .ty _, tv, kit_ty k_ll, _, rfl, _, _, _, _, true, rfl, .ty _, tu, kit_ty k_ll, rfl, _, rfl, iteFo rfl ?_⟩
        refine ⟨_, rfl, _, _, _, _, false, rfl, .ty _, tv, kit_ty k_lt, _, rfl, _, _, _, _, false, rfl, .ty _, tu, kit_ty k_lt, rfl, _, rfl, iteFo rfl ?_⟩
        refine ⟨_, rfl, _, _, rfl, .inl ⟨_, hsu, rfl⟩, _, rfl, _, _, rfl, .inl ⟨_, hsv, rfl⟩, rfl, _, rfl, iteTo (decide_eq_true (congrArg (fun z : Nat => V.int (z : Int)) (lx.trans ly.symm))) ?_⟩
        refine ⟨_, rfl, _, _, rfl, .inl ⟨_, hsv, rfl⟩, _, rfl, by omega, by omega, fun D hD => ?_⟩
        rw [Int.toNat_natCast]
        refine lc_range (lo := 0) (n := ys.length) (fun i H' => Kp H H' ∧ H' D = some (.lst (List.replicate i (V.bl true)))) ⟨Kp.new hD, upd_same⟩ (fun i H' hi ⟨kp, hDl⟩ => ?_) (fun H' ⟨kp, hDl⟩ => ?_)
        · have e0 : (0 : Int) + (i : Int) = (i : Int) := Int.zero_add _
          obtain ⟨d, hdi⟩ : ∃ d, ds[i]? = some d := ⟨_, List.getElem?_eq_getElem (by omega)⟩
          obtain ⟨x, hx, dx⟩ := DpAll.get hau hdi
          obtain ⟨y, hy, dy⟩ := DpAll.get hav hdi
          refine ⟨rfl, ?_⟩
          refine ⟨_, rfl, _, rfl, .inl ⟨_, _, _, x, rfl, rfl, kp.sqL hsu, by rw [e0]; exact atI_nat hx, _, rfl, _, rfl, .inl ⟨_, _, _, y, rfl, rfl, kp.sqL hsv, by rw [e0]; exact atI_nat hy, ?_⟩⟩⟩
          refine ⟨x, y, d, rfl, kp.dp dx, kp.dp dy, hd d (List.mem_of_getElem? hdi), fun H2 k2 => ⟨_, k2.same _ _ rfl hDl, szt (by rw [List.length_replicate]; omega), ?_⟩⟩
          exact ⟨(kp.trans k2).mut hD, by rw [upd_same, List.replicate_succ']⟩
        · refine ⟨D, List.replicate ys.length true, rfl, .inl (.inl (by rw [bl_all]; exact hDl)), ?_⟩
          rw [all_rep]
          exact k _ kp
      | tup hd hl =>
        rename_i ds
        cases hu with | tup hsu hau =>
        cases hv with | tup hsv hav =>
        rename_i a xs b ys
        have lx := DpAll.len hau
        have ly := DpAll.len hav
        refine ⟨_, rfl, rfl, _, rfl, iteFo rfl ?_⟩
        refine ⟨_, rfl, _, _, _, _, false, rfl, .ty _, tv, kit_ty k_tb, _, rfl, iteFo rfl ?_⟩
        refine ⟨_, rfl, _, _, _, _, false, rfl, .ty _, tv, kit_ty k_ti, _, rfl, iteFo rfl ?_⟩
        refine ⟨_, rfl, _, _, _, _, false, rfl, .ty _, tv, kit_ty k_ts, _, rfl, iteFo rfl ?_⟩
        refine ⟨_, rfl, _, _, _, _, false, rfl, .ty _, tv, kit_ty k_tl, _, rfl, _, _, _, _, false, rfl, .ty _, tu, kit_ty k_tl, rfl, _, rfl, iteFo rfl ?_⟩
        refine ⟨_, rfl, _, _, _, _, true, rfl, .ty _, tv, kit_ty k_tt, _, rfl, _, _, _, _, true, rfl, .ty _, tu, kit_ty k_tt, rfl, _, rfl, iteFo rfl ?_⟩
        refine ⟨_, rfl, _, _, rfl, .inr ⟨_, hsu, rfl⟩, _, rfl, _, _, rfl, .inr ⟨_, hsv, rfl⟩, rfl, _, rfl, iteTo (decide_eq_true (congrArg (fun z : Nat => V.int (z : Int)) (lx.trans ly.symm))) ?_⟩
        refine ⟨_, rfl, _, _, rfl, .inr ⟨_, hsv, rfl⟩, _, rfl, by omega, by omega, fun D hD => ?_⟩
        rw [Int.toNat_natCast]
        refine lc_range (lo := 0) (n := ys.length) (fun i H' => Kp H H' ∧ H' D = some (.lst (List.replicate i (V.bl true)))) ⟨Kp.new hD, upd_same⟩ (fun i H' hi ⟨kp, hDl⟩ => ?_) (fun H' ⟨kp, hDl⟩ => ?_)
        · have e0 : (0 : Int) + (i : Int) = (i : Int) := Int.zero_add _
          obtain ⟨d, hdi⟩ : ∃ d, ds[i]? = some d := ⟨_, List.getElem?_eq_getElem (by omega)⟩
          obtain ⟨x, hx, dx⟩ := DpAll.get hau hdi
          obtain ⟨y, hy, dy⟩ := DpAll.get hav hdi
          refine ⟨rfl, ?_⟩
          refine ⟨_, rfl, _, rfl, .inr (.inl ⟨_, _, _, x, rfl, rfl, kp.sqT hsu, by rw [e0]; exact atI_nat hx, _, rfl, _, rfl, .inr (.inl ⟨_, _, _, y, rfl, rfl, kp.sqT hsv, by rw [e0]; exact atI_nat hy, ?_⟩)⟩)⟩
          refine ⟨x, y, d, rfl, kp.dp dx, kp.dp dy, hd d (List.mem_of_getElem? hdi), fun H2 k2 => ⟨_, k2.same _ _ rfl hDl, szt (by rw [List.length_replicate]; omega), ?_⟩⟩
          exact ⟨(kp.trans k2).mut hD, by rw [upd_same, List.replicate_succ']⟩
        · refine ⟨D, List.replicate ys.length true, rfl, .inl (.inl (by rw [bl_all]; exact hDl)), ?_⟩
          rw [all_rep]
          exact k _ kp
/-! ### _law_row: so many ints from nought to below a size -/
def Drawn0 (many size : Int) (xs : List Int) : Prop := (xs.length : Int) = many ∧ ∀ x ∈ xs, 0 ≤ x ∧ x < size
def sp_l_row : Sp := fun vs H Q _ => ∃ (c many size : Int), vs = [.int c, .int many, .int size] ∧ 0 ≤ many ∧ many ≤ 1000 ∧ 0 < size ∧ size < 1073741824 ∧
  ∀ (xs : List Int) (p : Addr) (H' : Hp), H p = none → Kp H H' → H' p = some (.lst (xs.map V.int)) → Drawn0 many size xs → Q (.ref p) H'
theorem snoc_in {size z : Int} {xs : List Int} (hs : 0 < size) (h : ∀ x ∈ xs, 0 ≤ x ∧ x < size) : ∀ x ∈ xs ++ [z % size], 0 ≤ x ∧ x < size := by
  intro x hx
  rcases List.mem_append.mp hx with hx | hx
  · exact h x hx
  · rw [List.mem_singleton.mp hx]
    exact ⟨Int.emod_nonneg _ (by omega), Int.emod_lt_of_pos _ hs⟩
theorem ok_l_row (T : Txt K mg) : FnOk P w K mg base CX0 1 T.f_l_row T.d_l_row ["_law_cell_here", "_law_many", "_law_size"] sp_l_row := by
  refine T.F_l_row.ok sc_l_row (fun vs H Q E h => ?_) (fun cdv A outer s H vs Q E hr h => ?_)
  · obtain ⟨c, many, size, rfl, _⟩ := h
    rfl
  · obtain ⟨c, many, size, rfl, hm0, hm1, hs0, hs1, k⟩ := h
    refine ⟨_, (pss_cons (ps_set (i := 3) sc_l_row.nd rfl (by first | exact Or.inl rfl | exact Or.inr rfl) (pe_lst pa_nil))
      (pss_cons (ps_if (pt_cmpR op_ge (pv 0) (pe_op op_pow pe_int pe_int) (nomark _))
      (pss_cons (ps_set (i := 4) sc_l_row.nd rfl (by first | exact Or.inl rfl | exact Or.inr rfl) (pe_op op_sub (pv 0) (pe_op op_pow pe_int pe_int)))
      (pss_cons (ps_for PassesOwn.never rfl (pi_range1 (by rfl) T.m_range (pa_cons (pv 1) pa_nil)) (pg_name (i := 5) sc_l_row.nd rfl (by first | exact Or.inl rfl | exact Or.inr rfl))
      (pss_cons (ps_expr (pe_bm PySem.F.plainAttrs_list PySem.F.slot_list_append PySem.F.type_list_append mt_append (pv 3) (pa_cons (pe_op op_mod (pv 4) (pv 2)) pa_nil)))
      (pss_one (ps_set (i := 4) sc_l_row.nd rfl (by first | exact Or.inl rfl | exact Or.inr rfl) (pe_op op_fdiv (pv 4) (pv 2))))))
      (pss_one (ps_ret (pv 3)))))
      pss_nil)
      (pss_cons (ps_set (i := 6) sc_l_row.nd rfl (by first | exact Or.inl rfl | exact Or.inr rfl) (pe_op op_mod (pv 0) pe_int))
      (pss_cons (ps_for PassesOwn.never rfl (pi_range1 (by rfl) T.m_range (pa_cons (pv 1) pa_nil)) (pg_name (i := 5) sc_l_row.nd rfl (by first | exact Or.inl rfl | exact Or.inr rfl))
      (pss_cons (ps_set (i := 6) sc_l_row.nd rfl (by first | exact Or.inl rfl | exact Or.inr rfl) (pe_op op_mod (pe_op op_add (pe_op op_add (pe_op op_mul (pv 6) pe_int) pe_int) (pv 5)) pe_int))
      (pss_cons (ps_set (i := 7) sc_l_row.nd rfl (by first | exact Or.inl rfl | exact Or.inr rfl) (pe_op op_mod (pe_op op_fdiv (pe_op op_mul (pv 6) (pe_op op_add (pe_op op_mod (pv 6) pe_int) pe_int)) pe_int) pe_int))
      (pss_one (ps_expr (pe_bm PySem.F.plainAttrs_list PySem.F.slot_list_append PySem.F.type_list_append mt_append (pv 3) (pa_cons (pe_op op_mod (pv 7) (pv 2)) pa_nil)))))))
      (pss_one (ps_ret (pv 3))))))), ?_⟩
    refine ⟨Nat.zero_le _, fun p np => ?_⟩
    generalize h_H1 : upd H p _ = H1
    have k_H1 : Kp H H1 := by rw [← h_H1]; exact .new np
    have q_H1 := (congrFun h_H1 p).symm.trans upd_same
    clear h_H1
    refine ⟨_, rfl, _, _, rfl, rfl, ⟨by decide, by decide, by decide⟩, _, _, rfl, rfl, _, rfl, iteD (fun c1 => ?_) (fun c1 => ?_)⟩
    · refine ⟨_, rfl, _, _, rfl, rfl, ⟨by decide, by decide, by decide⟩, _, _, rfl, rfl, ?_⟩
      refine ⟨_, rfl, many, rfl, by omega, by omega, ?_⟩
      refine for_range (lo := 0) (n := many.toNat) (fun i σ H' => ∃ (xs : List Int) (r : Int) (y : Option V), σ = [some (.int c), some (.int many), some (.int size), some (.ref p), some (.int r), y, none, none] ∧ Kp H H' ∧ H' p = some (.lst (xs.map V.int)) ∧ xs.length = i ∧ ∀ x ∈ xs, 0 ≤ x ∧ x < size)
        ⟨[], _, none, rfl, k_H1, q_H1, rfl, by simp⟩ ?_ ?_
      · rintro i σ H' hi ⟨xs, r, y, rfl, kp, hp, hl, hb⟩
        refine ⟨_, rfl, .inl ⟨rfl, _, SqL.of hp⟩, _, rfl, _, rfl, _, _, rfl, rfl, hs0, p, _, _, rfl, rfl, hp, szt (by rw [List.length_map]; omega), ?_⟩
        refine ⟨_, rfl, _, rfl, _, _, rfl, rfl, ⟨hs0, hs1⟩, ?_⟩
        refine ⟨xs ++ [r % size], _, _, rfl, kp.mut np, ?_, by rw [List.length_append, hl]; rfl, snoc_in hs0 hb⟩
        rw [upd_same, List.map_append]
        rfl
      · rintro σ H' ⟨xs, r, y, rfl, kp, hp, hl, hb⟩
        exact ⟨_, rfl, k xs p H' np kp hp ⟨by omega, hb⟩⟩
    · refine ⟨_, rfl, _, _, rfl, rfl, (by show (0 : Int) < 2147483647; decide), ?_⟩
      refine ⟨_, rfl, many, rfl, by omega, by omega, ?_⟩
      refine for_range (lo := 0) (n := many.toNat) (fun i σ H' => ∃ (xs : List Int) (r : Int) (y y2 : Option V), σ = [some (.int c), some (.int many), some (.int size), some (.ref p), none, y, some (.int r), y2] ∧ Kp H H' ∧ H' p = some (.lst (xs.map V.int)) ∧ xs.length = i ∧ ∀ x ∈ xs, 0 ≤ x ∧ x < size)
        ⟨[], _, none, none, rfl, k_H1, q_H1, rfl, by simp⟩ ?_ ?_
      · rintro i σ H' hi ⟨xs, r, y, y2, rfl, kp, hp, hl, hb⟩
        refine ⟨_, rfl, _, _, rfl, rfl, .inr ⟨by decide, by decide⟩, _, _, rfl, rfl, _, rfl, _, _, rfl, rfl, _, _, rfl, rfl, (by show (0 : Int) < 2147483647; decide), ?_⟩
        generalize hr2 : (fun (i j : Int) => V.int (i % j)) _ _ = sv
        obtain ⟨r2, rfl⟩ : ∃ r2 : Int, sv = .int r2 := ⟨_, hr2.symm⟩
        clear hr2
        have b0 : 0 ≤ r2 % 65521 := Int.emod_nonneg _ (by decide)
        have b1 : r2 % 65521 < 65521 := Int.emod_lt_of_pos _ (by decide)
        refine ⟨_, rfl, _, rfl, _, _, rfl, rfl, (by show (0 : Int) < 65521; decide), _, _, rfl, rfl, _, _, rfl, rfl, .inr ⟨by omega, by omega⟩, _, _, rfl, rfl, ⟨by decide, by decide⟩, _, _, rfl, rfl, (by show (0 : Int) < 1000003; decide), ?_⟩
        refine ⟨_, rfl, .inl ⟨rfl, _, SqL.of hp⟩, _, rfl, _, rfl, _, _, rfl, rfl, hs0, p, _, _, rfl, rfl, hp, szt (by rw [List.length_map]; omega), ?_⟩
        refine ⟨xs ++ [r2 * (r2 % 65521 + 3) / 1009 % 1000003 % size], r2, _, _, rfl, kp.mut np, ?_, by rw [List.length_append, hl]; rfl, snoc_in hs0 hb⟩
        rw [upd_same, List.map_append]
        rfl
      · rintro σ H' ⟨xs, r, y, y2, rfl, kp, hp, hl, hb⟩
        exact ⟨_, rfl, k xs p H' np kp hp ⟨by omega, hb⟩⟩
/-! ### data of few levels can be compared -/
theorem lay_all {ds : List PyData} (h : ∀ d ∈ ds, PyData.canLay0 d = true) : PyData.canLayAll0 ds = true := by
  induction ds with
  | nil => simp [PyData.canLayAll0]
  | cons d r ih => simp [PyData.canLayAll0, h d List.mem_cons_self, ih fun x hx => h x (List.mem_cons_of_mem _ hx)]
theorem dep_all {ds : List PyData} {n : Nat} (h : ∀ d ∈ ds, PyData.depth d ≤ n) : PyData.depthAll ds ≤ n := by
  induction ds with
  | nil => simp [PyData.depthAll]
  | cons d r ih =>
    have h1 := h d List.mem_cons_self
    have h2 := ih fun x hx => h x (List.mem_cons_of_mem _ hx)
    simp only [PyData.depthAll]
    omega
/-- the same without texts -/
inductive Dm : Nat → PyData → Prop
  | non (n : Nat) : Dm (n + 1) .none
  | bl (n : Nat) (b : Bool) : Dm (n + 1) (.bool b)
  | int (n : Nat) (i : Int) : Dm (n + 1) (.int i)
  | lst {n : Nat} {ds : List PyData} : (∀ d ∈ ds, Dm n d) → ds.length ≤ 10000 → Dm (n + 1) (.list ds)
  | tup {n : Nat} {ds : List PyData} : (∀ d ∈ ds, Dm n d) → ds.length ≤ 10000 → Dm (n + 1) (.tuple ds)
theorem Dm.dn {n : Nat} {d : PyData} (h : Dm n d) : Dn n d := by
  induction h with
  | non n => exact .non _
  | bl n b => exact .bl _ _
  | int n i => exact .int _ _
  | lst h1 h2 ih => exact .lst ih h2
  | tup h1 h2 ih => exact .tup ih h2
theorem Dm.lay {n : Nat} {d : PyData} (h : Dm n d) : PyData.canLay0 d = true ∧ PyData.depth d ≤ n := by
  induction h with
  | non n => exact ⟨by simp [PyData.canLay0], by simp [PyData.depth]⟩
  | bl n b => exact ⟨by simp [PyData.canLay0], by simp [PyData.depth]⟩
  | int n i => exact ⟨by simp [PyData.canLay0], by simp [PyData.depth]⟩
  | lst h1 h2 ih =>
    refine ⟨by simp only [PyData.canLay0]; exact lay_all fun d hd => (ih d hd).1, ?_⟩
    have := dep_all fun d hd => (ih d hd).2
    simp only [PyData.depth]
    omega
  | tup h1 h2 ih =>
    refine ⟨by simp only [PyData.canLay0]; exact lay_all fun d hd => (ih d hd).1, ?_⟩
    have := dep_all fun d hd => (ih d hd).2
    simp only [PyData.depth]
    omega
theorem Dm.shaped {n : Nat} {d : PyData} (h : Dm n d) (hn : n ≤ 64) : SeqAt.shaped d = true := by
  have ⟨h1, h2⟩ := h.lay
  show (PyData.canLay0 d && decide (PyData.depth d ≤ 64)) = true
  rw [h1, decide_eq_true (by omega)]
  rfl
theorem Dm.same {n : Nat} {d : PyData} (h : Dm n d) (hn : n ≤ 64) : PyData.eqv d d = true := SeqAt.eqv_refl _ (SeqAt.canLay_of_shaped (h.shaped hn))
theorem dm_dI {n : Nat} {ns : List Int} (h : ns.length ≤ 10000) : Dm (n + 2) (dI ns) := .lst (fun d hd => by obtain ⟨z, _, rfl⟩ := List.mem_map.mp hd; exact .int _ _) (by rw [List.length_map]; exact h)
/-! ### places that a test picks -/
def fil (f : Nat → Bool) (n : Nat) : List Int := ((List.range n).filter f).map (fun (x : Nat) => (x : Int))
theorem fil_yes {f : Nat → Bool} {n : Nat} (h : f n = true) : fil f (n + 1) = fil f n ++ [(n : Int)] := by
  unfold fil
  rw [List.range_succ, List.filter_append, List.map_append]
  simp [h]
theorem fil_no {f : Nat → Bool} {n : Nat} (h : f n = false) : fil f (n + 1) = fil f n := by
  unfold fil
  rw [List.range_succ, List.filter_append, List.map_append]
  simp [h]
theorem fil_len (f : Nat → Bool) (n : Nat) : (fil f n).length ≤ n := by
  unfold fil
  rw [List.length_map]
  exact Nat.le_trans (List.length_filter_le _ _) (by rw [List.length_range]; exact Nat.le_refl _)
theorem fil_mem {f : Nat → Bool} {n : Nat} {x : Int} : x ∈ fil f n ↔ ∃ p : Nat, x = (p : Int) ∧ p < n ∧ f p = true := by
  unfold fil
  simp only [List.mem_map, List.mem_filter, List.mem_range]
  constructor
  · rintro ⟨p, ⟨h1, h2⟩, rfl⟩
    exact ⟨p, rfl, h1, h2⟩
  · rintro ⟨p, rfl, h1, h2⟩
    exact ⟨p, ⟨h1, h2⟩, rfl⟩
/-! ### _law_shown: arms, whether a sign waits, sleepers, fogs -/
structure Arms (sh : List Int) (n : Nat) : Prop where
  len : sh.length = n
  lo : 2 ≤ n
  hi : n ≤ 12
  ok : ∀ x ∈ sh, 0 ≤ x ∧ x ≤ 94
def sp_l_shown (K : PySem.W.Frag) : Sp := fun vs H Q _ => ∃ (a : Addr) (ns : List Int) (j : Nat), vs = [.ref a, .int (j : Int)] ∧ SqL K H a (ns.map V.int) ∧ j ≤ 1000 ∧
  ∀ (n : Nat) (sh : List Int) (wt : Bool) (fA fB : Nat → Bool) (t p1 p2 p3 : Addr) (H' : Hp), Kp H H' → H' t = some (.tup [.ref p1, .bl wt, .ref p2, .ref p3]) → H p1 = none → H' p1 = some (.lst (sh.map V.int)) →
    H' p2 = some (.lst ((fil fA n).map V.int)) → H' p3 = some (.lst ((fil fB n).map V.int)) → (∀ p, fB p = true → p + 1 < n) → Arms sh n → H p2 = none → H p3 = none → Q (.ref t) H'
theorem four (a z : Int) (h : 0 ≤ a ∧ a ≤ 94) : ∃ v : Int, atI [V.int 0, V.int 0, V.int a, V.int 7] (z % 4) = some (.int v) ∧ 0 ≤ v ∧ v ≤ 94 := by
  have h0 : 0 ≤ z % 4 := Int.emod_nonneg _ (by decide)
  have h1 : z % 4 < 4 := Int.emod_lt_of_pos _ (by decide)
  generalize z % 4 = m at h0 h1
  have hm : m = 0 ∨ m = 1 ∨ m = 2 ∨ m = 3 := by omega
  rcases hm with rfl | rfl | rfl | rfl
  · exact ⟨0, rfl, by decide, by decide⟩
  · exact ⟨0, rfl, by decide, by decide⟩
  · exact ⟨a, rfl, h.1, h.2⟩
  · exact ⟨7, rfl, by decide, by decide⟩
theorem ok_l_shown (T : Txt K mg) : FnOk P w K mg base CX0 2 T.f_l_shown T.d_l_shown ["_law_script", "_law_at"] (sp_l_shown K) := by
  refine T.F_l_shown.ok sc_l_shown (fun vs H Q E h => ?_) (fun cdv A outer s H vs Q E hr h => ?_)
  · obtain ⟨a, ns, j, rfl, _⟩ := h
    rfl
  · obtain ⟨a, ns, j, rfl, hS, hj, k⟩ := h
    refine ⟨_, (pss_cons (ps_set (i := 2) sc_l_shown.nd rfl (by first | exact Or.inl rfl | exact Or.inr rfl) (pe_call (ok_l_cell T) (hr.mono (by decide)) rfl T.g_l_cell T.F_l_cell.kp T.b_l_cell .nil pass0 (pa_cons (pv 0) (pa_cons (pv 1) pa_nil))))
      (pss_cons (ps_set (i := 3) sc_l_shown.nd rfl (by first | exact Or.inl rfl | exact Or.inr rfl) (pe_op op_add pe_int (pe_op op_mod (pv 2) pe_int)))
      (pss_cons (ps_set (i := 4) sc_l_shown.nd rfl (by first | exact Or.inl rfl | exact Or.inr rfl) (pe_call (ok_l_row T) (hr.mono (by decide)) rfl T.g_l_row T.F_l_row.kp T.b_l_row .nil pass0 (pa_cons (pe_call (ok_l_cell T) (hr.mono (by decide)) rfl T.g_l_cell T.F_l_cell.kp T.b_l_cell .nil pass0 (pa_cons (pv 0) (pa_cons (pe_op op_add (pv 1) pe_int) pa_nil))) (pa_cons (pe_op op_mul pe_int (pv 3)) (pa_cons (pe_op op_mul pe_int pe_int) pa_nil)))))
      (pss_cons (ps_set (i := 5) sc_l_shown.nd rfl (by first | exact Or.inl rfl | exact Or.inr rfl) (pe_lst pa_nil))
      (pss_cons (ps_set (i := 6) sc_l_shown.nd rfl (by first | exact Or.inl rfl | exact Or.inr rfl) (pe_lst pa_nil))
      (pss_cons (ps_set (i := 7) sc_l_shown.nd rfl (by first | exact Or.inl rfl | exact Or.inr rfl) (pe_lst pa_nil))
      (pss_cons (ps_for PassesOwn.never rfl (pi_range1 (by rfl) T.m_range (pa_cons (pv 3) pa_nil)) (pg_name (i := 8) sc_l_shown.nd rfl (by first | exact Or.inl rfl | exact Or.inr rfl))
      (pss_cons (ps_set (i := 9) sc_l_shown.nd rfl (by first | exact Or.inl rfl | exact Or.inr rfl) (pe_ix ix_list (pv 4) (pe_op op_mul pe_int (pv 8)) (fun _ _ => rfl)))
      (pss_cons (ps_expr (pe_bm PySem.F.plainAttrs_list PySem.F.slot_list_append PySem.F.type_list_append mt_append (pv 5) (pa_cons (pe_ix ix_tup (pe_tup (pa_cons pe_int (pa_cons pe_int (pa_cons (pe_op op_add pe_int (pe_op op_mod (pv 9) pe_int)) (pa_cons pe_int pa_nil))))) (pe_op op_mod (pe_op op_fdiv (pv 9) pe_int) pe_int) (fun _ _ => rfl)) pa_nil)))
      (Evl.pss_cut (ps_if (pt_cmpR op_eq (pe_op op_mod (pe_ix ix_list (pv 4) (pe_op op_add (pe_op op_mul pe_int (pv 8)) pe_int) (fun _ _ => rfl)) (pe_op op_add pe_int (pe_op op_mod (pe_op op_fdiv (pv 2) pe_int) pe_int))) pe_int (nomark _))
      (pss_one (ps_expr (pe_bm PySem.F.plainAttrs_list PySem.F.slot_list_append PySem.F.type_list_append mt_append (pv 6) (pa_cons (pv 8) pa_nil))))
      pss_nil)
      (pss_one (ps_if (PW.pt (pw_and (pt_cmpR op_eq (pe_op op_mod (pe_ix ix_list (pv 4) (pe_op op_add (pe_op op_mul pe_int (pv 8)) pe_int) (fun _ _ => rfl)) (pe_op op_add pe_int (pe_op op_mod (pe_op op_fdiv (pv 2) pe_int) pe_int))) pe_int (nomark _)) (pw_and1 (pt_cmpR op_lt (pv 8) (pe_op op_sub (pv 3) pe_int) (nomark _)))))
      (pss_one (ps_expr (pe_bm PySem.F.plainAttrs_list PySem.F.slot_list_append PySem.F.type_list_append mt_append (pv 7) (pa_cons (pv 8) pa_nil))))
      pss_nil))))))
      (pss_one (ps_ret (pe_tup (pa_cons (pv 5) (pa_cons (pe_cmpR op_eq (pe_op op_mod (pe_op op_fdiv (pv 2) pe_int) pe_int) pe_int (nomark _)) (pa_cons (pv 6) (pa_cons (pv 7) pa_nil)))))))))))))), ?_⟩
    refine ⟨_, rfl, _, rfl, a, ns, j, rfl, hS, by omega, ?_⟩
    generalize cellV ns j = pick
    have m0 : 0 ≤ pick % 11 := Int.emod_nonneg _ (by decide)
    have m1 : pick % 11 < 11 := Int.emod_lt_of_pos _ (by decide)
    refine ⟨_, rfl, _, _, rfl, rfl, (by show (0 : Int) < 11; decide), _, _, rfl, rfl, ?_⟩
    obtain ⟨n, hn⟩ : ∃ n : Nat, (2 : Int) + pick % 11 = (n : Int) := ⟨((2 : Int) + pick % 11).toNat, by omega⟩
    refine ⟨_, rfl, _, rfl, _, _, rfl, rfl, a, ns, j + 1, rfl, hS, by omega, ?_⟩
    refine ⟨_, rfl, _, _, rfl, rfl, .inl ⟨by decide, by decide⟩, _, _, rfl, rfl, .inl ⟨by decide, by decide⟩, _, _, _, rfl, by omega, by omega, by decide, by decide, fun nums p4 H1 n4 k1 q1 ⟨hl, hb⟩ => ?_⟩
    refine ⟨Nat.zero_le _, fun p5 n5 => ?_⟩
    generalize h_H2 : upd H1 p5 _ = H2
    have k_H2 : Kp H1 H2 := by rw [← h_H2]; exact .new n5
    have q_H2 := (congrFun h_H2 p5).symm.trans upd_same
    clear h_H2
    refine ⟨Nat.zero_le _, fun p6 n6 => ?_⟩
    generalize h_H3 : upd H2 p6 _ = H3
    have k_H3 : Kp H2 H3 := by rw [← h_H3]; exact .new n6
    have q_H3 := (congrFun h_H3 p6).symm.trans upd_same
    clear h_H3
    refine ⟨Nat.zero_le _, fun p7 n7 => ?_⟩
    generalize h_H4 : upd H3 p7 _ = H4
    have k_H4 : Kp H3 H4 := by rw [← h_H4]; exact .new n7
    have q_H4 := (congrFun h_H4 p7).symm.trans upd_same
    clear h_H4
    have ne56 : p5 ≠ p6 := ne_of_none q_H2 n6
    have ne57 : p5 ≠ p7 := ne_of_none (k_H3.same _ _ rfl q_H2) n7
    have ne67 : p6 ≠ p7 := ne_of_none q_H3 n7
    have ne45 : p4 ≠ p5 := ne_of_none q1 n5
    have ne46 : p4 ≠ p6 := ne_of_none (k_H2.same _ _ rfl q1) n6
    have ne47 : p4 ≠ p7 := ne_of_none (k_H3.same _ _ rfl (k_H2.same _ _ rfl q1)) n7
    have f5 := k1.free _ n5
    have f6 := k1.free _ (k_H2.free _ n6)
    have f7 := k1.free _ (k_H2.free _ (k_H3.free _ n7))
    have k4 := ((k1.trans k_H2).trans k_H3).trans k_H4
    obtain ⟨da, hda⟩ : ∃ da : Int, (2 : Int) + pick / 11 % 9 = da := ⟨_, rfl⟩
    obtain ⟨db, hdb⟩ : ∃ db : Int, (2 : Int) + pick / 99 % 9 = db := ⟨_, rfl⟩
    have hda0 : 0 < da := by have := Int.emod_nonneg (pick / 11) (show (9 : Int) ≠ 0 by decide); omega
    have hdb0 : 0 < db := by have := Int.emod_nonneg (pick / 99) (show (9 : Int) ≠ 0 by decide); omega
    let fA : Nat → Bool := fun p => decide (nums.getD (3 * p + 1) 0 % da = 1)
    let fB : Nat → Bool := fun p => decide (nums.getD (3 * p + 2) 0 % db = 1) && decide (p + 1 < n)
    have hln : nums.length = 3 * n := by omega
    refine ⟨_, rfl, _, rfl, by omega, by omega, ?_⟩
    refine for_range (lo := 0) (n := ((2 : Int) + pick % 11).toNat) (fun i σ H' => ∃ (sh : List Int) (y y2 : Option V), σ = [some (.ref a), some (.int (j : Int)), some (.int pick), some (.int (2 + pick % 11)), some (.ref p4), some (.ref p5), some (.ref p6), some (.ref p7), y, y2] ∧ Kp H H' ∧ H' p4 = some (.lst (nums.map V.int)) ∧ H' p5 = some (.lst (sh.map V.int)) ∧ H' p6 = some (.lst ((fil fA i).map V.int)) ∧ H' p7 = some (.lst ((fil fB i).map V.int)) ∧ sh.length = i ∧ ∀ x ∈ sh, 0 ≤ x ∧ x ≤ 94)
        ⟨[], none, none, rfl, k4, k_H4.same _ _ rfl (k_H3.same _ _ rfl (k_H2.same _ _ rfl q1)), k_H4.same _ _ rfl (k_H3.same _ _ rfl q_H2), k_H4.same _ _ rfl q_H3, q_H4, rfl, by simp⟩ ?_ ?_
    · rintro i σ H' hi ⟨sh, y, y2, rfl, kp, h4, h5, h6, h7, hsl, hsb⟩
      have ez : (0 : Int) + (i : Int) = (i : Int) := Int.zero_add _
      rw [ez]
      have e0 : atI (nums.map V.int) (3 * (i : Int)) = some (.int (nums.getD (3 * i) 0)) := by
        have := getD_at (ns := nums) (j := 3 * i) (by omega)
        rw [← this]
        congr 1
      have e1 : atI (nums.map V.int) (3 * (i : Int) + 1) = some (.int (nums.getD (3 * i + 1) 0)) := by
        have := getD_at (ns := nums) (j := 3 * i + 1) (by omega)
        rw [← this]
        congr 1
      have e2 : atI (nums.map V.int) (3 * (i : Int) + 2) = some (.int (nums.getD (3 * i + 2) 0)) := by
        have := getD_at (ns := nums) (j := 3 * i + 2) (by omega)
        rw [← this]
        congr 1
      refine ⟨_, rfl, _, rfl, _, _, rfl, rfl, .inl ⟨by decide, by decide⟩, p4, _, _, _, rfl, rfl, .inl (.inl h4), e0, ?_⟩
      generalize nums.getD (3 * i) 0 = num
      have b0 : 0 ≤ num % 94 := Int.emod_nonneg _ (by decide)
      have b1 : num % 94 < 94 := Int.emod_lt_of_pos _ (by decide)
      obtain ⟨v, hv, v0, v1⟩ := four (1 + num % 94) (num / 94) ⟨by omega, by omega⟩
      refine ⟨_, rfl, .inl ⟨rfl, _, SqL.of h5⟩, _, rfl, _, _, rfl, rfl, (by show (0 : Int) < 94; decide), _, _, rfl, rfl, szl (by show 4 ≤ 100000; decide), fun t nt => ?_⟩
      generalize h_H5 : upd H' t _ = H5
      have k_H5 : Kp H' H5 := by rw [← h_H5]; exact .new nt
      have q_H5 := (congrFun h_H5 t).symm.trans upd_same
      clear h_H5
      refine ⟨_, rfl, _, _, rfl, rfl, ⟨by decide, by decide⟩, _, _, rfl, rfl, (by show (0 : Int) < 4; decide), t, _, _, _, rfl, rfl, .inl (.inl q_H5), hv, p5, _, _, rfl, rfl, k_H5.same _ _ rfl h5, szt (by rw [List.length_map]; omega), ?_⟩
      have kp5 : Kp H (upd H5 p5 (.lst (sh.map V.int ++ [.int v]))) := (kp.trans k_H5).mut f5
      have g4 : (upd H5 p5 (.lst (sh.map V.int ++ [.int v]))) p4 = some (.lst (nums.map V.int)) := by rw [upd_ne ne45]; exact k_H5.same _ _ rfl h4
      have g5 : (upd H5 p5 (.lst (sh.map V.int ++ [.int v]))) p5 = some (.lst ((sh ++ [v]).map V.int)) := by rw [upd_same, List.map_append]; rfl
      have g6 : (upd H5 p5 (.lst (sh.map V.int ++ [.int v]))) p6 = some (.lst ((fil fA i).map V.int)) := by rw [upd_ne ne56.symm]; exact k_H5.same _ _ rfl h6
      have g7 : (upd H5 p5 (.lst (sh.map V.int ++ [.int v]))) p7 = some (.lst ((fil fB i).map V.int)) := by rw [upd_ne ne57.symm]; exact k_H5.same _ _ rfl h7
      generalize upd H5 p5 (.lst (sh.map V.int ++ [.int v])) = H6 at kp5 g4 g5 g6 g7
      let Mid : L2.St → Hp → Prop := fun σ' H'' => σ' = [some (.ref a), some (.int (j : Int)), some (.int pick), some (.int (2 + pick % 11)), some (.ref p4), some (.ref p5), some (.ref p6), some (.ref p7), some (.int (i : Int)), some (.int num)] ∧ Kp H H'' ∧ H'' p4 = some (.lst (nums.map V.int)) ∧ H'' p5 = some (.lst ((sh ++ [v]).map V.int)) ∧ H'' p6 = some (.lst ((fil fA (i + 1)).map V.int)) ∧ H'' p7 = some (.lst ((fil fB i).map V.int))
      refine ⟨Mid, ?_, ?_⟩
      · refine ⟨_, rfl, _, rfl, _, _, rfl, rfl, .inl ⟨by decide, by decide⟩, _, _, rfl, rfl, p4, _, _, _, rfl, rfl, .inl (.inl g4), e1, _, rfl, _, _, rfl, rfl, ⟨by decide, by decide⟩, _, _, rfl, rfl, (by show (0 : Int) < 9; decide), _, _, rfl, rfl, _, _, rfl, rfl, (by rw [hda]; exact hda0), rfl, _, rfl, iteD (fun c => ?_) (fun c => ?_)⟩
        · have c := V.int.inj c
          have hf : fA i = true := decide_eq_true (by rw [← hda]; exact c)
          refine ⟨_, rfl, .inl ⟨rfl, _, SqL.of g6⟩, _, rfl, p6, _, _, rfl, rfl, g6, szt (by rw [List.length_map]; have := fil_len fA i; omega), ?_⟩
          refine ⟨rfl, kp5.mut f6, by rw [upd_ne ne46]; exact g4, by rw [upd_ne ne56]; exact g5, ?_, by rw [upd_ne ne67.symm]; exact g7⟩
          rw [upd_same, fil_yes hf, List.map_append]
          rfl
        · have hf : fA i = false := decide_eq_false (fun z => c (by rw [hda]; exact congrArg V.int z))
          exact ⟨rfl, kp5, g4, g5, by rw [fil_no hf]; exact g6, g7⟩
      rintro σ' H'' ⟨rfl, kp6, r4, r5, r6, r7⟩
      have fin : ∀ H3 : Hp, Kp H H3 → H3 p4 = some (.lst (nums.map V.int)) → H3 p5 = some (.lst ((sh ++ [v]).map V.int)) → H3 p6 = some (.lst ((fil fA (i + 1)).map V.int)) → H3 p7 = some (.lst ((fil fB (i + 1)).map V.int)) →
          ∃ (sh : List Int) (y y2 : Option V), [some (.ref a), some (.int (j : Int)), some (.int pick), some (.int (2 + pick % 11)), some (.ref p4), some (.ref p5), some (.ref p6), some (.ref p7), some (.int (i : Int)), some (.int num)] = [some (.ref a), some (.int (j : Int)), some (.int pick), some (.int (2 + pick % 11)), some (.ref p4), some (.ref p5), some (.ref p6), some (.ref p7), y, y2] ∧ Kp H H3 ∧ H3 p4 = some (.lst (nums.map V.int)) ∧ H3 p5 = some (.lst (sh.map V.int)) ∧ H3 p6 = some (.lst ((fil fA (i + 1)).map V.int)) ∧ H3 p7 = some (.lst ((fil fB (i + 1)).map V.int)) ∧ sh.length = i + 1 ∧ ∀ x ∈ sh, 0 ≤ x ∧ x ≤ 94 := by
        intro H3 a1 a2 a3 a4 a5
        refine ⟨sh ++ [v], _, _, rfl, a1, a2, a3, a4, a5, by rw [List.length_append, hsl]; rfl, fun x hx => ?_⟩
        rcases List.mem_append.mp hx with hx | hx
        · exact hsb x hx
        · rw [List.mem_singleton.mp hx]
          exact ⟨v0, v1⟩
      refine ⟨_, rfl, _, rfl, _, _, rfl, rfl, .inl ⟨by decide, by decide⟩, _, _, rfl, rfl, p4, _, _, _, rfl, rfl, .inl (.inl r4), e2, _, rfl, _, _, rfl, rfl, ⟨by decide, by decide⟩, _, _, rfl, rfl, (by show (0 : Int) < 9; decide), _, _, rfl, rfl, _, _, rfl, rfl, (by rw [hdb]; exact hdb0), rfl, _, rfl, iteD (fun c => ?_) (fun c => ?_)⟩
      · have c := V.int.inj c
        have c' : nums.getD (3 * i + 2) 0 % db = 1 := by rw [← hdb]; exact c
        refine ⟨_, rfl, _, rfl, _, _, rfl, rfl, _, _, rfl, rfl, _, rfl, iteD (fun c2 => ?_) (fun c2 => ?_)⟩
        · have hf : fB i = true := by
            show (decide _ && decide _) = true
            rw [decide_eq_true c', decide_eq_true (show i + 1 < n by omega)]
            rfl
          refine ⟨_, rfl, .inl ⟨rfl, _, SqL.of r7⟩, _, rfl, p7, _, _, rfl, rfl, r7, szt (by rw [List.length_map]; have := fil_len fB i; omega), ?_⟩
          refine fin _ (kp6.mut f7) (by rw [upd_ne ne47]; exact r4) (by rw [upd_ne ne57]; exact r5) (by rw [upd_ne ne67]; exact r6) ?_
          rw [upd_same, fil_yes hf, List.map_append]
          rfl
        · have hf : fB i = false := by
            show (decide _ && decide _) = false
            rw [decide_eq_false (show ¬ i + 1 < n by omega), Bool.and_false]
          exact fin _ kp6 r4 r5 r6 (by rw [fil_no hf]; exact r7)
      · have hf : fB i = false := by
          show (decide _ && decide _) = false
          rw [decide_eq_false (fun z : nums.getD (3 * i + 2) 0 % db = 1 => c (by rw [hdb]; exact congrArg V.int z)), Bool.false_and]
        exact fin _ kp6 r4 r5 r6 (by rw [fil_no hf]; exact r7)
    · rintro σ H' ⟨sh, y, y2, rfl, kp, h4, h5, h6, h7, hsl, hsb⟩
      have hN : ((2 : Int) + pick % 11).toNat = n := by omega
      rw [hN] at h6 h7 hsl
      refine ⟨_, rfl, _, rfl, _, _, rfl, rfl, ⟨by decide, by decide⟩, _, _, rfl, rfl, (by show (0 : Int) < 2; decide), rfl, _, rfl, _, rfl, szl (by show 4 ≤ 100000; decide), fun t nt => ?_⟩
      generalize h_H5 : upd H' t _ = H5
      have k_H5 : Kp H' H5 := by rw [← h_H5]; exact .new nt
      have q_H5 := (congrFun h_H5 t).symm.trans upd_same
      clear h_H5
      refine k n sh _ fA fB t p5 p6 p7 H5 (kp.trans k_H5) q_H5 f5 (k_H5.same _ _ rfl h5) (k_H5.same _ _ rfl h6) (k_H5.same _ _ rfl h7) (fun p hp => ?_) ⟨hsl, by omega, by omega, hsb⟩ f6 f7
      have hp : (decide _ && decide (p + 1 < n)) = true := hp
      rw [Bool.and_eq_true] at hp
      exact of_decide_eq_true hp.2
/-! ### stretches of arms -/
def rs (sh : List Int) (i : Nat) : Bool := decide (V.int (sh.getD i 0) = V.int 0)
def sgB (sh : List Int) (p : Nat) : Bool := !rs sh p
def fsB (sh : List Int) (p : Nat) : Bool := sgB sh p && (decide (p = 0) || rs sh (p - 1))
def lsB (sh : List Int) (p : Nat) : Bool := sgB sh p && rs sh (p + 1)
structure Run (sh : List Int) (f e : Nat) : Prop where
  le : f ≤ e
  on : ∀ q, f ≤ q → q ≤ e → sgB sh q = true
  off : rs sh (e + 1) = true
theorem rise_eq : ∀ {l m : List Nat}, l.Pairwise (· < ·) → m.Pairwise (· < ·) → (∀ x, x ∈ l ↔ x ∈ m) → l = m
  | [], [], _, _, _ => rfl
  | [], y :: m, _, _, h => absurd ((h y).mpr List.mem_cons_self) (by simp)
  | x :: l, [], _, _, h => absurd ((h x).mp List.mem_cons_self) (by simp)
  | x :: l, y :: m, h1, h2, h => by
    have a1 := List.pairwise_cons.mp h1
    have a2 := List.pairwise_cons.mp h2
    have e : x = y := by
      have b1 := (h x).mp List.mem_cons_self
      have b2 := (h y).mpr List.mem_cons_self
      rcases List.mem_cons.mp b1 with c | c
      · exact c
      · rcases List.mem_cons.mp b2 with d | d
        · exact d.symm
        · have := a2.1 x c
          have := a1.1 y d
          omega
    subst e
    congr 1
    refine rise_eq a1.2 a2.2 fun z => ?_
    constructor
    · intro hz
      rcases List.mem_cons.mp ((h z).mp (List.mem_cons_of_mem _ hz)) with c | c
      · have := a1.1 z hz
        omega
      · exact c
    · intro hz
      rcases List.mem_cons.mp ((h z).mpr (List.mem_cons_of_mem _ hz)) with c | c
      · have := a2.1 z hz
        omega
      · exact c
theorem sg_lt {sh : List Int} {p : Nat} (h : sgB sh p = true) : p < sh.length := by
  rcases Nat.lt_or_ge p sh.length with c | c
  · exact c
  · unfold sgB rs at h
    rw [List.getD_eq_getElem?_getD, List.getElem?_eq_none c] at h
    simp at h
theorem sg_rs {sh : List Int} {p : Nat} (h : sgB sh p = true) (k : rs sh p = true) : False := by
  unfold sgB at h
  rw [k] at h
  cases h
theorem fs_iff {sh : List Int} {p : Nat} : fsB sh p = true ↔ sgB sh p = true ∧ (p = 0 ∨ rs sh (p - 1) = true) := by
  unfold fsB
  rw [Bool.and_eq_true, Bool.or_eq_true, decide_eq_true_iff]
theorem ls_iff {sh : List Int} {p : Nat} : lsB sh p = true ↔ sgB sh p = true ∧ rs sh (p + 1) = true := by
  unfold lsB
  rw [Bool.and_eq_true]
theorem run_from {sh : List Int} : ∀ e, sgB sh e = true → ∃ f, f ≤ e ∧ fsB sh f = true ∧ ∀ q, f ≤ q → q ≤ e → sgB sh q = true
  | 0, h => ⟨0, Nat.le_refl _, fs_iff.mpr ⟨h, .inl rfl⟩, fun q _ hq => by
      obtain rfl : q = 0 := by omega
      exact h⟩
  | e + 1, h => by
    cases c : rs sh e with
    | true => exact ⟨e + 1, Nat.le_refl _, fs_iff.mpr ⟨h, .inr c⟩, fun q h1 h2 => by
        obtain rfl : q = e + 1 := by omega
        exact h⟩
    | false =>
      obtain ⟨f, h1, h2, h3⟩ := run_from (sh := sh) e (by unfold sgB; rw [c]; rfl)
      refine ⟨f, by omega, h2, fun q q1 q2 => ?_⟩
      by_cases z : q = e + 1
      · rw [z]
        exact h
      · exact h3 q q1 (by omega)
theorem ends_eq {sh : List Int} {ds : List (Nat × Nat)} (h1 : ds.map (·.1) = (List.range sh.length).filter (fsB sh)) (h2 : ∀ d ∈ ds, Run sh d.1 d.2) : ds.map (·.2) = (List.range sh.length).filter (lsB sh) := by
  have hm : ∀ d ∈ ds, fsB sh d.1 = true := fun d m => by
    have := List.mem_map_of_mem (f := (·.1)) m
    rw [h1] at this
    exact (List.mem_filter.mp this).2
  have hp : (ds.map (·.1)).Pairwise (· < ·) := by
    rw [h1]
    exact List.Pairwise.filter _ List.pairwise_lt_range
  refine rise_eq ?_ (List.Pairwise.filter _ List.pairwise_lt_range) fun e => ?_
  · rw [List.pairwise_map] at hp ⊢
    refine List.Pairwise.imp_of_mem (fun {a b} ma mb hab => ?_) hp
    have ra := h2 a ma
    have rb := h2 b mb
    have l1 := rb.le
    rcases Nat.lt_or_ge a.2 b.1 with c | c
    · omega
    · rcases (fs_iff.mp (hm b mb)).2 with z | z
      · omega
      · exact (sg_rs (ra.on (b.1 - 1) (by omega) (by omega)) z).elim
  · constructor
    · intro m
      obtain ⟨d, md, rfl⟩ := List.mem_map.mp m
      have r := h2 d md
      have g := r.on d.2 r.le (Nat.le_refl _)
      exact List.mem_filter.mpr ⟨List.mem_range.mpr (sg_lt g), ls_iff.mpr ⟨g, r.off⟩⟩
    · intro m
      obtain ⟨m1, m2⟩ := List.mem_filter.mp m
      obtain ⟨g, o⟩ := ls_iff.mp m2
      obtain ⟨f, l1, l2, l3⟩ := run_from e g
      have mf : f ∈ ds.map (·.1) := by
        rw [h1]
        have := List.mem_range.mp m1
        exact List.mem_filter.mpr ⟨List.mem_range.mpr (by omega), l2⟩
      obtain ⟨d, md, rfl⟩ := List.mem_map.mp mf
      have r := h2 d md
      have ee : d.2 = e := by
        rcases Nat.lt_trichotomy d.2 e with c | c | c
        · exact (sg_rs (l3 (d.2 + 1) (by have := r.le; omega) (by omega)) r.off).elim
        · exact c
        · exact (sg_rs (r.on (e + 1) (by omega) (by omega)) o).elim
      rw [← ee]
      exact List.mem_map_of_mem md
def pI (p : Nat × Nat) : PyData := .tuple [.int (p.1 : Int), .int (p.2 : Int)]
theorem dp_pI {K : PySem.W.Frag} {H : Hp} : ∀ {ts : List Addr} {ds : List (Nat × Nat)}, ts.length = ds.length → (∀ (j : Nat) (t : Addr) (d : Nat × Nat), ts[j]? = some t → ds[j]? = some d → H t = some (.tup [.int (d.1 : Int), .int (d.2 : Int)])) → DpAll K H (ts.map V.ref) (ds.map pI)
  | [], [], _, _ => .nil
  | [], _ :: _, h, _ => by simp at h
  | _ :: _, [], h, _ => by simp at h
  | t :: ts, d :: ds, h, k => .cons (.tup (.inl (.inl (k 0 t d rfl rfl))) (.cons (.int _) (.cons (.int _) .nil))) (dp_pI (by simpa using h) fun j u e h1 h2 => k (j + 1) u e (by simpa using h1) (by simpa using h2))
def sp_p_runs (K : PySem.W.Frag) : Sp := fun vs H Q _ => ∃ (a : Addr) (sh : List Int), vs = [.ref a] ∧ SqL K H a (sh.map V.int) ∧ sh.length ≤ 1000 ∧
  ∀ (p : Addr) (ts : List Addr) (H' : Hp), Kp H H' → H p = none → H' p = some (.lst (ts.map V.ref)) → ts.length = min (fil (fsB sh) sh.length).length (fil (lsB sh) sh.length).length →
    (∀ (j : Nat) (t : Addr), ts[j]? = some t → ∃ x y, ((fil (fsB sh) sh.length).map V.int)[j]? = some x ∧ ((fil (lsB sh) sh.length).map V.int)[j]? = some y ∧ H' t = some (.tup [x, y])) → Q (.ref p) H'
theorem Kp.all {H H' : Hp} (k : ∀ c o, H c = some o → H' c = some o) : Kp H H' := by
  refine ⟨fun a o _ h => k a o h, fun a ⟨ps, h, ht⟩ => ⟨ps, k a _ h, ht⟩, fun a h => ?_⟩
  cases e : H a with
  | none => rfl
  | some o =>
    rw [k a o e] at h
    cases h
theorem at_nat {sh : List Int} {p : Nat} (h : p < sh.length) : (sh.map V.int)[p]? = some (.int (sh.getD p 0)) := by
  rw [List.getElem?_map, List.getD_eq_getElem?_getD, List.getElem?_eq_getElem h]
  rfl
theorem fil_filter (f g : Nat → Bool) (n : Nat) : (fil f n).filter (fun z => g z.toNat) = fil (fun p => f p && g p) n := by
  unfold fil
  rw [List.filter_map, List.filter_filter]
  congr 1
  refine List.filter_congr fun p _ => ?_
  show (g ((p : Int).toNat) && f p) = (f p && g p)
  rw [Int.toNat_natCast, Bool.and_comm]
theorem fil_same {f g : Nat → Bool} {n : Nat} (h : ∀ p, p < n → f p = g p) : fil f n = fil g n := by
  unfold fil
  congr 1
  exact List.filter_congr fun p m => h p (List.mem_range.mp m)
theorem pick_yes {p : Int → Bool} {l : List Int} {i : Nat} {z : Int} (h : l[i]? = some z) (c : p z = true) : (l.take (i + 1)).filter p = (l.take i).filter p ++ [z] := by
  rw [take_snoc h, List.filter_append]
  simp [c]
theorem pick_no {p : Int → Bool} {l : List Int} {i : Nat} {z : Int} (h : l[i]? = some z) (c : p z = false) : (l.take (i + 1)).filter p = (l.take i).filter p := by
  rw [take_snoc h, List.filter_append]
  simp [c]
theorem pick_len {p : Int → Bool} {l : List Int} {i : Nat} : ((l.take i).filter p).length ≤ l.length := Nat.le_trans (List.length_filter_le _ _) (by rw [List.length_take]; omega)
def pad (sh : List Int) : List Int := 0 :: (sh ++ [0])
def g1 (sh : List Int) (p : Nat) : Bool := decide (V.int ((pad sh).getD p 0) = V.int 0)
def g2 (sh : List Int) (p : Nat) : Bool := decide (V.int ((pad sh).getD (p + 2) 0) = V.int 0)
theorem pad_next {sh : List Int} {p : Nat} : (pad sh).getD (p + 1) 0 = sh.getD p 0 := by
  unfold pad
  rw [List.getD_cons_succ, List.getD_eq_getElem?_getD, List.getD_eq_getElem?_getD]
  rcases Nat.lt_or_ge p sh.length with c | c
  · rw [List.getElem?_append_left c]
  · rw [List.getElem?_append_right c, List.getElem?_eq_none c]
    cases e : p - sh.length with
    | zero => rfl
    | succ m => rfl
theorem fs_g1 {sh : List Int} : ∀ p, (sgB sh p && g1 sh p) = fsB sh p := fun p => by
  unfold fsB
  congr 1
  cases p with
  | zero => rfl
  | succ q =>
    unfold g1 rs
    rw [pad_next, decide_eq_false (Nat.succ_ne_zero q)]
    rfl
theorem ls_g2 {sh : List Int} : ∀ p, (sgB sh p && g2 sh p) = lsB sh p := fun p => by
  unfold lsB g2 rs
  rw [pad_next]
theorem ok_p_runs (T : Txt K mg) : FnOk P w K mg base CX0 1 T.f_p_runs T.d_p_runs ["shown"] (sp_p_runs K) := by
  refine T.F_p_runs.ok sc_p_runs (fun vs H Q E h => ?_) (fun cdv A outer s H vs Q E hr h => ?_)
  · obtain ⟨a, sh, rfl, _⟩ := h
    rfl
  · obtain ⟨a, sh, rfl, hS, hl, k⟩ := h
    refine ⟨_, (pss_cons (ps_set (i := 1) sc_p_runs.nd rfl (by first | exact Or.inl rfl | exact Or.inr rfl) (pe_lst (pa_cons (pe_glob rfl T.c_REST T.r_REST) (StX.pa_star (pv 0) (pa_cons (pe_glob rfl T.c_REST T.r_REST) pa_nil)))))
      (pss_cons (ps_setLc (i := 2) (own := [("place", 3), ("sign", 4)]) (by rfl) sc_p_runs.nd rfl rfl (sw_true rfl rfl rfl (by decide +kernel)) (pi_enum (by rfl) T.m_enumerate (pa_cons (pv 0) pa_nil)) (blkOk_by (own := [("place", 3), ("sign", 4)]) (N := ["shown", "padded", "signing", "place", "sign", "firsts", "lasts"]) (sc := defScope s_p_runs) (by decide +kernel)) (fun _ _ _ _ _ => (pgK K rfl (pg_tup (n := 2) rfl (pgs_cons (pg_name (i := 3) sc_p_runs.nd rfl (by first | exact Or.inl rfl | exact Or.inr rfl)) (pgs_cons (pg_name (i := 4) sc_p_runs.nd rfl (by first | exact Or.inl rfl | exact Or.inr rfl)) pgs_nil))))) (fun _ _ _ _ _ => (pts_one (pt_cmpR op_ne (pv 4) (pe_glob rfl T.c_REST T.r_REST) (nomark _)))) (fun _ _ _ _ _ => (pv 3)))
      (pss_cons (ps_setLc (i := 5) (own := [("place", 3)]) (g := gName 3) (by rfl) sc_p_runs.nd rfl rfl (sw_true rfl rfl rfl (by decide +kernel)) (pi_list (pv 2)) (blkOk_by (own := [("place", 3)]) (N := ["shown", "padded", "signing", "place", "sign", "firsts", "lasts"]) (sc := defScope s_p_runs) (by decide +kernel)) (fun _ _ _ _ _ => (pg_name (i := 3) sc_p_runs.nd rfl (by first | exact Or.inl rfl | exact Or.inr rfl))) (fun _ _ _ _ _ => (pts_one (pt_cmpR op_eq (pe_ix (ix_listK K rfl) (pv 1) (pv 3) (fun _ _ => rfl)) (pe_glob rfl T.c_REST T.r_REST) (nomark _)))) (fun _ _ _ _ _ => (pv 3)))
      (pss_cons (ps_setLc (i := 6) (own := [("place", 3)]) (g := gName 3) (by rfl) sc_p_runs.nd rfl rfl (sw_true rfl rfl rfl (by decide +kernel)) (pi_list (pv 2)) (blkOk_by (own := [("place", 3)]) (N := ["shown", "padded", "signing", "place", "sign", "firsts", "lasts"]) (sc := defScope s_p_runs) (by decide +kernel)) (fun _ _ _ _ _ => (pg_name (i := 3) sc_p_runs.nd rfl (by first | exact Or.inl rfl | exact Or.inr rfl))) (fun _ _ _ _ _ => (pts_one (pt_cmpR op_eq (pe_ix (ix_listK K rfl) (pv 1) (pe_op op_add (pv 3) pe_int) (fun _ _ => rfl)) (pe_glob rfl T.c_REST T.r_REST) (nomark _)))) (fun _ _ _ _ _ => (pv 3)))
      (pss_one (ps_ret (pe_listZip rfl (by rfl) T.m_list (by rfl) T.m_zip (pa_cons (pv 5) (pa_cons (pv 6) pa_nil))))))))), ?_⟩
    refine ⟨_, rfl, a, _, rfl, .inr hS, szl (by simp only [List.length_cons, List.length_append, List.length_map, List.length_nil]; omega), fun p1 n1 => ?_⟩
    have ep : V.int 0 :: (sh.map V.int ++ [V.int 0]) = (pad sh).map V.int := by
      unfold pad
      rw [List.map_cons, List.map_append]
      rfl
    rw [ep]
    generalize h_H1 : upd H p1 _ = H1
    have k_H1 : Kp H H1 := by rw [← h_H1]; exact .new n1
    have q_H1 := (congrFun h_H1 p1).symm.trans upd_same
    clear h_H1
    have lp : (pad sh).length = sh.length + 2 := by
      unfold pad
      rw [List.length_cons, List.length_append]
      rfl
    refine ⟨_, rfl, a, _, rfl, k_H1.sqL hS, fun D hD => ?_⟩
    refine lc_it (walk_enum (K := K) (a := a) (xs := sh.map V.int)) (fun i H' => Kp H1 H' ∧ H' D = some (.lst ((fil (sgB sh) i).map V.int))) ⟨Kp.new hD, upd_same⟩ (fun i H' _ ⟨kp, _⟩ => (k_H1.trans kp).sqL hS) ?_ ?_
    · rintro i x H' H'' hi ⟨kp, hDl⟩ ⟨t, i', v, rfl, nt, rfl, ei, ev⟩
      cases Option.some.inj ei
      rw [List.length_map] at hi
      have ev : (sh.map V.int)[i]? = some v := ev
      rw [at_nat hi] at ev
      cases Option.some.inj ev
      generalize h_H2 : upd H' t _ = H2
      have k_H2 : Kp H' H2 := by rw [← h_H2]; exact .new nt
      have q_H2 := (congrFun h_H2 t).symm.trans upd_same
      clear h_H2
      have hD2 := k_H2.same _ _ rfl hDl
      have hfl := fil_len (sgB sh) i
      refine ⟨t, _, rfl, .inl (.inl q_H2), rfl, _, _, rfl, _, _, rfl, rfl, rfl, ?_⟩
      refine ⟨_, rfl, rfl, _, rfl, iteB (fun c => ?_) (fun c => ?_)⟩
      · have c : sgB sh i = true := c
        refine ⟨_, rfl, _, hD2, szt (by rw [List.length_map]; omega), (kp.trans k_H2).mut hD, ?_⟩
        rw [upd_same, fil_yes c, List.map_append]
        rfl
      · have c : sgB sh i = false := c
        exact ⟨kp.trans k_H2, by rw [fil_no c]; exact hD2⟩
    rintro H2 ⟨k2, hD2⟩
    rw [List.length_map] at hD2
    have hfl := fil_len (sgB sh) sh.length
    have qp := k2.same _ _ rfl q_H1
    have el : ∀ {i : Nat} {z : Int}, (fil (sgB sh) sh.length)[i]? = some z → ∃ p : Nat, z = (p : Int) ∧ p < sh.length := fun h => by
      obtain ⟨p, e, h1, _⟩ := fil_mem.mp (List.mem_of_getElem? h)
      exact ⟨p, e, h1⟩
    refine ⟨_, rfl, D, rfl, ⟨_, .inl (.inl hD2)⟩, fun D3 nD3 => ?_⟩
    refine lc_list (K := K) (a := D) (xs := (fil (sgB sh) sh.length).map V.int) (fun i H' => Kp H2 H' ∧ H' D3 = some (.lst ((((fil (sgB sh) sh.length).take i).filter (fun z => g1 sh z.toNat)).map V.int))) ⟨Kp.new nD3, upd_same⟩ (fun i H' _ ⟨kp, _⟩ => kp.sqL (.inl (.inl hD2))) ?_ ?_
    · rintro i x H' hi ⟨kp, hDl⟩
      obtain ⟨z, _, rfl, hz⟩ := mem_ints hi
      obtain ⟨p, rfl, hp⟩ := el hz
      have hpl := pick_len (p := fun z => g1 sh z.toNat) (l := fil (sgB sh) sh.length) (i := i)
      refine ⟨rfl, ?_⟩
      refine ⟨_, rfl, _, rfl, p1, _, _, _, rfl, rfl, .inl (.inl (kp.same _ _ rfl qp)), getD_at (ns := pad sh) (j := p) (by omega), rfl, _, rfl, iteB (fun c => ?_) (fun c => ?_)⟩
      · have c : g1 sh ((p : Int).toNat) = true := c
        refine ⟨_, rfl, _, hDl, szt (by rw [List.length_map]; omega), kp.mut nD3, ?_⟩
        rw [upd_same, pick_yes hz c, List.map_append]
        rfl
      · have c : g1 sh ((p : Int).toNat) = false := c
        exact ⟨kp, by rw [pick_no hz c]; exact hDl⟩
    rintro H3 ⟨k3, hD3⟩
    rw [List.length_map, List.take_length, fil_filter, fil_same (fun p _ => fs_g1 p)] at hD3
    refine ⟨_, rfl, D, rfl, ⟨_, k3.sqL (.inl (.inl hD2))⟩, fun D4 nD4 => ?_⟩
    refine lc_list (K := K) (a := D) (xs := (fil (sgB sh) sh.length).map V.int) (fun i H' => Kp H3 H' ∧ H' D4 = some (.lst ((((fil (sgB sh) sh.length).take i).filter (fun z => g2 sh z.toNat)).map V.int))) ⟨Kp.new nD4, upd_same⟩ (fun i H' _ ⟨kp, _⟩ => (k3.trans kp).sqL (.inl (.inl hD2))) ?_ ?_
    · rintro i x H' hi ⟨kp, hDl⟩
      obtain ⟨z, _, rfl, hz⟩ := mem_ints hi
      obtain ⟨p, rfl, hp⟩ := el hz
      have hpl := pick_len (p := fun z => g2 sh z.toNat) (l := fil (sgB sh) sh.length) (i := i)
      have e2 : (p : Int) + 2 = ((p + 2 : Nat) : Int) := by omega
      refine ⟨rfl, ?_⟩
      refine ⟨_, rfl, _, rfl, _, _, rfl, rfl, p1, _, _, _, rfl, rfl, .inl (.inl ((k3.trans kp).same _ _ rfl qp)), by rw [e2]; exact getD_at (ns := pad sh) (j := p + 2) (by omega), rfl, _, rfl, iteB (fun c => ?_) (fun c => ?_)⟩
      · have c : g2 sh ((p : Int).toNat) = true := c
        refine ⟨_, rfl, _, hDl, szt (by rw [List.length_map]; omega), kp.mut nD4, ?_⟩
        rw [upd_same, pick_yes hz c, List.map_append]
        rfl
      · have c : g2 sh ((p : Int).toNat) = false := c
        exact ⟨kp, by rw [pick_no hz c]; exact hDl⟩
    rintro H4 ⟨k4, hD4⟩
    rw [List.length_map, List.take_length, fil_filter, fil_same (fun p _ => ls_g2 p)] at hD4
    refine ⟨_, rfl, _, rfl, D3, D4, _, _, rfl, .inl (.inl (k4.same _ _ rfl hD3)), .inl (.inl hD4), fun H5 p ts kk np nt q5 hlen hat => ?_⟩
    have k04 := ((k_H1.trans k2).trans k3).trans k4
    refine k p ts H5 (k04.trans (Kp.all kk)) (k04.free _ np) q5 (by rw [hlen, List.length_map, List.length_map]) hat
/-! ### the law's own stretches -/
def sp_l_due (K : PySem.W.Frag) : Sp := fun vs H Q _ => ∃ (a : Addr) (sh : List Int), vs = [.ref a] ∧ SqL K H a (sh.map V.int) ∧ sh.length ≤ 1000 ∧ (∀ x ∈ sh, 0 ≤ x) ∧
  ∀ (p : Addr) (ts : List Addr) (ds : List (Nat × Nat)) (H' : Hp), Kp H H' → H p = none → H' p = some (.lst (ts.map V.ref)) → ts.length = ds.length → ds.map (·.1) = (List.range sh.length).filter (fsB sh) → (∀ d ∈ ds, Run sh d.1 d.2) →
    (∀ (j : Nat) (t : Addr) (d : Nat × Nat), ts[j]? = some t → ds[j]? = some d → H' t = some (.tup [.int (d.1 : Int), .int (d.2 : Int)])) → Q (.ref p) H'
theorem pos_sg {sh : List Int} {i : Nat} (hb : ∀ x ∈ sh, 0 ≤ x) (hi : i < sh.length) : (sh.getD i 0 > 0) ↔ sgB sh i = true := by
  unfold sgB rs
  rw [Bool.not_eq_true', decide_eq_false_iff_not]
  have hm : sh.getD i 0 ∈ sh := by
    rw [List.getD_eq_getElem?_getD, List.getElem?_eq_getElem hi]
    exact List.getElem_mem hi
  have := hb _ hm
  constructor
  · intro h e
    have := V.int.inj e
    omega
  · intro h
    have : sh.getD i 0 ≠ 0 := fun e => h (by rw [e])
    omega
theorem or_by {t1 t2 σ H Kk b} (h : ∀ Kk', Kk' b H → tOr t1 t2 σ H Kk') (k : Kk b H) : tOr t1 t2 σ H Kk := h Kk k
theorem ok_l_due (T : Txt K mg) : FnOk P w K mg base CX0 1 T.f_l_due T.d_l_due ["_law_shown_here"] (sp_l_due K) := by
  refine T.F_l_due.ok sc_l_due (fun vs H Q E h => ?_) (fun cdv A outer s H vs Q E hr h => ?_)
  · obtain ⟨a, sh, rfl, _⟩ := h
    rfl
  · obtain ⟨a, sh, rfl, hS, hl, hb, k⟩ := h
    refine ⟨_, (pss_cons (ps_set (i := 1) sc_l_due.nd rfl (by first | exact Or.inl rfl | exact Or.inr rfl) (pe_lst pa_nil))
      (pss_cons (ps_for PassesOwn.never rfl (pi_range1 (by rfl) T.m_range (pa_cons (pe_callB call_len_seq (by rfl) T.m_len PySem.boot_len (pa_cons (pv 0) pa_nil)) pa_nil)) (pg_name (i := 2) sc_l_due.nd rfl (by first | exact Or.inl rfl | exact Or.inr rfl))
      (pss_one (ps_if (PW.pt (pw_and (pt_cmpR op_gt (pe_ix ix_list (pv 0) (pv 2) (fun _ _ => rfl)) pe_int (nomark _)) (pw_and1 (PW.pt (pw_or (pt_cmpR op_eq (pv 2) pe_int (nomark _)) (pw_or1 (pt_cmpR op_eq (pe_ix ix_list (pv 0) (pe_op op_sub (pv 2) pe_int) (fun _ _ => rfl)) pe_int (nomark _))))))))
      (pss_cons (ps_set (i := 3) sc_l_due.nd rfl (by first | exact Or.inl rfl | exact Or.inr rfl) (pv 2))
      (Evl.pss_cut (ps_while PassesOwn.never (PW.pt (pw_and (pt_cmpR op_lt (pe_op op_add (pv 3) pe_int) (pe_callB call_len_seq (by rfl) T.m_len PySem.boot_len (pa_cons (pv 0) pa_nil)) (nomark _)) (pw_and1 (pt_cmpR op_gt (pe_ix ix_list (pv 0) (pe_op op_add (pv 3) pe_int) (fun _ _ => rfl)) pe_int (nomark _)))))
      (pss_one (ps_aug (i := 3) sc_l_due.nd rfl (by first | exact Or.inl rfl | exact Or.inr rfl) pe_int ip_add)))
      (pss_one (ps_expr (pe_bm PySem.F.plainAttrs_list PySem.F.slot_list_append PySem.F.type_list_append mt_append (pv 1) (pa_cons (pe_tup (pa_cons (pv 2) (pa_cons (pv 3) pa_nil))) pa_nil))))))
      pss_nil)))
      (pss_one (ps_ret (pv 1))))), ?_⟩
    refine ⟨Nat.zero_le _, fun p0 n0 => ?_⟩
    generalize h_H0 : upd H p0 _ = H0
    have k_H0 : Kp H H0 := by rw [← h_H0]; exact .new n0
    have q_H0 := (congrFun h_H0 p0).symm.trans upd_same
    clear h_H0
    refine ⟨_, rfl, a, _, rfl, .inl (k_H0.sqL hS), _, rfl, by omega, by rw [List.length_map]; omega, ?_⟩
    rw [Int.toNat_natCast, List.length_map]
    refine for_range (lo := 0) (n := sh.length) (fun i σ H' => ∃ (y2 y3 : Option V) (ts : List Addr) (ds : List (Nat × Nat)), σ = [some (.ref a), some (.ref p0), y2, y3] ∧ Kp H H' ∧ H' p0 = some (.lst (ts.map V.ref)) ∧ ts.length = ds.length ∧ ds.length ≤ i ∧ ds.map (·.1) = (List.range i).filter (fsB sh) ∧ (∀ d ∈ ds, Run sh d.1 d.2) ∧
        ∀ (j : Nat) (t : Addr) (d : Nat × Nat), ts[j]? = some t → ds[j]? = some d → t ≠ p0 ∧ H' t = some (.tup [.int (d.1 : Int), .int (d.2 : Int)]))
      ⟨none, none, [], [], rfl, k_H0, q_H0, rfl, Nat.le_refl _, rfl, by simp, by simp⟩ ?_ ?_
    · rintro i σ H' hi ⟨y2, y3, ts, ds, rfl, kp, hp0, htl, hdl, hds, hrun, hat⟩
      have ez : (0 : Int) + (i : Int) = (i : Int) := Int.zero_add _
      rw [ez]
      have next : fsB sh i = false → _ := fun c => (⟨some (.int (i : Int)), y3, ts, ds, rfl, kp, hp0, htl, by omega, by rw [List.range_succ, List.filter_append, hds]; simp [c], hrun, hat⟩ : ∃ (z2 z3 : Option V) (ts : List Addr) (ds : List (Nat × Nat)), [some (V.ref a), some (V.ref p0), some (V.int (i : Int)), y3] = [some (.ref a), some (.ref p0), z2, z3] ∧ Kp H H' ∧ H' p0 = some (.lst (ts.map V.ref)) ∧ ts.length = ds.length ∧ ds.length ≤ i + 1 ∧ ds.map (·.1) = (List.range (i + 1)).filter (fsB sh) ∧ (∀ d ∈ ds, Run sh d.1 d.2) ∧
        ∀ (j : Nat) (t : Addr) (d : Nat × Nat), ts[j]? = some t → ds[j]? = some d → t ≠ p0 ∧ H' t = some (.tup [.int (d.1 : Int), .int (d.2 : Int)]))
      refine ⟨_, rfl, _, rfl, a, _, _, _, rfl, rfl, kp.sqL hS, getD_at hi, _, _, rfl, rfl, _, rfl, iteD (fun c => ?_) (fun c => ?_)⟩
      · have c : sgB sh i = true := (pos_sg hb hi).mp c
        refine or_by (b := decide (i = 0) || rs sh (i - 1)) (fun Kk hk => ?_) (iteB (fun c2 => ?_) (fun c2 => ?_))
        · refine ⟨_, rfl, rfl, _, rfl, iteB (fun d => ?_) (fun d => ?_)⟩
          · have d : V.int (i : Int) = V.int 0 := of_decide_eq_true d
            have d := V.int.inj d
            have e0 : i = 0 := by omega
            rw [decide_eq_true e0] at hk
            exact hk
          · have d : ¬ V.int (i : Int) = V.int 0 := of_decide_eq_false d
            have d : i ≠ 0 := fun z => d (by rw [z]; rfl)
            have e1 : (i : Int) - 1 = ((i - 1 : Nat) : Int) := by omega
            rw [decide_eq_false d] at hk
            exact ⟨_, rfl, _, rfl, _, _, rfl, rfl, a, _, _, _, rfl, rfl, kp.sqL hS, by rw [e1]; exact getD_at (ns := sh) (j := i - 1) (by omega), rfl, _, rfl, hk⟩
        · have hfs : fsB sh i = true := by unfold fsB; rw [c, c2]; rfl
          refine ⟨_, rfl, fun σ' H'' => ∃ e : Nat, σ' = [some (.ref a), some (.ref p0), some (.int (i : Int)), some (.int (e : Int))] ∧ H'' = H' ∧ Run sh i e, ?_, ?_⟩
          · refine ⟨fun m σ H'' => ∃ e : Nat, m = sh.length - e ∧ σ = [some (.ref a), some (.ref p0), some (.int (i : Int)), some (.int (e : Int))] ∧ H'' = H' ∧ i ≤ e ∧ e < sh.length ∧ ∀ q, i ≤ q → q ≤ e → sgB sh q = true,
              ⟨_, i, rfl, rfl, rfl, Nat.le_refl _, hi, fun q q1 q2 => by
                obtain rfl : q = i := by omega
                exact c⟩, ?_⟩
            rintro m σ H'' ⟨e, rfl, rfl, rfl, l1, l2, l3⟩
            have e1 : (e : Int) + 1 = ((e + 1 : Nat) : Int) := by omega
            refine ⟨_, rfl, _, _, rfl, rfl, _, rfl, a, _, rfl, .inl (kp.sqL hS), _, _, rfl, rfl, _, rfl, iteD (fun d => ?_) (fun d => ?_)⟩
            · rw [List.length_map] at d
              have d : e + 1 < sh.length := by omega
              refine ⟨_, rfl, _, rfl, _, _, rfl, rfl, a, _, _, _, rfl, rfl, kp.sqL hS, by rw [e1]; exact getD_at (ns := sh) (j := e + 1) d, _, _, rfl, rfl, _, rfl, iteD (fun d2 => ?_) (fun d2 => ?_)⟩
              · have d2 : sgB sh (e + 1) = true := (pos_sg hb d).mp d2
                refine ⟨_, fun σ' H'' w => w, ?_⟩
                refine ⟨_, rfl, _, _, rfl, rfl, sh.length - (e + 1), by omega, e + 1, rfl, by rw [← e1]; rfl, rfl, by omega, d, fun q q1 q2 => ?_⟩
                by_cases z : q = e + 1
                · rw [z]
                  exact d2
                · exact l3 q q1 (by omega)
              · refine ⟨e, rfl, rfl, l1, l3, ?_⟩
                cases z : rs sh (e + 1) with
                | true => rfl
                | false => exact (d2 ((pos_sg hb d).mpr (by unfold sgB; rw [z]; rfl))).elim
            · rw [List.length_map] at d
              refine ⟨e, rfl, rfl, l1, l3, ?_⟩
              cases z : rs sh (e + 1) with
              | true => rfl
              | false => exact (d (by have := sg_lt (sh := sh) (p := e + 1) (by unfold sgB; rw [z]; rfl); omega)).elim
          · rintro σ' H'' ⟨e, rfl, rfl, run⟩
            refine ⟨_, rfl, .inl ⟨rfl, _, SqL.of hp0⟩, _, rfl, _, rfl, szl (by show 2 ≤ 100000; decide), fun t nt => ?_⟩
            generalize h_H2 : upd H'' t _ = H2
            have k_H2 : Kp H'' H2 := by rw [← h_H2]; exact .new nt
            have q_H2 := (congrFun h_H2 t).symm.trans upd_same
            clear h_H2
            have hp2 := k_H2.same _ _ rfl hp0
            have net : t ≠ p0 := (ne_of_none hp0 nt).symm
            refine ⟨p0, _, _, rfl, rfl, hp2, szt (by rw [List.length_map]; omega), some (.int (i : Int)), some (.int (e : Int)), ts ++ [t], ds ++ [(i, e)], rfl, (kp.trans k_H2).mut n0, by rw [upd_same, List.map_append]; rfl, by rw [List.length_append, List.length_append, htl]; rfl, by rw [List.length_append]; show ds.length + 1 ≤ i + 1; omega,
              by rw [List.map_append, hds, List.range_succ, List.filter_append]; simp [hfs], fun d m => ?_, fun j u d h1 h2 => ?_⟩
            · rcases List.mem_append.mp m with m | m
              · exact hrun d m
              · rw [List.mem_singleton.mp m]
                exact run
            · by_cases hj : j < ts.length
              · rw [List.getElem?_append_left hj] at h1
                rw [List.getElem?_append_left (by omega)] at h2
                obtain ⟨g1, g2⟩ := hat j u d h1 h2
                exact ⟨g1, by rw [upd_ne g1]; exact k_H2.same _ _ rfl g2⟩
              · have hj2 : j = ts.length := by
                  have z := (List.getElem?_eq_some_iff.mp h1).1
                  rw [List.length_append] at z
                  have : [t].length = 1 := rfl
                  omega
                subst hj2
                rw [List.getElem?_append_right (Nat.le_refl _), Nat.sub_self] at h1
                rw [htl, List.getElem?_append_right (Nat.le_refl _), Nat.sub_self] at h2
                cases Option.some.inj h1
                cases Option.some.inj h2
                exact ⟨net, by rw [upd_ne net]; exact q_H2⟩
        · exact next (by unfold fsB; rw [c2]; exact Bool.and_false _)
      · have c : sgB sh i = false := by
          cases z : sgB sh i with
          | false => rfl
          | true => exact (c ((pos_sg hb hi).mpr z)).elim
        exact next (by unfold fsB; rw [c]; rfl)
    · rintro σ H' ⟨y2, y3, ts, ds, rfl, kp, hp0, htl, hdl, hds, hrun, hat⟩
      exact ⟨_, rfl, k p0 ts ds H' kp n0 hp0 htl hds hrun fun j t d h1 h2 => (hat j t d h1 h2).2⟩
/-! ### law -/
def sp_law (K : PySem.W.Frag) : Sp := fun vs H Q _ => ∃ (a : Addr) (ns : List Int), vs = [.ref a] ∧ SqL K H a (ns.map V.int) ∧ ns.length ≤ 63 ∧ ∀ H', Q (.bl true) H'
theorem rep_ints (m : Nat) (c : Int) : (List.replicate m [V.int c]).flatten = (List.replicate m c).map V.int := by
  induction m with
  | zero => rfl
  | succ m ih =>
    rw [List.replicate_succ, List.flatten_cons, ih, List.replicate_succ, List.map_cons]
    rfl
theorem fil_fst {sh : List Int} {ds : List (Nat × Nat)} (h : ds.map (·.1) = (List.range sh.length).filter (fsB sh)) : fil (fsB sh) sh.length = ds.map (fun d => (d.1 : Int)) := by
  unfold fil
  rw [← h, List.map_map]
  rfl
theorem fil_snd {sh : List Int} {ds : List (Nat × Nat)} (h : ds.map (·.1) = (List.range sh.length).filter (fsB sh)) (r : ∀ d ∈ ds, Run sh d.1 d.2) : fil (lsB sh) sh.length = ds.map (fun d => (d.2 : Int)) := by
  unfold fil
  rw [← ends_eq h r, List.map_map]
  rfl
theorem dp_found {K : PySem.W.Frag} {H : Hp} {sh : List Int} {ts : List Addr} {ds : List (Nat × Nat)} {p : Addr} (hp : H p = some (.lst (ts.map V.ref))) (hl : ts.length = min (fil (fsB sh) sh.length).length (fil (lsB sh) sh.length).length)
    (hat : ∀ (j : Nat) (t : Addr), ts[j]? = some t → ∃ x y, ((fil (fsB sh) sh.length).map V.int)[j]? = some x ∧ ((fil (lsB sh) sh.length).map V.int)[j]? = some y ∧ H t = some (.tup [x, y]))
    (h : ds.map (·.1) = (List.range sh.length).filter (fsB sh)) (r : ∀ d ∈ ds, Run sh d.1 d.2) : Dp K H (.ref p) (.list (ds.map pI)) := by
  rw [fil_fst h, fil_snd h r] at hl hat
  rw [List.length_map, List.length_map, Nat.min_self] at hl
  refine .lst (.inl (.inl hp)) (dp_pI hl fun j t d h1 h2 => ?_)
  obtain ⟨x, y, f1, f2, f3⟩ := hat j t h1
  rw [List.getElem?_map, List.getElem?_map, h2] at f1 f2
  cases Option.some.inj f1
  cases Option.some.inj f2
  exact f3
theorem dm_runs {ds : List (Nat × Nat)} (h : ds.length ≤ 1000) : Dm 4 (.list (ds.map pI)) := by
  refine .lst (fun d hd => ?_) (by rw [List.length_map]; omega)
  obtain ⟨q, _, rfl⟩ := List.mem_map.mp hd
  refine .tup (fun d hd => ?_) (by show 2 ≤ 10000; decide)
  simp only [List.mem_cons, List.not_mem_nil, or_false] at hd
  rcases hd with rfl | rfl
  · exact .int _ _
  · exact .int _ _
theorem ds_len {sh : List Int} {ds : List (Nat × Nat)} (h : ds.map (·.1) = (List.range sh.length).filter (fsB sh)) : ds.length ≤ sh.length := by
  have e := congrArg List.length (fil_fst h)
  rw [List.length_map] at e
  have := fil_len (fsB sh) sh.length
  omega
theorem ok_law (T : Txt K mg) {f : Addr} {fd : FuncData} (F : Fun K "law" "law" s_law f fd) : FnOk P w K mg base CX0 8 f fd ["_law_script"] (sp_law K) := by
  refine F.ok sc_law (fun vs H Q E h => ?_) (fun cdv A outer s H vs Q E hr h => ?_)
  · obtain ⟨a, ns, rfl, _⟩ := h
    rfl
  · obtain ⟨a, ns, rfl, hS, hlen, k⟩ := h
    refine ⟨_, (pss_cons (ps_set (i := 1) sc_law.nd rfl (by first | exact Or.inl rfl | exact Or.inr rfl) (pe_lst (pa_cons (pe_ix ix_tup (pe_call (ok_l_shown T) (hr.mono (by decide)) rfl T.g_l_shown T.F_l_shown.kp T.b_l_shown .nil pass0 (pa_cons (pv 0) (pa_cons pe_int pa_nil))) pe_int (fun _ _ => rfl)) (pa_cons (pe_ix ix_tup (pe_call (ok_l_shown T) (hr.mono (by decide)) rfl T.g_l_shown T.F_l_shown.kp T.b_l_shown .nil pass0 (pa_cons (pv 0) (pa_cons pe_int pa_nil))) pe_int (fun _ _ => rfl)) pa_nil))))
      (pss_cons (ps_set (i := 1) sc_law.nd rfl (by first | exact Or.inl rfl | exact Or.inr rfl) (pe_op op_cat (pv 1) (pe_lst (pa_cons (pe_op op_rep (pe_lst (pa_cons pe_int pa_nil)) (pe_callB call_len_seq (by rfl) T.m_len PySem.boot_len (pa_cons (pe_ix ix_list (pv 1) pe_int (fun _ _ => rfl)) pa_nil))) (pa_cons (pe_op op_rep (pe_lst (pa_cons pe_int pa_nil)) (pe_callB call_len_seq (by rfl) T.m_len PySem.boot_len (pa_cons (pe_ix ix_list (pv 1) pe_int (fun _ _ => rfl)) pa_nil))) (pa_cons (pe_ix ix_list (pv 1) pe_int (fun _ _ => rfl)) pa_nil))))))
      (pss_cons (ps_for PassesOwn.never rfl (pi_list (pv 1)) (pg_name (i := 2) sc_law.nd rfl (by first | exact Or.inl rfl | exact Or.inr rfl))
      (pss_cons (ps_set (i := 3) sc_law.nd rfl (by first | exact Or.inl rfl | exact Or.inr rfl) (pe_callTy call_list_of (by rfl) T.m_list (by decide +kernel) (pa_cons (pv 2) pa_nil)))
      (pss_cons (ps_set (i := 4) sc_law.nd rfl (by first | exact Or.inl rfl | exact Or.inr rfl) (pe_call (ok_p_runs T) (hr.mono (by decide)) rfl T.g_p_runs T.F_p_runs.kp T.b_p_runs .nil pass0 (pa_cons (pv 3) pa_nil)))
      (pss_cons (ps_if (PW.pt (pw_or (pt_not (pt_val (pe_call (ok_l_like T 4) (hr.mono (by decide)) rfl T.g_l_like T.F_l_like.kp T.b_l_like .nil pass0 (pa_cons (pv 4) (pa_cons (pe_call (ok_l_due T) (hr.mono (by decide)) rfl T.g_l_due T.F_l_due.kp T.b_l_due .nil pass0 (pa_cons (pv 2) pa_nil)) pa_nil))))) (pw_or1 (pt_cmpR (op_neD hr.units) (pv 3) (pv 2) (nomark _)))))
      (pss_one (ps_ret pe_bl))
      pss_nil)
      (pss_one (ps_expr (pe_bm PySem.F.plainAttrs_list PySem.F.slot_list_append PySem.F.type_list_append mt_append (pv 4) (pa_cons (pe_tup (pa_cons pe_int (pa_cons pe_int pa_nil))) pa_nil))))))))
      (pss_one (ps_ret (pe_call (ok_l_like T 4) (hr.mono (by decide)) rfl T.g_l_like T.F_l_like.kp T.b_l_like .nil pass0 (pa_cons (pe_call (ok_p_runs T) (hr.mono (by decide)) rfl T.g_p_runs T.F_p_runs.kp T.b_p_runs .nil pass0 (pa_cons (pe_callTy call_list_of (by rfl) T.m_list (by decide +kernel) (pa_cons (pe_ix ix_list (pv 1) pe_int (fun _ _ => rfl)) pa_nil)) pa_nil)) (pa_cons (pe_call (ok_l_due T) (hr.mono (by decide)) rfl T.g_l_due T.F_l_due.kp T.b_l_due .nil pass0 (pa_cons (pe_ix ix_list (pv 1) pe_int (fun _ _ => rfl)) pa_nil)) pa_nil)))))))), ?_⟩
    refine ⟨_, rfl, a, ns, 0, rfl, hS, by decide, fun n sh wt fA fB t p1 p2 p3 H1 k1 qt f1 q1 q2 q3 hB ha f2 f3 => ?_⟩
    refine ⟨t, _, _, _, rfl, rfl, .inl (.inl qt), rfl, ?_⟩
    refine ⟨_, rfl, a, ns, 2, rfl, k1.sqL hS, by decide, fun n' sh' wt' fA' fB' t' r1 r2 r3 H2 k2 qt' f1' q1' q2' q3' hB' ha' f2' f3' => ?_⟩
    refine ⟨t', _, _, _, rfl, rfl, .inl (.inl qt'), rfl, szl (by show 2 ≤ 100000; decide), fun p4 n4 => ?_⟩
    generalize h_H3 : upd H2 p4 _ = H3
    have k_H3 : Kp H2 H3 := by rw [← h_H3]; exact .new n4
    have q_H3 := (congrFun h_H3 p4).symm.trans upd_same
    clear h_H3
    have q13 := (k2.trans k_H3).same _ _ rfl q1
    refine ⟨_, rfl, szl (by show 1 ≤ 100000; decide), fun p5 n5 => ?_⟩
    generalize h_H4 : upd H3 p5 _ = H4
    have k_H4 : Kp H3 H4 := by rw [← h_H4]; exact .new n5
    have q_H4 := (congrFun h_H4 p5).symm.trans upd_same
    clear h_H4
    refine ⟨_, rfl, p4, _, _, _, rfl, rfl, .inl (.inl (k_H4.same _ _ rfl q_H3)), rfl, p1, _, rfl, .inl (.inl (.inl (k_H4.same _ _ rfl q13))), ?_⟩
    have hl1 := ha.len
    have hh1 := ha.hi
    have hl2 := ha'.len
    have hh2 := ha'.hi
    have eL : ((sh.map V.int).length : Int).toNat = sh.length := by rw [Int.toNat_natCast, List.length_map]
    have bL : ((sh.map V.int).length : Int) = (sh.length : Int) := by rw [List.length_map]
    refine ⟨p5, _, _, rfl, rfl, q_H4, by omega, by omega, szl (by rw [eL]; show 1 * sh.length ≤ 100000; omega), fun p6 n6 => ?_⟩
    rw [eL, rep_ints]
    generalize h_H5 : upd H4 p6 _ = H5
    have k_H5 : Kp H4 H5 := by rw [← h_H5]; exact .new n6
    have q_H5 := (congrFun h_H5 p6).symm.trans upd_same
    clear h_H5
    have k35 := k_H4.trans k_H5
    refine ⟨szl (by show 1 ≤ 100000; decide), fun p7 n7 => ?_⟩
    generalize h_H6 : upd H5 p7 _ = H6
    have k_H6 : Kp H5 H6 := by rw [← h_H6]; exact .new n7
    have q_H6 := (congrFun h_H6 p7).symm.trans upd_same
    clear h_H6
    have k36 := k35.trans k_H6
    refine ⟨_, rfl, p4, _, _, _, rfl, rfl, .inl (.inl (k36.same _ _ rfl q_H3)), rfl, p1, _, rfl, .inl (.inl (.inl (k36.same _ _ rfl q13))), ?_⟩
    refine ⟨p7, _, _, rfl, rfl, q_H6, by omega, by omega, szl (by rw [eL]; show 1 * sh.length ≤ 100000; omega), fun p8 n8 => ?_⟩
    rw [eL, rep_ints]
    generalize h_H7 : upd H6 p8 _ = H7
    have k_H7 : Kp H6 H7 := by rw [← h_H7]; exact .new n8
    have q_H7 := (congrFun h_H7 p8).symm.trans upd_same
    clear h_H7
    have k37 := k36.trans k_H7
    refine ⟨_, rfl, p4, _, _, _, rfl, rfl, .inl (.inl (k37.same _ _ rfl q_H3)), rfl, szl (by show 3 ≤ 100000; decide), fun p9 n9 => ?_⟩
    generalize h_H8 : upd H7 p9 _ = H8
    have k_H8 : Kp H7 H8 := by rw [← h_H8]; exact .new n9
    have q_H8 := (congrFun h_H8 p9).symm.trans upd_same
    clear h_H8
    have k38 := k37.trans k_H8
    refine ⟨p4, p9, _, _, rfl, rfl, k38.same _ _ rfl q_H3, q_H8, szl (by show 5 ≤ 100000; decide), fun p10 n10 => ?_⟩
    generalize h_H9 : upd H8 p10 _ = H9
    have k_H9 : Kp H8 H9 := by rw [← h_H9]; exact .new n10
    have q_H9 := (congrFun h_H9 p10).symm.trans upd_same
    clear h_H9
    have k39 := k38.trans k_H9
    have src : ∀ x ∈ [V.ref p1, V.ref r1] ++ [V.ref p6, V.ref p8, V.ref p1], ∃ (p : Addr) (xs : List Int), x = .ref p ∧ H9 p = some (.lst (xs.map V.int)) ∧ xs.length ≤ 12 ∧ ∀ y ∈ xs, 0 ≤ y := fun x m => by
      have m : x = V.ref p1 ∨ x = V.ref r1 ∨ x = V.ref p6 ∨ x = V.ref p8 := by
        simp only [List.cons_append, List.nil_append, List.mem_cons, List.not_mem_nil, or_false] at m
        rcases m with m | m | m | m | m
        · exact .inl m
        · exact .inr (.inl m)
        · exact .inr (.inr (.inl m))
        · exact .inr (.inr (.inr m))
        · exact .inl m
      rcases m with rfl | rfl | rfl | rfl
      · exact ⟨p1, sh, rfl, k39.same _ _ rfl q13, by omega, fun y hy => (ha.ok y hy).1⟩
      · exact ⟨r1, sh', rfl, k39.same _ _ rfl (k_H3.same _ _ rfl q1'), by omega, fun y hy => (ha'.ok y hy).1⟩
      · exact ⟨p6, _, rfl, ((k_H6.trans k_H7).trans (k_H8.trans k_H9)).same _ _ rfl q_H5, by rw [List.length_replicate]; omega, fun y hy => by rw [List.eq_of_mem_replicate hy]; decide⟩
      · exact ⟨p8, _, rfl, (k_H8.trans k_H9).same _ _ rfl q_H7, by rw [List.length_replicate]; omega, fun y hy => by rw [List.eq_of_mem_replicate hy]; decide⟩
    refine ⟨_, rfl, p10, rfl, ⟨_, .inl (.inl q_H9)⟩, for_list (K := K) (a := p10) (xs := [V.ref p1, V.ref r1] ++ [V.ref p6, V.ref p8, V.ref p1]) (fun i σ H' => ∃ (y2 y3 y4 : Option V), σ = [some (.ref a), some (.ref p10), y2, y3, y4] ∧ Kp H9 H')
      ⟨none, none, none, rfl, .refl _⟩ (fun i σ H' _ ⟨_, _, _, _, kp⟩ => kp.sqL (.inl (.inl q_H9))) ?_ ?_⟩
    · rintro i x σ H' hi ⟨y2, y3, y4, rfl, kp⟩
      obtain ⟨p, xs, rfl, hp, hxl, hxb⟩ := src x (List.mem_of_getElem? hi)
      have hp := kp.same _ _ rfl hp
      refine ⟨_, rfl, p, _, rfl, .inl (.inl (.inl hp)), fun p11 n11 => ?_⟩
      generalize h_H10 : upd H' p11 _ = H10
      have k_H10 : Kp H' H10 := by rw [← h_H10]; exact .new n11
      have q_H10 := (congrFun h_H10 p11).symm.trans upd_same
      clear h_H10
      refine ⟨_, rfl, p11, xs, rfl, .inl (.inl q_H10), by omega, fun pf ts H11 k11 nf qf hfl hat => ?_⟩
      have kA := k_H10.trans k11
      refine ⟨_, rfl, _, rfl, p, xs, rfl, .inl (.inl (kA.same _ _ rfl hp)), by omega, hxb, fun pd ts2 ds H12 k12 nd qd hl2 hfst hrun hat2 => ?_⟩
      have dsl := ds_len hfst
      have dm := dm_runs (ds := ds) (by omega)
      have df : Dp K H11 (.ref pf) (.list (ds.map pI)) := dp_found qf hfl hat hfst hrun
      refine ⟨_, _, _, rfl, k12.dp df, .lst (.inl (.inl qd)) (dp_pI hl2 hat2), dm.dn, fun H13 k13 => ⟨_, rfl, iteFo rfl ?_⟩⟩
      have dn : Dm 4 (dI xs) := dm_dI (by omega)
      have kB := k12.trans k13
      refine ⟨_, rfl, _, rfl, dI xs, dI xs, dp_dI (.inl (.inl ((k11.trans kB).same _ _ rfl q_H10))), dp_dI (.inl (.inl ((kA.trans kB).same _ _ rfl hp))), dn.shaped (by decide), dn.shaped (by decide), _, rfl, iteFo (by rw [dn.same (by decide)]; rfl) ?_⟩
      have qf' := kB.same _ _ rfl qf
      refine ⟨_, rfl, .inl ⟨rfl, _, SqL.of qf'⟩, szl (by show 2 ≤ 100000; decide), fun t9 n9' => ?_⟩
      generalize h_H14 : upd H13 t9 _ = H14
      have k_H14 : Kp H13 H14 := by rw [← h_H14]; exact .new n9'
      have q_H14 := (congrFun h_H14 t9).symm.trans upd_same
      clear h_H14
      have tl : ts.length ≤ 1000 := by
        have := fil_len (fsB xs) xs.length
        omega
      refine ⟨pf, _, _, rfl, rfl, k_H14.same _ _ rfl qf', szt (by rw [List.length_map]; omega), _, _, _, rfl, ?_⟩
      have kC := (kp.trans (kA.trans kB)).trans k_H14
      exact kC.mut ((kp.trans k_H10).free _ nf)
    · rintro σ H' ⟨y2, y3, y4, rfl, kp⟩
      have qs := kp.same _ _ rfl q_H9
      have qp := (k39.trans kp).same _ _ rfl q13
      refine ⟨_, rfl, p10, _, _, _, rfl, rfl, .inl (.inl qs), rfl, p1, _, rfl, .inl (.inl (.inl qp)), fun p12 n12 => ?_⟩
      generalize h_H10 : upd H' p12 _ = H10
      have k_H10 : Kp H' H10 := by rw [← h_H10]; exact .new n12
      have q_H10 := (congrFun h_H10 p12).symm.trans upd_same
      clear h_H10
      refine ⟨p12, sh, rfl, .inl (.inl q_H10), by omega, fun pf ts H11 k11 nf qf hfl hat => ?_⟩
      have kA := k_H10.trans k11
      refine ⟨_, rfl, p10, _, _, _, rfl, rfl, .inl (.inl (kA.same _ _ rfl qs)), rfl, p1, sh, rfl, .inl (.inl (kA.same _ _ rfl qp)), by omega, fun y hy => (ha.ok y hy).1, fun pd ts2 ds H12 k12 nd qd hl2' hfst hrun hat2 => ?_⟩
      have dsl := ds_len hfst
      have dm := dm_runs (ds := ds) (by omega)
      have df : Dp K H11 (.ref pf) (.list (ds.map pI)) := dp_found qf hfl hat hfst hrun
      exact ⟨_, _, _, rfl, k12.dp df, .lst (.inl (.inl qd)) (dp_pI hl2' hat2), dm.dn, fun H13 _ => k H13⟩
end
theorem all_mk {l : PySem.W.OpenLaw} {w : World} {K : PySem.W.Frag} {h : Heap} {mg : Str → Option Value} {fa : Addr} (X : K.In h) (G : h.Ns mainGlobals mg) (hfa : mg "law" = some (.ref fa))
    {f1 : Addr} {od1 an1 : Option Addr} {sl1 : Array (Option Value)} {oc1 kV1 dc1 pm1 cd1 ct1 : Value}
    {f2 : Addr} {od2 an2 : Option Addr} {sl2 : Array (Option Value)} {oc2 kV2 dc2 pm2 cd2 ct2 : Value}
    {f3 : Addr} {od3 an3 : Option Addr} {sl3 : Array (Option Value)} {oc3 kV3 dc3 pm3 cd3 ct3 : Value}
    {f4 : Addr} {od4 an4 : Option Addr} {sl4 : Array (Option Value)} {oc4 kV4 dc4 pm4 cd4 ct4 : Value}
    {f5 : Addr} {od5 an5 : Option Addr} {sl5 : Array (Option Value)} {oc5 kV5 dc5 pm5 cd5 ct5 : Value}
    {f6 : Addr} {od6 an6 : Option Addr} {sl6 : Array (Option Value)} {oc6 kV6 dc6 pm6 cd6 ct6 : Value}
    {f7 : Addr} {od7 an7 : Option Addr} {sl7 : Array (Option Value)} {oc7 kV7 dc7 pm7 cd7 ct7 : Value}
    {tk_REST : Tok}
    (a1 : PySem.W.nsIn K mainGlobals "runs" = some (some (.ref f1)))
    (l1 : K.lookup f1 = some ⟨oc1, od1, .func (PySem.W.fnOf "runs" "runs" (defArgs s_p_runs) (defBody s_p_runs) (defScope s_p_runs) .none kV1 dc1 pm1 an1 cd1 ct1), sl1⟩)
    (c1 : PySem.W.codeIn K cd1 "runs" = true)
    (k1 : PySem.W.keepIn K (.ref f1) = true)
    (a2 : PySem.W.nsIn K mainGlobals "_law_cell" = some (some (.ref f2)))
    (l2 : K.lookup f2 = some ⟨oc2, od2, .func (PySem.W.fnOf "_law_cell" "_law_cell" (defArgs s_l_cell) (defBody s_l_cell) (defScope s_l_cell) .none kV2 dc2 pm2 an2 cd2 ct2), sl2⟩)
    (c2 : PySem.W.codeIn K cd2 "_law_cell" = true)
    (k2 : PySem.W.keepIn K (.ref f2) = true)
    (a3 : PySem.W.nsIn K mainGlobals "_law_row" = some (some (.ref f3)))
    (l3 : K.lookup f3 = some ⟨oc3, od3, .func (PySem.W.fnOf "_law_row" "_law_row" (defArgs s_l_row) (defBody s_l_row) (defScope s_l_row) .none kV3 dc3 pm3 an3 cd3 ct3), sl3⟩)
    (c3 : PySem.W.codeIn K cd3 "_law_row" = true)
    (k3 : PySem.W.keepIn K (.ref f3) = true)
    (a4 : PySem.W.nsIn K mainGlobals "_law_like" = some (some (.ref f4)))
    (l4 : K.lookup f4 = some ⟨oc4, od4, .func (PySem.W.fnOf "_law_like" "_law_like" (defArgs s_l_like) (defBody s_l_like) (defScope s_l_like) .none kV4 dc4 pm4 an4 cd4 ct4), sl4⟩)
    (c4 : PySem.W.codeIn K cd4 "_law_like" = true)
    (k4 : PySem.W.keepIn K (.ref f4) = true)
    (a5 : PySem.W.nsIn K mainGlobals "_law_shown" = some (some (.ref f5)))
    (l5 : K.lookup f5 = some ⟨oc5, od5, .func (PySem.W.fnOf "_law_shown" "_law_shown" (defArgs s_l_shown) (defBody s_l_shown) (defScope s_l_shown) .none kV5 dc5 pm5 an5 cd5 ct5), sl5⟩)
    (c5 : PySem.W.codeIn K cd5 "_law_shown" = true)
    (k5 : PySem.W.keepIn K (.ref f5) = true)
    (a6 : PySem.W.nsIn K mainGlobals "_law_due" = some (some (.ref f6)))
    (l6 : K.lookup f6 = some ⟨oc6, od6, .func (PySem.W.fnOf "_law_due" "_law_due" (defArgs s_l_due) (defBody s_l_due) (defScope s_l_due) .none kV6 dc6 pm6 an6 cd6 ct6), sl6⟩)
    (c6 : PySem.W.codeIn K cd6 "_law_due" = true)
    (k6 : PySem.W.keepIn K (.ref f6) = true)
    (a7 : PySem.W.nsIn K mainGlobals "law" = some (some (.ref f7)))
    (l7 : K.lookup f7 = some ⟨oc7, od7, .func (PySem.W.fnOf "law" "law" (defArgs s_law) (defBody s_law) (defScope s_law) .none kV7 dc7 pm7 an7 cd7 ct7), sl7⟩)
    (c7 : PySem.W.codeIn K cd7 "law" = true)
    (k7 : PySem.W.keepIn K (.ref f7) = true)
    (q_REST : PySem.W.nsIn K mainGlobals "REST" = some (some (.int 0 tk_REST)))
    (z_list : PySem.W.nsIn K mainGlobals "list" = some none)
    (z_zip : PySem.W.nsIn K mainGlobals "zip" = some none)
    (z_enumerate : PySem.W.nsIn K mainGlobals "enumerate" = some none)
    (z_len : PySem.W.nsIn K mainGlobals "len" = some none)
    (z_range : PySem.W.nsIn K mainGlobals "range" = some none)
    (z_isinstance : PySem.W.nsIn K mainGlobals "isinstance" = some none)
    (z_bool : PySem.W.nsIn K mainGlobals "bool" = some none)
    (z_int : PySem.W.nsIn K mainGlobals "int" = some none)
    (z_str : PySem.W.nsIn K mainGlobals "str" = some none)
    (z_all : PySem.W.nsIn K mainGlobals "all" = some none)
    (z_tuple : PySem.W.nsIn K mainGlobals "tuple" = some none) :
    ∃ fd : FuncData, (∀ (s : Shared) (v : Value), BindsTo s fd ⟨[v], []⟩ [("_law_script", v)]) ∧ ∀ base : Heap, K.In base → base.Ns mainGlobals mg → FnOk l.prog w K mg base CX0 8 fa fd ["_law_script"] (sp_law K) := by
  have e := hfa.symm.trans (PySem.W.mg_of X G a7)
  cases e
  let T : Txt K mg :=
    { f_p_runs := f1,
      d_p_runs := _,
      F_p_runs := fun_mk (st := s_p_runs) l1 c1 k1,
      b_p_runs := (fun_mk (st := s_p_runs) l1 c1 k1).binds (ps := ["shown"]) fun _ _ _ _ _ _ us hl => match us, hl with | [_], _ => rfl,
      g_p_runs := PySem.W.mg_of X G a1,
      f_l_cell := f2,
      d_l_cell := _,
      F_l_cell := fun_mk (st := s_l_cell) l2 c2 k2,
      b_l_cell := (fun_mk (st := s_l_cell) l2 c2 k2).binds (ps := ["_law_script", "_law_at"]) fun _ _ _ _ _ _ us hl => match us, hl with | [_, _], _ => rfl,
      g_l_cell := PySem.W.mg_of X G a2,
      f_l_row := f3,
      d_l_row := _,
      F_l_row := fun_mk (st := s_l_row) l3 c3 k3,
      b_l_row := (fun_mk (st := s_l_row) l3 c3 k3).binds (ps := ["_law_cell_here", "_law_many", "_law_size"]) fun _ _ _ _ _ _ us hl => match us, hl with | [_, _, _], _ => rfl,
      g_l_row := PySem.W.mg_of X G a3,
      f_l_like := f4,
      d_l_like := _,
      F_l_like := fun_mk (st := s_l_like) l4 c4 k4,
      b_l_like := (fun_mk (st := s_l_like) l4 c4 k4).binds (ps := ["_law_found", "_law_due_here"]) fun _ _ _ _ _ _ us hl => match us, hl with | [_, _], _ => rfl,
      g_l_like := PySem.W.mg_of X G a4,
      f_l_shown := f5,
      d_l_shown := _,
      F_l_shown := fun_mk (st := s_l_shown) l5 c5 k5,
      b_l_shown := (fun_mk (st := s_l_shown) l5 c5 k5).binds (ps := ["_law_script", "_law_at"]) fun _ _ _ _ _ _ us hl => match us, hl with | [_, _], _ => rfl,
      g_l_shown := PySem.W.mg_of X G a5,
      f_l_due := f6,
      d_l_due := _,
      F_l_due := fun_mk (st := s_l_due) l6 c6 k6,
      b_l_due := (fun_mk (st := s_l_due) l6 c6 k6).binds (ps := ["_law_shown_here"]) fun _ _ _ _ _ _ us hl => match us, hl with | [_], _ => rfl,
      g_l_due := PySem.W.mg_of X G a6,
      u_REST := _,
      c_REST := PySem.W.mg_of X G q_REST,
      r_REST := ⟨_, rfl⟩,
      m_list := PySem.W.mg_none_of X G z_list,
      m_zip := PySem.W.mg_none_of X G z_zip,
      m_enumerate := PySem.W.mg_none_of X G z_enumerate,
      m_len := PySem.W.mg_none_of X G z_len,
      m_range := PySem.W.mg_none_of X G z_range,
      m_isinstance := PySem.W.mg_none_of X G z_isinstance,
      m_bool := PySem.W.mg_none_of X G z_bool,
      m_int := PySem.W.mg_none_of X G z_int,
      m_str := PySem.W.mg_none_of X G z_str,
      m_all := PySem.W.mg_none_of X G z_all,
      m_tuple := PySem.W.mg_none_of X G z_tuple }
  exact ⟨PySem.W.fnOf "law" "law" (defArgs s_law) (defBody s_law) (defScope s_law) .none kV7 dc7 pm7 an7 cd7 ct7, fun s v => .of_eq rfl, fun base _ _ => ok_law T (fun_mk (st := s_law) l7 c7 k7)⟩
end Mw
open PySem PySem.W PyProof.Rows
set_option maxRecDepth 100000 in
set_option maxHeartbeats 0 in
theorem PySem.Challenge.cw_mastword_k12_stretches_of_arms_holds : PySem.Challenge.rw_mastword_k12_stretches_of_arms.Holds := by
  w_on; o_law; k_head; (case hw => w_witness2)
  k_fill
  refine L2.walk_of (l := PySem.Challenge.rw_mastword_k12_stretches_of_arms) (n := 63) (k := 8) (x := "_law_script") (CX := fun _ => L2.CX0) (sp := fun w => Mw.sp_law _) rfl (by decide) rfl ⟨rfl, by decide, by decide⟩ (fun w h Y => PySem.W.kIn_of Y) ?F (fun _ _ a ns hl _ hS => ⟨a, ns, rfl, hS, hl, fun _ => rfl⟩) (fun _ _ _ _ _ h => h)
  case F =>
    intro w mg fa h KX G hmg
    refine' Mw.all_mk KX G hmg ?a1 ?l1 ?c1 ?k1 ?a2 ?l2 ?c2 ?k2 ?a3 ?l3 ?c3 ?k3 ?a4 ?l4 ?c4 ?k4 ?a5 ?l5 ?c5 ?k5 ?a6 ?l6 ?c6 ?k6 ?a7 ?l7 ?c7 ?k7 ?q_REST ?z_list ?z_zip ?z_enumerate ?z_len ?z_range ?z_isinstance ?z_bool ?z_int ?z_str ?z_all ?z_tuple
    (case a1 => k_is)
    (case l1 => k_is)
    (case c1 => k_is)
    (case k1 => k_is)
    (case a2 => k_is)
    (case l2 => k_is)
    (case c2 => k_is)
    (case k2 => k_is)
    (case a3 => k_is)
    (case l3 => k_is)
    (case c3 => k_is)
    (case k3 => k_is)
    (case a4 => k_is)
    (case l4 => k_is)
    (case c4 => k_is)
    (case k4 => k_is)
    (case a5 => k_is)
    (case l5 => k_is)
    (case c5 => k_is)
    (case k5 => k_is)
    (case a6 => k_is)
    (case l6 => k_is)
    (case c6 => k_is)
    (case k6 => k_is)
    (case a7 => k_is)
    (case l7 => k_is)
    (case c7 => k_is)
    (case k7 => k_is)
    (case q_REST => k_is)
    (case z_list => k_is)
    (case z_zip => k_is)
    (case z_enumerate => k_is)
    (case z_len => k_is)
    (case z_range => k_is)
    (case z_isinstance => k_is)
    (case z_bool => k_is)
    (case z_int => k_is)
    (case z_str => k_is)
    (case z_all => k_is)
    (case z_tuple => k_is)
