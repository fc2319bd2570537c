import PyProof.Rows.All
import Wide.All
import OpenK.AllK
import Wide.FinOn
import HandS.ForMost
import HandS.ForExc
import HandS.AnyAll
import HandS.EndTab
import HandS.ExcIs
import HandS.ExcField
import HandS.ExcInit
import HandS.IsInst
import HandS.Conv
import HandS.Replace
import HandS.Flow
import HandS.Walk
import HandS.Evl
import KE.KExcIs
import HandS.EndOwn
import HandS.CallRecv
import HandS.Style
import HandS.Star
import HandS.Zip
import HandS.ExcValue
import KE.KDictZip
import KE.KDictList
import HandS.WideBits
import PySem.Challenge.RW_mastword_k16_whole_fewest_askings
set_option Elab.async false
set_option linter.all false
set_option maxRecDepth 100000
set_option maxHeartbeats 2000000
namespace Mw
open PySem PySem.Spec PyProof.Rows L2
/-! ### what is kept: every tracked thing but the tables of code objects, which stay tables -/
def isT : HO → Bool
  | .tbl _ => true
  | _ => false
structure Kp (H H' : Hp) : Prop where
  same : ∀ a o, isT o = false → H a = some o → H' a = some o
  tab : ∀ a, GxR.TabG H a → GxR.TabG H' a
  free : ∀ a, H' a = none → H a = none
theorem Kp.refl (H : Hp) : Kp H H := ⟨fun _ _ _ h => h, fun _ h => h, fun _ h => h⟩
theorem Kp.trans {H H1 H2 : Hp} (a : Kp H H1) (b : Kp H1 H2) : Kp H H2 :=
  ⟨fun x o t h => b.same x o t (a.same x o t h), fun x h => b.tab x (a.tab x h), fun x h => a.free x (b.free x h)⟩
theorem Kp.mut {H H' : Hp} {p : Addr} {o : HO} (e : Kp H H') (h : H p = none) : Kp H (upd H' p o) := by
  refine ⟨fun a u t ha => ?_, fun a ⟨ps, ha, ht⟩ => ?_, fun a ha => ?_⟩
  · rw [upd_ne (ne_of_none ha h)]
    exact e.same a u t ha
  · obtain ⟨ps', h1, h2⟩ := e.tab a ⟨ps, ha, ht⟩
    exact ⟨ps', by rw [upd_ne (ne_of_none ha h)]; exact h1, h2⟩
  · by_cases q : a = p
    · rw [q]
      exact h
    · rw [upd_ne q] at ha
      exact e.free a ha
theorem Kp.new {H : Hp} {p : Addr} {o : HO} (h : H p = none) : Kp H (upd H p o) := (Kp.refl H).mut h
theorem Kp.rd {H H' : Hp} {a : Addr} {u : HO} (e : Kp H H') (t : isT u = false) (h : Rd H a u) : Rd H' a u := by
  rcases h with h | ⟨o, h⟩
  · exact Or.inl (e.same a _ t h)
  · exact Or.inr ⟨o, e.same a _ rfl h⟩
theorem Kp.sqL {K : PySem.W.Frag} {H H' : Hp} {a : Addr} {xs : List V} (e : Kp H H') (h : SqL K H a xs) : SqL K H' a xs := by
  rcases h with h | h
  · exact Or.inl (e.rd rfl h)
  · exact Or.inr h
theorem Kp.sqT {K : PySem.W.Frag} {H H' : Hp} {a : Addr} {xs : List V} (e : Kp H H') (h : SqT K H a xs) : SqT K H' a xs := by
  rcases h with h | h
  · exact Or.inl (e.rd rfl h)
  · exact Or.inr h
mutual
theorem Kp.dp {K : PySem.W.Frag} {H H' : Hp} (e : Kp H H') : ∀ {d : PyData} {v : V}, Dp K H v d → Dp K H' v d
  | _, _, .non => .non
  | _, _, .bl b => .bl b
  | _, _, .int i => .int i
  | _, _, .str x => .str x
  | _, _, .lst h a => .lst (e.sqL h) (Kp.dpAll e a)
  | _, _, .tup h a => .tup (e.sqT h) (Kp.dpAll e a)
theorem Kp.dpAll {K : PySem.W.Frag} {H H' : Hp} (e : Kp H H') : ∀ {ds : List PyData} {vs : List V}, DpAll K H vs ds → DpAll K H' vs ds
  | _, _, .nil => .nil
  | _, _, .cons h t => .cons (Kp.dp e h) (Kp.dpAll e t)
end
theorem DpAll.len {K : PySem.W.Frag} {H : Hp} : ∀ {vs : List V} {ds : List PyData}, DpAll K H vs ds → vs.length = ds.length
  | _, _, .nil => rfl
  | _, _, .cons _ t => congrArg (· + 1) (DpAll.len t)
theorem DpAll.get {K : PySem.W.Frag} {H : Hp} : ∀ {vs : List V} {ds : List PyData} {i : Nat} {d : PyData}, DpAll K H vs ds → ds[i]? = some d → ∃ v, vs[i]? = some v ∧ Dp K H v d
  | _, _, i, d, .nil, h => by simp at h
  | _, _, 0, d, .cons a _, h => by
    have e := Option.some.inj h
    subst e
    exact ⟨_, rfl, a⟩
  | _, _, i + 1, d, .cons _ t, h => DpAll.get (i := i) t h
theorem DpAll.app {K : PySem.W.Frag} {H : Hp} : ∀ {vs ws : List V} {ds es : List PyData}, DpAll K H vs ds → DpAll K H ws es → DpAll K H (vs ++ ws) (ds ++ es)
  | _, _, _, _, .nil, b => b
  | _, _, _, _, .cons a t, b => .cons a (DpAll.app t b)
/-- data without lists -/
inductive Nl : PyData → Prop
  | non : Nl .none
  | bl (b : Bool) : Nl (.bool b)
  | int (i : Int) : Nl (.int i)
  | str (x : Str) : Nl (.str x)
  | tup {ds : List PyData} : (∀ d ∈ ds, Nl d) → Nl (.tuple ds)
/-! a list may change: what has no list in it stays -/
mutual
theorem Dp.mut {K : PySem.W.Frag} {H : Hp} {p : Addr} {o : HO} {zs : List V} (hp : H p = some (.lst zs)) : ∀ {d : PyData} {v : V}, Nl d → Dp K H v d → Dp K (upd H p o) v d
  | _, _, _, .non => .non
  | _, _, _, .bl b => .bl b
  | _, _, _, .int i => .int i
  | _, _, _, .str x => .str x
  | _, _, n, .lst _ _ => nomatch n
  | _, _, n, .tup h a => by
    cases n with
    | tup n =>
      refine .tup ?_ (DpAll.mut hp n a)
      rcases h with (h | ⟨ob, h⟩) | h
      · exact .inl (.inl (by rw [upd_ne (ne_of h hp (by intro z; cases z))]; exact h))
      · exact .inl (.inr ⟨ob, by rw [upd_ne (ne_of h hp (by intro z; cases z))]; exact h⟩)
      · exact .inr h
theorem DpAll.mut {K : PySem.W.Frag} {H : Hp} {p : Addr} {o : HO} {zs : List V} (hp : H p = some (.lst zs)) : ∀ {ds : List PyData} {vs : List V}, (∀ d ∈ ds, Nl d) → DpAll K H vs ds → DpAll K (upd H p o) vs ds
  | _, _, _, .nil => .nil
  | _, _, n, .cons h t => .cons (Dp.mut hp (n _ List.mem_cons_self) h) (DpAll.mut hp (fun d hd => n d (List.mem_cons_of_mem _ hd)) t)
end
theorem DpAll.snoc {K : PySem.W.Frag} {H : Hp} {vs : List V} {ds : List PyData} {v : V} {d : PyData} (a : DpAll K H vs ds) (h : Dp K H v d) : DpAll K H (vs ++ [v]) (ds ++ [d]) := DpAll.app a (.cons h .nil)
theorem DpAll.dropLast {K : PySem.W.Frag} {H : Hp} : ∀ {vs : List V} {ds : List PyData}, DpAll K H vs ds → DpAll K H vs.dropLast ds.dropLast
  | _, _, .nil => .nil
  | _, _, .cons _ .nil => .nil
  | _, _, .cons h (.cons h2 t) => .cons h (DpAll.dropLast (.cons h2 t))
theorem dp_ints {K : PySem.W.Frag} {H : Hp} : ∀ ns : List Int, DpAll K H (ns.map V.int) (ns.map PyData.int)
  | [] => .nil
  | n :: r => .cons (.int n) (dp_ints r)
theorem dp_strs {K : PySem.W.Frag} {H : Hp} : ∀ ns : List Str, DpAll K H (ns.map V.str) (ns.map PyData.str)
  | [] => .nil
  | n :: r => .cons (.str n) (dp_strs r)
/-- a list of ints, a list of texts as data -/
def dI (ns : List Int) : PyData := .list (ns.map PyData.int)
def dS (ns : List Str) : PyData := .list (ns.map PyData.str)
theorem dp_dI {K : PySem.W.Frag} {H : Hp} {a : Addr} {ns : List Int} (h : SqL K H a (ns.map V.int)) : Dp K H (.ref a) (dI ns) := .lst h (dp_ints ns)
theorem dpAll_ints {K : PySem.W.Frag} {H : Hp} : ∀ {ns : List Int} {vs : List V}, DpAll K H vs (ns.map PyData.int) → vs = ns.map V.int
  | [], _, .nil => rfl
  | n :: r, _, .cons h t => by
    cases h
    rw [dpAll_ints t]
    rfl
theorem dp_of_dI {K : PySem.W.Frag} {H : Hp} {v : V} {ns : List Int} (h : Dp K H v (dI ns)) : ∃ a, v = .ref a ∧ SqL K H a (ns.map V.int) := by
  cases h with
  | lst h t =>
    rw [dpAll_ints t] at h
    exact ⟨_, rfl, h⟩
/-! ### small words -/
theorem at_int {ns : List Int} {j : Nat} (h : j < ns.length) : atI (ns.map V.int) (j : Int) = some (.int ns[j]) := atI_nat (by rw [List.getElem?_map, List.getElem?_eq_getElem h]; rfl)
theorem at_intZ {ns : List Int} {z : Int} (h0 : 0 ≤ z) (h : z.toNat < ns.length) : atI (ns.map V.int) z = some (.int ns[z.toNat]) := by
  have e := at_int h
  rw [Int.toNat_of_nonneg h0] at e
  exact e
theorem szl {n : Nat} (h : n ≤ 100000) : n ≤ sizeLine := Nat.le_trans h (by decide)
theorem szt {n : Nat} (h : n < 100000) : n < sizeLine := Nat.lt_of_lt_of_le h (by decide)
theorem iteB {b : Bool} {A B : Prop} (h1 : b = true → A) (h2 : b = false → B) : if b = true then A else B := by
  cases b with
  | true => rw [if_pos rfl]; exact h1 rfl
  | false => rw [if_neg Bool.false_ne_true]; exact h2 rfl
theorem iteD {c : Prop} [Decidable c] {A B : Prop} (h1 : c → A) (h2 : ¬ c → B) : if decide c = true then A else B :=
  iteB (fun h => h1 (of_decide_eq_true h)) (fun h => h2 (of_decide_eq_false h))
theorem iteN {c : Prop} [Decidable c] {A B : Prop} (h1 : ¬ c → A) (h2 : c → B) : if (!decide c) = true then A else B :=
  iteB (fun h => h1 (fun z => by rw [decide_eq_true z] at h; cases h)) (fun h => h2 (by
    by_cases z : c
    · exact z
    · rw [decide_eq_false z] at h; cases h))
theorem iteTo {b : Bool} {A B : Prop} (e : b = true) (h : A) : if b = true then A else B := by rw [if_pos e]; exact h
theorem iteFo {b : Bool} {A B : Prop} (e : b = false) (h : B) : if b = true then A else B := by rw [e, if_neg Bool.false_ne_true]; exact h
/-! ### rules with the written part by its own name (inside a comprehension) -/
section
variable {X : Cx} (K : PySem.W.Frag)
theorem ix_listK (h : X.K = K) : IxR X (rIxL K) := h ▸ ix_list
theorem ix_tupK (h : X.K = K) : IxR X (rIxT K) := h ▸ ix_tup
theorem ix_seqK (h : X.K = K) : IxR X (rIx K) := h ▸ ix_seq
def rLenSq : List V → Hp → VK → Prop := fun xs H Q => ∃ p ys, xs = [.ref p] ∧ (SqL K H p ys ∨ SqT K H p ys) ∧ Q (.int ys.length) H
theorem call_lenSK (h : X.K = K) : CallR X (.builtin "len") (rLenSq K) := h ▸ call_len_seq
def rLenV : List V → Hp → VK → Prop := fun xs H Q => ∃ x n, xs = [x] ∧ LenV K x H n ∧ Q (.int n) H
theorem call_lenK (h : X.K = K) : CallR X (.builtin "len") (rLenV K) := h ▸ call_len
theorem op_inK (h : X.K = K) : OpR X (compareOp .In) (rIn K false) := h ▸ op_in_seq
theorem op_notInK (h : X.K = K) : OpR X (compareOp .NotIn) (rIn K true) := h ▸ op_notIn_seq
theorem op_eqDK (h : X.K = K) (hu : X.A.units + 64 < cLine) : OpR X (compareOp .Eq) (rEqD K) := h ▸ op_eqD hu
theorem op_neDK (h : X.K = K) (hu : X.A.units + 64 < cLine) : OpR X (compareOp .NotEq) (rNeD K) := h ▸ op_neD hu
theorem call_isiKK (h : X.K = K) : CallR X (.builtin "isinstance") (rIsi K) := h ▸ call_isi
end
section
variable {X : Cx} (K : PySem.W.Frag)
theorem pgK {e : Expr} {n : Nat} {t : TGs} (h : X.K = K) (p : PG X e (gTup X.K n t)) : PG X e (gTup K n t) := h ▸ p
/-- isinstance(e, C), e what the suite has caught (without or with a dict of its own) -/
def rIsX (cls : Value) (d : Option Addr) (a : Addr) : List V → Hp → VK → Prop := fun xs H Q => ∃ (D : Addr) (c : V) (cv : Value) (b : Bool), cls = .ref D ∧ (d = none ∨ ∃ dd fs, d = some dd ∧ H dd = some (.xd fs)) ∧ ExcC K D ∧ xs = [.ref a, c] ∧ ClsV c cv ∧ PySem.W.kitOne K (.ref D) cv = some b ∧ Q (.bl b) H
theorem call_isX {a : Addr} {oe : Obj} {pn : List (Addr × Obj)} {cls : Value} {d : Option Addr} (h : X.K = K) (hz : Zc cls d oe) (hf : ∃ vs, oe.data = .fields vs) : CallR (X.suite a ((a, oe) :: pn)) (.builtin "isinstance") (rIsX K cls d a) := by
  subst h
  intro pins s σ H xs us Q I r h'
  obtain ⟨D, c, cv, b, rfl, hd, C, rfl, hc, hk, q⟩ := h'
  cases r with | cons rx rr =>
  cases rr with | cons rt rr =>
  cases rr
  cases rx
  have ec := hc.eq rt
  subst ec
  obtain ⟨hget, _⟩ := I.pin (a, oe) (List.mem_append_left _ List.mem_cons_self)
  obtain ⟨vs, hv⟩ := hf
  have hcl : (PySem.W.clsIn X.K D).isSome = true := by
    obtain ⟨cd, hc, _⟩ := PySem.W.any_some C.hd
    rw [hc]
    first | rfl | done
  have nc : PySem.W.notCls oe = true := by
    unfold PySem.W.notCls
    rw [hv]
  rcases hd with rfl | ⟨dd, fs, rfl, hdd⟩
  · have J : PySem.W.InstAt s.heap a oe D none := ⟨hget, hz.1, nc, by rw [hz.2]; trivial⟩
    exact PySem.W.kia_one (PySem.W.kitx_exc hcl C.hg C.hk C.hs C.ha C.hn C.ht C.hm) I.kIn J hk (fun z => nomatch z) fun tk => ⟨.bl b, H, I.kept (t' := tk) fun _ _ z => z, rfl, q⟩
  · obtain ⟨mA, hns, hr⟩ := I.hok dd _ hdd
    obtain ⟨od, ho, hl⟩ := lookIn_ns hns
    have J : PySem.W.InstAt s.heap a oe D (some od) := ⟨hget, hz.1, nc, by rw [hz.2]; exact ho⟩
    exact PySem.W.kia_one (PySem.W.kitx_exc hcl C.hg C.hk C.hs C.ha C.hn C.ht C.hm) I.kIn J hk (fun z => nomatch z) fun tk => ⟨.bl b, H, I.kept (t' := tk) fun _ _ z => z, rfl, q⟩
end
/-! ### isinstance of an own error, by what the written part says of its class -/
theorem kit_sub {K : PySem.W.Frag} {t : Value} {C : Addr} (ic : PySem.W.isClsIn K C = true) (tC : PySem.W.typeIn K (.ref C) = some (.type "type")) (h : PySem.W.subIn K t (.ref C) = some true) : PySem.W.kitOne K t (.ref C) = some true := by
  unfold PySem.W.kitOne
  by_cases e : (t == .ref C) = true
  · rw [if_pos e]
  · rw [if_neg e]
    have h2 : ((PySem.W.clsIn K C).isSome && PySem.W.typeIn K (.ref C) == some (.type "type")) = true := by
      have q : (PySem.W.clsIn K C).isSome = true := ic
      rw [q, tC]
      rfl
    show (if ((PySem.W.clsIn K C).isSome && PySem.W.typeIn K (.ref C) == some (.type "type")) = true then PySem.W.subIn K t (.ref C) else none) = some true
    rw [if_pos h2]
    exact h
theorem kit_not {K : PySem.W.Frag} {t : Value} {C : Addr} (ic : PySem.W.isClsIn K C = true) (tC : PySem.W.typeIn K (.ref C) = some (.type "type")) (h : PySem.W.subIn K t (.ref C) = some false) (hs : PySem.W.subIn K t t = some true) : PySem.W.kitOne K t (.ref C) = some false := by
  unfold PySem.W.kitOne
  have e : ¬ (t == .ref C) = true := fun e => by
    have z : t = .ref C := by simpa using e
    rw [z] at h hs
    rw [h] at hs
    cases hs
  rw [if_neg e]
  have h2 : ((PySem.W.clsIn K C).isSome && PySem.W.typeIn K (.ref C) == some (.type "type")) = true := by
    have q : (PySem.W.clsIn K C).isSome = true := ic
    rw [q, tC]
    rfl
  show (if ((PySem.W.clsIn K C).isSome && PySem.W.typeIn K (.ref C) == some (.type "type")) = true then PySem.W.subIn K t (.ref C) else none) = some false
  rw [if_pos h2]
  exact h
theorem meta_ve : PySem.W.kitMeta "ValueError" = true := by decide +kernel
theorem kit_ve {K : PySem.W.Frag} {C : Addr} (h : PySem.W.subIn K (.ref C) (.type "ValueError") = some true) : PySem.W.kitOne K (.ref C) (.type "ValueError") = some true := by
  unfold PySem.W.kitOne
  rw [if_neg (by intro z; cases z)]
  show (if PySem.W.kitMeta "ValueError" = true then PySem.W.subIn K (.ref C) (.type "ValueError") else none) = some true
  rw [if_pos meta_ve]
  exact h
theorem at_mod (z : Str) {m : Int} {n : Nat} (hn : 0 < n) (hl : z.cps.toList.length = n) : ∃ c, atI z.cps.toList (m % (n : Int)) = some c := by
  have h0 : 0 ≤ m % (n : Int) := Int.emod_nonneg _ (by omega)
  have h1 : m % (n : Int) < (n : Int) := Int.emod_lt_of_pos _ (by omega)
  have hj : (m % (n : Int)).toNat < z.cps.toList.length := by omega
  refine ⟨z.cps.toList[(m % (n : Int)).toNat], ?_⟩
  have e := atI_nat (List.getElem?_eq_getElem hj)
  rw [Int.toNat_of_nonneg h0] at e
  exact e
theorem cutV_map {lo hi : Option Int} {ns : List Int} : ∃ ms : List Int, cutV (ns.map V.int) lo hi = ms.map V.int ∧ (∀ m ∈ ms, m ∈ ns) ∧ ms.length ≤ ns.length := by
  unfold cutV
  rw [List.length_map]
  refine ⟨(ns.drop _).take _, by rw [List.map_take, List.map_drop], fun m h => List.mem_of_mem_drop (List.mem_of_mem_take h), ?_⟩
  rw [List.length_take, List.length_drop]
  omega
theorem mem_ints {ns : List Int} {i : Nat} {x : V} (h : (ns.map V.int)[i]? = some x) : ∃ z, z ∈ ns ∧ x = .int z ∧ ns[i]? = some z := by
  rw [List.getElem?_map] at h
  cases e : ns[i]? with
  | none =>
    rw [e] at h
    cases h
  | some z =>
    rw [e] at h
    exact ⟨z, List.mem_of_getElem? e, (Option.some.inj h).symm, rfl⟩
theorem mem_strs {ns : List Str} {i : Nat} {x : V} (h : (ns.map V.str)[i]? = some x) : ∃ z, z ∈ ns ∧ x = .str z ∧ ns[i]? = some z := by
  rw [List.getElem?_map] at h
  cases e : ns[i]? with
  | none =>
    rw [e] at h
    cases h
  | some z =>
    rw [e] at h
    exact ⟨z, List.mem_of_getElem? e, (Option.some.inj h).symm, rfl⟩
theorem take_snoc {α : Type} {l : List α} {i : Nat} {z : α} (h : l[i]? = some z) : l.take (i + 1) = l.take i ++ [z] := by
  rw [List.take_succ, h]
  rfl
/-! ### list(zip(a, b)) of two lists: the list keeps every pair that it is given -/
section
variable {prog : Program} {w : World} {A : Around} {E : Value → Shared → Prop} {s : Shared} {z TI TO i1 i2 a b S lo : Addr} {xs ys : Array Value}
theorem zl_len : typeLookup (.type "zip") "__len__" = pure none := PySem.am_miss_of_fast (by decide +kernel)
theorem zl_hint : typeLookup (.type "zip") "__length_hint__" = pure none := PySem.am_miss_of_fast (by decide +kernel)
/-- a zip on its way, while the list S is being filled -/
structure ZOn (z TI TO i1 i2 a b S : Addr) (xs ys : Array Value) (i : Nat) (h : Heap) : Prop where
  ti : IsPair h TI (.ref i1) (.ref i2)
  n1 : h.IsListIter i1 a i
  n2 : h.IsListIter i2 b i
  la : h.IsList a xs
  lb : h.IsList b ys
  zz : (IsZip h z TI TO .none ∧ ∃ u v, IsPair h TO u v) ∨ ∃ T f oT, IsZipHeld h z TI TO T f ∧ h.get? T = some oT ∧ T ≠ z ∧ T ≠ i1 ∧ T ≠ i2 ∧ T ≠ S
/-- S is none of the objects of the zip -/
structure ZOff (z TI TO i1 i2 a b S : Addr) : Prop where
  z : z ≠ S
  ti : TI ≠ S
  to : TO ≠ S
  n1 : i1 ≠ S
  n2 : i2 ≠ S
  la : a ≠ S
  lb : b ≠ S
theorem ZOn.keep {i : Nat} {h h' : Heap} (st : ZOn z TI TO i1 i2 a b S xs ys i h) (f : ZOff z TI TO i1 i2 a b S) (k : ∀ c o, c ≠ S → h.get? c = some o → h'.get? c = some o) : ZOn z TI TO i1 i2 a b S xs ys i h' := by
  refine ⟨k _ _ f.ti st.ti, st.n1.at fun o e => k _ o f.n1 e, st.n2.at fun o e => k _ o f.n2 e, st.la.at fun o e => k _ o f.la e, st.lb.at fun o e => k _ o f.lb e, ?_⟩
  rcases st.zz with ⟨hz, u, v, ho⟩ | ⟨T, g, oT, hz, hT, r1, r2, r3, r4⟩
  · exact .inl ⟨k _ _ f.z hz, u, v, k _ _ f.to ho⟩
  · exact .inr ⟨T, g, oT, k _ _ f.z hz, k _ _ r4 hT, r1, r2, r3, r4⟩
theorem ZOn.item {i : Nat} {x y : Value} {Q : Option Value → Shared → Prop} (D : ZipApart z TI TO i1 i2 a b) (st : ZOn z TI TO i1 i2 a b S xs ys i s.heap) (hx : xs[i]? = some x) (hy : ys[i]? = some y) (hS : S < s.heap.objs.size)
    (q : ∀ h', ZOn z TI TO i1 i2 a b S xs ys (i + 1) h' → IsPair h' s.heap.objs.size x y → (∀ c o, c ≠ z → c ≠ TO → c ≠ i1 → c ≠ i2 → s.heap.get? c = some o → h'.get? c = some o) → Q (some (.ref s.heap.objs.size)) { s with heap := h' }) :
    wpAny (model prog w) A (pyNext (.ref z)) Q E s := by
  have new : ∀ {c : Addr} {o : Obj}, s.heap.get? c = some o → s.heap.objs.size ≠ c := fun e => Nat.ne_of_gt (Heap.lt_size e)
  have m1 : s.heap.objs.size ≠ i1 := by
    obtain ⟨_, e, _⟩ := st.n1
    exact new e
  have m2 : s.heap.objs.size ≠ i2 := by
    obtain ⟨_, e, _⟩ := st.n2
    exact new e
  rcases st.zz with ⟨hz, u, v, ho⟩ | ⟨T, g, oT, hz, hT, r1, r2, r3, r4⟩
  · refine wpAny_pyNext_zip_item D hz st.ti ho st.n1 st.n2 st.la st.lb hx hy fun h' g1 g2 g3 g4 g5 g6 k => q h' ⟨k _ _ D.TIz D.TITO D.TIi1 D.TIi2 st.ti, g3, g4, ?_, ?_, ?_⟩ g5 k
    · exact st.la.at fun o e => k _ o D.l1z D.l1TO D.l1i1 D.l1i2 e
    · exact st.lb.at fun o e => k _ o D.l2z D.l2TO D.l2i1 D.l2i2 e
    · exact .inr ⟨_, false, _, g1, g5, new hz, m1, m2, Nat.ne_of_gt hS⟩
  · refine wpAny_pyNext_zip_item_held D hz hT st.ti st.n1 st.n2 st.la st.lb hx hy fun h' g1 g3 g4 g5 g6 k => q h' ⟨k _ _ D.TIz D.TIi1 D.TIi2 st.ti, g3, g4, ?_, ?_, ?_⟩ g5 fun c o c1 _ c3 c4 e => k c o c1 c3 c4 e
    · exact st.la.at fun o e => k _ o D.l1z D.l1i1 D.l1i2 e
    · exact st.lb.at fun o e => k _ o D.l2z D.l2i1 D.l2i2 e
    · exact .inr ⟨T, true, oT, g1, k _ _ r1 r2 r3 hT, r1, r2, r3, r4⟩
theorem ZOn.stop {i : Nat} {Q : Option Value → Shared → Prop} (hh : A.handled = none) (D : ZipApart z TI TO i1 i2 a b) (st : ZOn z TI TO i1 i2 a b S xs ys i s.heap) (he : xs[i]? = none ∨ ys[i]? = none)
    (q : ∀ h', (∀ c o, c ≠ z → c ≠ TO → c ≠ i1 → c ≠ i2 → s.heap.get? c = some o → h'.get? c = some o) → Q none { s with heap := h' }) : wpAny (model prog w) A (pyNext (.ref z)) Q E s := by
  rcases st.zz with ⟨hz, u, v, ho⟩ | ⟨T, g, oT, hz, hT, r1, r2, r3, r4⟩
  · exact wpAny_pyNext_zip_end hh D hz st.ti ho st.n1 st.n2 st.la st.lb he q
  · exact wpAny_pyNext_zip_end_held hh D hz hT st.ti st.n1 st.n2 st.la st.lb he fun h' k => q h' fun c o c1 _ c3 c4 e => k c o c1 c3 c4 e
/-- the pairs told so far -/
structure ZGot (xs ys : Array Value) (lo : Addr) (h : Heap) (ts : List Addr) : Prop where
  rise : ts.Pairwise (· < ·)
  above : ∀ t ∈ ts, lo ≤ t
  pairs : ∀ (j : Nat) (t : Addr), ts[j]? = some t → ∃ x y, xs[j]? = some x ∧ ys[j]? = some y ∧ IsPair h t x y
theorem ZGot.there {h : Heap} {ts : List Addr} (g : ZGot xs ys lo h ts) {t : Addr} (m : t ∈ ts) : t < h.objs.size := by
  obtain ⟨j, e⟩ := List.mem_iff_getElem?.mp m
  obtain ⟨_, _, _, _, p⟩ := g.pairs j t e
  exact Heap.lt_size p
theorem ZGot.move {h h' : Heap} {ts : List Addr} (g : ZGot xs ys lo h ts) (k : ∀ t o, lo ≤ t → h.get? t = some o → h'.get? t = some o) : ZGot xs ys lo h' ts :=
  ⟨g.rise, g.above, fun j t e => by
    obtain ⟨x, y, e1, e2, e3⟩ := g.pairs j t e
    exact ⟨x, y, e1, e2, k t _ (g.above t (List.mem_of_getElem? e)) e3⟩⟩
theorem ZGot.more {h : Heap} {ts : List Addr} {t : Addr} {x y : Value} (g : ZGot xs ys lo h ts) (hx : xs[ts.length]? = some x) (hy : ys[ts.length]? = some y) (p : IsPair h t x y) (hl : lo ≤ t) (hr : ∀ u ∈ ts, u < t) : ZGot xs ys lo h (ts ++ [t]) := by
  refine ⟨List.pairwise_append.mpr ⟨g.rise, List.pairwise_singleton _ _, fun u hu v hv => ?_⟩, fun u hu => ?_, fun j u e => ?_⟩
  · rw [List.mem_singleton.mp hv]
    exact hr u hu
  · rcases List.mem_append.mp hu with hu | hu
    · exact g.above u hu
    · rw [List.mem_singleton.mp hu]
      exact hl
  · by_cases c : j < ts.length
    · rw [List.getElem?_append_left c] at e
      exact g.pairs j u e
    · by_cases c2 : j = ts.length
      · subst c2
        obtain rfl : t = u := by simpa using e
        exact ⟨x, y, hx, hy, p⟩
      · rw [List.getElem?_eq_none (by rw [List.length_append, List.length_singleton]; omega)] at e
        cases e
structure ZLow (z TO i1 i2 S lo : Addr) : Prop where
  z : z < lo
  to : TO < lo
  n1 : i1 < lo
  n2 : i2 < lo
  s : S < lo
theorem zl_ne {x t lo : Addr} (h : x < lo) (k : lo ≤ t) : t ≠ x := Nat.ne_of_gt (Nat.lt_of_lt_of_le h k)
theorem zl_loop {R : Result → Shared → Prop} {h₁ : Heap} (hh : A.handled = none) (D : ZipApart z TI TO i1 i2 a b) (F : ZOff z TI TO i1 i2 a b S) (L : ZLow z TO i1 i2 S lo) (res : Value) (hn : min xs.size ys.size ≤ sizeLine)
    (q : ∀ h' tk acc c ts, (∀ d o, d ≠ S → d ≠ z → d ≠ TO → d ≠ i1 → d ≠ i2 → h₁.get? d = some o → h'.get? d = some o) → h'.get? S = some { cls := .type "list", dict := none, data := .seq acc c, slots := #[] } →
      ts.length = min xs.size ys.size → ZGot xs ys lo h' ts → acc.toList = ts.map Value.ref → R (.ok (.ret res)) { s with heap := h', toks := tk }) :
    ∀ (k i : Nat) (h : Heap) (tk c : Nat) (acc : Array Value) (ts : List Addr), min xs.size ys.size - i = k → i ≤ min xs.size ys.size → ZOn z TI TO i1 i2 a b S xs ys i h →
      (∀ d o, d ≠ S → d ≠ z → d ≠ TO → d ≠ i1 → d ≠ i2 → h₁.get? d = some o → h.get? d = some o) → h.get? S = some { cls := .type "list", dict := none, data := .seq acc c, slots := #[] } →
      acc.toList = ts.map Value.ref → ts.length = i → ZGot xs ys lo h ts → lo ≤ h.objs.size →
      codeAny (model prog w) A (.builtin "list.extend.loop" ⟨[.ref S, .ref z, res], []⟩) R { s with heap := h, toks := tk } := by
  intro k
  induction k with
  | zero =>
    intro i h tk c acc ts hk hi st kp hS ha hl g hlo
    refine codeAny_builtin PySem.F.entry_extend_loop (by
      rw [Around.under_plainId PySem.F.plain_extend_loop _]
      show wpAny _ A.in1 (pyNext (.ref z) >>= _) _ _ _
      refine wpAny_bind (ZOn.stop (s := { s with heap := h, toks := tk }) (A := A.in1) hh D st ?_ fun h' kz => ?_)
      · rcases Nat.le_total xs.size ys.size with c1 | c1
        · exact .inl (Array.getElem?_eq_none (by omega))
        · exact .inr (Array.getElem?_eq_none (by omega))
      · refine wpAny_pure (q h' tk acc c ts (fun d o d0 d1 d2 d3 d4 e => kz d o d1 d2 d3 d4 (kp d o d0 d1 d2 d3 d4 e)) (kz S _ (Ne.symm F.z) (Ne.symm F.to) (Ne.symm F.n1) (Ne.symm F.n2) hS) (by omega) (g.move fun t o ht e => ?_) ha)
        exact kz t o (zl_ne L.z ht) (zl_ne L.to ht) (zl_ne L.n1 ht) (zl_ne L.n2 ht) e)
  | succ k ih =>
    intro i h tk c acc ts hk hi st kp hS ha hl g hlo
    have hlt : i < min xs.size ys.size := by omega
    have hx : xs[i]? = some (xs[i]'(by omega)) := Array.getElem?_eq_getElem _
    have hy : ys[i]? = some (ys[i]'(by omega)) := Array.getElem?_eq_getElem _
    have hsz : acc.size = i := by rw [← Array.length_toList, ha, List.length_map, hl]
    refine codeAny_builtin PySem.F.entry_extend_loop (by
      rw [Around.under_plainId PySem.F.plain_extend_loop _]
      show wpAny _ A.in1 (pyNext (.ref z) >>= _) _ _ _
      refine wpAny_bind (ZOn.item (s := { s with heap := h, toks := tk }) (S := S) D st hx hy (Heap.lt_size hS) fun h' st' ht kz => ?_)
      dsimp only at ht kz ⊢
      have hS' := kz S _ (Ne.symm F.z) (Ne.symm F.to) (Ne.symm F.n1) (Ne.symm F.n2) hS
      have up : ∀ d o, d ≠ S → h'.get? d = some o → (h'.update S (Obj.mapSeq (·.push (Value.ref h.objs.size)))).get? d = some o := fun d o hd e => (Heap.get?_update_other _ _ (Ne.symm hd)).trans e
      have hSl : S < h.objs.size := Heap.lt_size hS
      have ht' : IsPair (h'.update S (Obj.mapSeq (·.push (Value.ref h.objs.size)))) h.objs.size _ _ := up _ _ (Nat.ne_of_gt hSl) ht
      have g' : ZGot xs ys lo (h'.update S (Obj.mapSeq (·.push (Value.ref h.objs.size)))) ts := g.move fun t o hl e => up t o (zl_ne L.s hl) (kz t o (zl_ne L.z hl) (zl_ne L.to hl) (zl_ne L.n1 hl) (zl_ne L.n2 hl) e)
      show wpAny _ A.in1 (updateSeq S (·.push (Value.ref h.objs.size)) >>= _) _ _ _
      refine wpAny_bind (wpAny_updateSeq hS' rfl (wpAny_pure ⟨plainId_quiet PySem.F.plain_extend_loop _, ih (i + 1) _ tk _ (acc.push (Value.ref h.objs.size)) (ts ++ [h.objs.size]) (by omega) hlt (st'.keep F up)
        (fun d o d0 d1 d2 d3 d4 e => up d o d0 (kz d o d1 d2 d3 d4 (kp d o d0 d1 d2 d3 d4 e))) (Heap.get?_update_self _ hS' rfl) (by rw [Array.toList_push, ha, List.map_append]; rfl) (by rw [List.length_append, hl]; rfl)
        (g'.more (by rw [hl]; exact hx) (by rw [hl]; exact hy) ht' hlo fun u hu => g.there hu) ?_⟩) (by rw [hsz]; omega) (by show (acc.push (Value.ref h.objs.size)).size ≤ sizeLine + 1; rw [Array.size_push, hsz]; omega))
      exact Nat.le_trans hlo (Nat.le_of_lt (Heap.lt_size ht')))
end
section
variable {prog : Program} {w : World} {A : Around} {E : Value → Shared → Prop} {s : Shared} {z TI TO i1 i2 a b S lo : Addr} {xs ys : Array Value}
/-- a zip that nothing has been taken of -/
structure ZNew (z TI TO i1 i2 a b : Addr) (xs ys : Array Value) (h : Heap) : Prop where
  ti : IsPair h TI (.ref i1) (.ref i2)
  n1 : h.IsListIter i1 a 0
  n2 : h.IsListIter i2 b 0
  la : h.IsList a xs
  lb : h.IsList b ys
  zz : IsZip h z TI TO .none
  to : ∃ u v, IsPair h TO u v
theorem ZNew.keep {h h' : Heap} (st : ZNew z TI TO i1 i2 a b xs ys h) (k : ∀ c o, c < h.objs.size → h.get? c = some o → h'.get? c = some o) : ZNew z TI TO i1 i2 a b xs ys h' := by
  have kk : ∀ c o, h.get? c = some o → h'.get? c = some o := fun c o e => k c o (Heap.lt_size e) e
  obtain ⟨u, v, ho⟩ := st.to
  exact ⟨kk _ _ st.ti, st.n1.at fun o e => kk _ o e, st.n2.at fun o e => kk _ o e, st.la.at fun o e => kk _ o e, st.lb.at fun o e => kk _ o e, kk _ _ st.zz, u, v, kk _ _ ho⟩
theorem ZNew.on {h : Heap} (st : ZNew z TI TO i1 i2 a b xs ys h) : ZOn z TI TO i1 i2 a b S xs ys 0 h := ⟨st.ti, st.n1, st.n2, st.la, st.lb, .inl ⟨st.zz, st.to⟩⟩
theorem ZNew.lt {h : Heap} (st : ZNew z TI TO i1 i2 a b xs ys h) (hS : h.objs.size ≤ S) : ZOff z TI TO i1 i2 a b S := by
  have lt : ∀ {c : Addr} {o : Obj}, h.get? c = some o → c ≠ S := fun e => Nat.ne_of_lt (Nat.lt_of_lt_of_le (Heap.lt_size e) hS)
  obtain ⟨u, v, ho⟩ := st.to
  obtain ⟨_, e1, _⟩ := st.n1
  obtain ⟨_, e2, _⟩ := st.n2
  obtain ⟨_, e3, _⟩ := st.la
  obtain ⟨_, e4, _⟩ := st.lb
  exact ⟨lt st.zz, lt st.ti, lt ho, lt e1, lt e2, lt e3, lt e4⟩
theorem ZNew.low {h : Heap} (st : ZNew z TI TO i1 i2 a b xs ys h) (hS : h.objs.size ≤ S) : ZLow z TO i1 i2 S (S + 1) := by
  have lt : ∀ {c : Addr} {o : Obj}, h.get? c = some o → c < S + 1 := fun e => Nat.lt_succ_of_lt (Nat.lt_of_lt_of_le (Heap.lt_size e) hS)
  obtain ⟨u, v, ho⟩ := st.to
  obtain ⟨_, e1, _⟩ := st.n1
  obtain ⟨_, e2, _⟩ := st.n2
  exact ⟨lt st.zz, lt ho, lt e1, lt e2, Nat.lt_succ_self _⟩
theorem zl_extend {R : Result → Shared → Prop} {c₀ : Nat} (hh : A.handled = none) (D : ZipApart z TI TO i1 i2 a b) (st : ZNew z TI TO i1 i2 a b xs ys s.heap) (F : ZOff z TI TO i1 i2 a b S) (L : ZLow z TO i1 i2 S lo) (hlo : lo ≤ s.heap.objs.size) (res : Value)
    (hS : s.heap.get? S = some { cls := .type "list", data := .seq #[] c₀ }) (hn : min xs.size ys.size ≤ sizeLine)
    (q : ∀ h' tk acc c ts, (∀ d o, d ≠ S → d ≠ z → d ≠ TO → d ≠ i1 → d ≠ i2 → s.heap.get? d = some o → h'.get? d = some o) → h'.get? S = some { cls := .type "list", dict := none, data := .seq acc c, slots := #[] } →
      ts.length = min xs.size ys.size → ZGot xs ys lo h' ts → acc.toList = ts.map Value.ref → R (.ok (.ret res)) { s with heap := h', toks := tk }) :
    wpAny (model prog w) A.in1 (Builtin.List.listExtendWith (.ref S) (.ref z) res)
      (fun fin s' => match fin with | .done f => R (.ok f) s' | .again c' => c'.quiet = true ∧ codeAny (model prog w) A c' R s') (fun e s' => R (.error e) s') s := by
  have hT : s.TypeIs (.ref z) "zip" := ⟨_, st.zz, rfl⟩
  have h1 : Builtin.List.listSameRef (.ref S) (.ref z) = false := by
    have := F.z
    simp [Builtin.List.listSameRef, Ne.symm this]
  unfold Builtin.List.listExtendWith
  refine wpAny_bind (wpAny_typeOf hT ?_)
  rw [if_neg (by rw [h1]; decide)]
  refine wpAny_bind (wpAny_pyIter_zip st.zz (wpAny_bind (wpAny_holding ?_)))
  unfold Builtin.List.listLengthHint
  refine wpAny_bind (wpAny_specialOf hT zl_len ?_)
  show wpAny _ A.in1 (specialOf (Value.ref z) (Str.ofString "__length_hint__") >>= _) _ _ _
  refine wpAny_bind (wpAny_specialOf hT zl_hint (wpAny_pure ?_))
  show wpAny _ A.in1 (rule "list.extend.makes-room" >>= fun _ => Builtin.List.listTouch (.ref S) >>= fun _ => again (.builtin "list.extend.loop" ⟨[.ref S, .ref z, res], []⟩)) _ _ _
  refine wpAny_bind (wpAny_rule (wpAny_bind ?_))
  show wpAny _ A.in1 (updateSeq S (·.push .none) >>= fun _ => updateSeq S (·.pop)) _ _ _
  have hS2 := Heap.get?_update_self (Obj.mapSeq (·.push Value.none)) hS rfl
  have hS3 := Heap.get?_update_self (Obj.mapSeq (·.pop)) hS2 rfl
  have up : ∀ d o, d ≠ S → s.heap.get? d = some o → ((s.heap.update S (Obj.mapSeq (·.push Value.none))).update S (Obj.mapSeq (·.pop))).get? d = some o := fun d o hd e =>
    (Heap.get?_update_other _ _ (Ne.symm hd)).trans ((Heap.get?_update_other _ _ (Ne.symm hd)).trans e)
  refine wpAny_bind (wpAny_updateSeq hS rfl (wpAny_updateSeq (hz := by seq_fits) hS2 rfl (wpAny_pure ⟨plainId_quiet PySem.F.plain_extend_loop _, ?_⟩)))
  refine zl_loop (s := s) (h₁ := s.heap) hh D F L res hn q (min xs.size ys.size) 0 _ s.toks _ #[] [] (Nat.sub_zero _) (Nat.zero_le _) (st.on.keep F up) (fun d o d0 _ _ _ _ e => up d o d0 e) hS3 rfl rfl ⟨List.Pairwise.nil, (fun _ m => nomatch m), (fun j t e => by simp at e)⟩ ?_
  have z1 := (Heap.SameBut.update s.heap S (Obj.mapSeq (·.push Value.none))).1
  have z2 := (Heap.SameBut.update (s.heap.update S (Obj.mapSeq (·.push Value.none))) S (Obj.mapSeq (·.pop))).1
  exact Nat.le_trans hlo (Nat.le_of_eq (z1.symm.trans z2.symm))
end
section
variable {prog : Program} {w : World} {A : Around} {E : Value → Shared → Prop} {s : Shared} {z TI TO i1 i2 a b S lo : Addr} {xs ys : Array Value}
theorem zl_init {R : Result → Shared → Prop} (hh : A.handled = none) (D : ZipApart z TI TO i1 i2 a b) (st : ZNew z TI TO i1 i2 a b xs ys s.heap) (F : ZOff z TI TO i1 i2 a b S) (L : ZLow z TO i1 i2 S lo) (hlo : lo ≤ s.heap.objs.size)
    (hS : s.heap.get? S = some { cls := .type "list", data := .seq #[] }) (hn : min xs.size ys.size ≤ sizeLine)
    (q : ∀ h' tk acc c ts, (∀ d o, d ≠ S → d ≠ z → d ≠ TO → d ≠ i1 → d ≠ i2 → s.heap.get? d = some o → h'.get? d = some o) → h'.get? S = some { cls := .type "list", dict := none, data := .seq acc c, slots := #[] } →
      ts.length = min xs.size ys.size → ZGot xs ys lo h' ts → acc.toList = ts.map Value.ref → R (.ok (.ret .none)) { s with heap := h', toks := tk }) :
    wpAny (model prog w) A.in1 (Builtin.«list.__init__» ⟨[.ref S, .ref z], []⟩)
      (fun fin s' => match fin with | .done f => R (.ok f) s' | .again c' => c'.quiet = true ∧ codeAny (model prog w) A c' R s') (fun e s' => R (.error e) s') s := by
  show wpAny _ _ (Builtin.List.listItems (.ref S) >>= fun old => Builtin.List.listUpdate (.ref S) (fun _ => #[]) >>= fun _ => letGo old.toList.reverse >>= fun _ => Builtin.List.listExtendWith (.ref S) (.ref z) .none) _ _ s
  refine wpAny_bind ?_
  unfold Builtin.List.listItems
  refine wpAny_bind (wpAny_seqItems hS rfl (wpAny_pure ?_))
  show wpAny _ _ (updateSeq S (fun _ => #[]) >>= fun _ => letGo (#[] : Array Value).toList.reverse >>= fun _ => _) _ _ s
  have hS2 := Heap.get?_update_self (Obj.mapSeq (fun _ => (#[] : Array Value))) hS rfl
  have up : ∀ d o, d ≠ S → s.heap.get? d = some o → (s.heap.update S (Obj.mapSeq (fun _ => (#[] : Array Value)))).get? d = some o := fun d o hd e => (Heap.get?_update_other _ _ (Ne.symm hd)).trans e
  obtain ⟨u, v, ho⟩ := st.to
  refine wpAny_bind (wpAny_updateSeq hS rfl (wpAny_bind (wpAny_letGo ?_)))
  refine zl_extend hh D ⟨up _ _ F.ti st.ti, st.n1.at fun o e => up _ o F.n1 e, st.n2.at fun o e => up _ o F.n2 e, st.la.at fun o e => up _ o F.la e, st.lb.at fun o e => up _ o F.lb e, up _ _ F.z st.zz, u, v, up _ _ F.to ho⟩ F L
    (Nat.le_trans hlo (Nat.le_of_eq (Heap.SameBut.update s.heap S (Obj.mapSeq (fun _ => (#[] : Array Value)))).1.symm)) .none hS2 hn fun h' tk acc c ts k => q h' tk acc c ts fun d o d0 d1 d2 d3 d4 e => k d o d0 d1 d2 d3 d4 (up d o d0 e)
theorem zl_call {Q : Value → Shared → Prop} (hh : A.handled = none) (D : ZipApart z TI TO i1 i2 a b) (st : ZNew z TI TO i1 i2 a b xs ys s.heap) (hn : min xs.size ys.size ≤ sizeLine)
    (q : ∀ h' tk acc c ts, (∀ d o, d ≠ z → d ≠ TO → d ≠ i1 → d ≠ i2 → s.heap.get? d = some o → h'.get? d = some o) → h'.get? s.heap.objs.size = some { cls := .type "list", dict := none, data := .seq acc c, slots := #[] } →
      ts.length = min xs.size ys.size → ZGot xs ys (s.heap.objs.size + 1) h' ts → acc.toList = ts.map Value.ref → Q (.ref s.heap.objs.size) { s with heap := h', toks := tk }) :
    wpAny (model prog w) A (call (.type "list") [.ref z]) Q E s := by
  refine callType_codes (Q₁ := fun obj r => obj = .ref s.heap.objs.size ∧ r = { s with heap := s.heap.push { cls := .type "list", data := .seq #[] } }) PySem.F.called_list (PySem.F.typeCall_list_1 _) PySem.F.entry_list_init (code_list_new _ ⟨rfl, rfl⟩) fun obj r hr => ?_
  obtain ⟨rfl, rfl⟩ := hr
  have hS : (s.heap.push { cls := .type "list", data := .seq #[] }).get? s.heap.objs.size = some { cls := .type "list", data := .seq (#[] : Array Value) } := Heap.get?_push_size _ rfl
  have F : ZOff z TI TO i1 i2 a b s.heap.objs.size := st.lt (Nat.le_refl _)
  refine ⟨⟨_, hS, rfl⟩, PySem.F.args_list_init_2 _ _, zl_init (A := A.in1) hh D (st.keep fun c o _ e => Heap.get?_push_of_some _ e) F (st.low (Nat.le_refl _)) (Nat.le_of_eq (Heap.size_push ..).symm) hS hn fun h' tk acc c ts k h2 h3 h4 h5 => ?_⟩
  exact ⟨rfl, q h' tk acc c ts (fun d o d1 d2 d3 d4 e => k d o (Nat.ne_of_lt (Heap.lt_size e)) d1 d2 d3 d4 (Heap.get?_push_of_some _ e)) h2 h3 h4 h5⟩
end
/-! .. as a rule: the list is new, its pairs are new -/
def layT : Hp → List (Addr × V × V) → Hp
  | H, [] => H
  | H, p :: r => layT (upd H p.1 (.tup [p.2.1, p.2.2])) r
theorem layT_old : ∀ (ps : List (Addr × V × V)) {H : Hp} {c : Addr} {o : HO}, (∀ p ∈ ps, p.1 ≠ c) → H c = some o → layT H ps c = some o
  | [], _, _, _, _, e => e
  | p :: r, _, _, _, h, e => layT_old r (fun q m => h q (List.mem_cons_of_mem _ m)) (by rw [upd_ne (Ne.symm (h p List.mem_cons_self))]; exact e)
theorem layT_none : ∀ (ps : List (Addr × V × V)) {H : Hp} {c : Addr}, (∀ p ∈ ps, p.1 ≠ c) → H c = none → layT H ps c = none
  | [], _, _, _, e => e
  | p :: r, _, _, h, e => layT_none r (fun q m => h q (List.mem_cons_of_mem _ m)) (by rw [upd_ne (Ne.symm (h p List.mem_cons_self))]; exact e)
theorem layT_at : ∀ (ps : List (Addr × V × V)) {H : Hp}, (ps.map (·.1)).Pairwise (· < ·) → ∀ p ∈ ps, layT H ps p.1 = some (.tup [p.2.1, p.2.2])
  | [], _, _, _, m => nomatch m
  | q :: r, H, h, p, m => by
    have h' := List.pairwise_cons.mp h
    rcases List.mem_cons.mp m with rfl | m
    · exact layT_old r (fun u mu => Nat.ne_of_gt (h'.1 u.1 (List.mem_map_of_mem mu))) (upd_same ..)
    · exact layT_at r h'.2 p m
theorem zl_lt {n c : Nat} (h : c < n) (k : Nat) : c ≠ n + k := by omega
theorem zl_ab {n m t : Nat} (h : m + 1 ≤ t) (e : m = n + 5) : n ≤ t ∧ t ≠ m := by omega
theorem zl_out {h : Heap} {c : Addr} (hc : h.objs.size ≤ c) : h.get? c = none := by
  cases e : h.get? c with
  | none => rfl
  | some o => exact absurd (Heap.lt_size e) (Nat.not_lt.mpr hc)
section
variable {X : Cx} {pins : List (Addr × Obj)} {σ : L2.St}
theorem lay_pairs : ∀ (ps : List (Addr × V × V)) {H : Hp} {s : Shared} {h' : Heap} (tk : Nat), Inv X pins σ H s → (∀ c o, s.heap.get? c = some o → h'.get? c = some o) → (ps.map (·.1)).Pairwise (· < ·) → (∀ p ∈ ps, s.heap.get? p.1 = none ∧ H p.1 = none) →
    (∀ p ∈ ps, ∃ u v, RelV p.2.1 u ∧ RelV p.2.2 v ∧ IsPair h' p.1 u v) → Inv X pins σ (layT H ps) { s with heap := h', toks := tk }
  | [], _, _, _, _, I, k, _, _, _ => I.kept k
  | p :: r, H, s, h', tk, I, k, hr, hn, hp => by
    have hr' := List.pairwise_cons.mp hr
    obtain ⟨G, g1, g2⟩ := restrict h' fun c => decide (c ∉ r.map (·.1))
    have ne : ∀ q ∈ r, q.1 ≠ p.1 := fun q m => Nat.ne_of_gt (hr'.1 q.1 (List.mem_map_of_mem m))
    have gp : G.get? p.1 = h'.get? p.1 := g1 _ (decide_eq_true fun m => by
      obtain ⟨q, m1, m2⟩ := List.mem_map.mp m
      exact ne q m1 m2)
    obtain ⟨u, v, ru, rv, e⟩ := hp p List.mem_cons_self
    have I1 : Inv X pins σ (upd H p.1 (.tup [p.2.1, p.2.2])) { s with heap := G, toks := tk } := by
      refine I.laidN (fun c o e => ?_) (hn p List.mem_cons_self).1 (hn p List.mem_cons_self).2 ⟨by show 2 ≤ sizeLine; decide, [u, v], .cons ru (.cons rv .nil), ⟨_, gp.trans e, rfl, _, rfl⟩⟩
      rw [g1 c (decide_eq_true fun m => ?_)]
      · exact k c o e
      · obtain ⟨q, m1, m2⟩ := List.mem_map.mp m
        have z := (hn q (List.mem_cons_of_mem _ m1)).1
        rw [m2, e] at z
        cases z
    refine lay_pairs r (s := { s with heap := G, toks := tk }) tk I1 (fun c o e => ?_) hr'.2 (fun q m => ⟨g2 _ (decide_eq_false fun z => z (List.mem_map_of_mem m)), ?_⟩) fun q m => hp q (List.mem_cons_of_mem _ m)
    · by_cases c1 : c ∈ r.map (·.1)
      · rw [show G.get? c = none from g2 c (decide_eq_false fun z => z c1)] at e
        cases e
      · rw [← g1 c (decide_eq_true c1)]
        exact e
    · rw [upd_ne (ne q m)]
      exact (hn q (List.mem_cons_of_mem _ m)).2
/-- list(zip(a, b)), both lists -/
def tListZip (K : PySem.W.Frag) (ta : TA) : TE := fun σ H Q => ta σ H fun vs H1 => ∃ a b xs ys, vs = [.ref a, .ref b] ∧ SqL K H1 a xs ∧ SqL K H1 b ys ∧
  ∀ (H2 : Hp) (p : Addr) (ts : List Addr), (∀ c o, H1 c = some o → H2 c = some o) → H1 p = none → (∀ t ∈ ts, H1 t = none) → H2 p = some (.lst (ts.map V.ref)) → ts.length = min xs.length ys.length →
    (∀ (j : Nat) (t : Addr), ts[j]? = some t → ∃ x y, xs[j]? = some x ∧ ys[j]? = some y ∧ H2 t = some (.tup [x, y])) → Q (.ref p) H2
theorem zl_trip {us vs : Array Value} {xs ys : List V} {lo : Addr} {h : Heap} {ts : List Addr} (g : ZGot us vs lo h ts) (r1 : Vals xs us.toList) (r2 : Vals ys vs.toList) (hl : ts.length = min us.size vs.size) :
    ∃ ps : List (Addr × V × V), ps.map (·.1) = ts ∧ (∀ (j : Nat) (p : Addr × V × V), ps[j]? = some p → xs[j]? = some p.2.1 ∧ ys[j]? = some p.2.2) ∧ ∀ p ∈ ps, ∃ u v, RelV p.2.1 u ∧ RelV p.2.2 v ∧ IsPair h p.1 u v := by
  have l1 : xs.length = us.size := by rw [r1.length, Array.length_toList]
  have l2 : ys.length = vs.size := by rw [r2.length, Array.length_toList]
  have lz : ts.length = (xs.zip ys).length := by rw [List.length_zip, hl, l1, l2]
  have at' : ∀ (j : Nat) (p : Addr × V × V), (ts.zip (xs.zip ys))[j]? = some p → ts[j]? = some p.1 ∧ xs[j]? = some p.2.1 ∧ ys[j]? = some p.2.2 := fun j p e => by
    obtain ⟨e1, e2⟩ := List.getElem?_zip_eq_some.mp e
    obtain ⟨e3, e4⟩ := List.getElem?_zip_eq_some.mp e2
    exact ⟨e1, e3, e4⟩
  refine ⟨ts.zip (xs.zip ys), ?_, fun j p e => (at' j p e).2, fun p m => ?_⟩
  · exact List.map_fst_zip (Nat.le_of_eq lz)
  · obtain ⟨j, e⟩ := List.mem_iff_getElem?.mp m
    obtain ⟨e1, e2, e3⟩ := at' j p e
    obtain ⟨u, v, f1, f2, f3⟩ := g.pairs j _ e1
    obtain ⟨u', q1, q2⟩ := r1.get e2
    obtain ⟨v', q3, q4⟩ := r2.get e3
    rw [Array.getElem?_toList, f1] at q1
    rw [Array.getElem?_toList, f2] at q3
    cases q1
    cases q3
    exact ⟨u, v, q2, q4, f3⟩
theorem pe_listZip {X : Cx} {e e2 : Expr} {ta : TA} {p1 q1 p2 q2 : Pos} (hc : X.calm = true) (hg : Gl X "list") (hm : X.mg "list" = none) (hg2 : Gl X "zip") (hm2 : X.mg "zip" = none) (ha : PA X [e, e2] ta)
    (na : starEach [Expr.Call (.Name "zip" p2) [e, e2] [] q2] X.env = (false, eval (.Call (.Name "zip" p2) [e, e2] [] q2) X.env) :: starEach [] X.env := by rfl)
    (hs : starEach [e, e2] X.env = (false, eval e X.env) :: starEach [e2] X.env := by rfl) (hpl : (backTo q2 (starEach [e2] X.env)).any (·.1) = false := by rfl) :
    PE X (.Call (.Name "list" p1) [.Call (.Name "zip" p2) [e, e2] [] q2] [] q1) (tListZip X.K ta) := by
  refine ⟨fun pins s σ H Q I h => ?_⟩
  have inner : wpAny (model X.prog X.w) X.A (eval (.Call (.Name "zip" p2) [e, e2] [] q2) X.env) (fun v s2 => ∃ (s1 : Shared) (H1 : Hp) (a b : Addr) (xs ys : List V) (us vs : Array Value), Inv X pins σ H1 s1 ∧ v = .ref (s1.heap.objs.size + 4) ∧ s2 = { s1 with heap := s2.heap } ∧
      ZipApart (s1.heap.objs.size + 4) (s1.heap.objs.size + 2) (s1.heap.objs.size + 3) s1.heap.objs.size (s1.heap.objs.size + 1) a b ∧ ZNew (s1.heap.objs.size + 4) (s1.heap.objs.size + 2) (s1.heap.objs.size + 3) s1.heap.objs.size (s1.heap.objs.size + 1) a b us vs s2.heap ∧
      (∀ c o, s1.heap.get? c = some o → s2.heap.get? c = some o) ∧ s2.heap.objs.size = s1.heap.objs.size + 5 ∧ Vals xs us.toList ∧ Vals ys vs.toList ∧ us.size ≤ sizeLine ∧
      ∀ (H2 : Hp) (p : Addr) (ts : List Addr), (∀ c o, H1 c = some o → H2 c = some o) → H1 p = none → (∀ t ∈ ts, H1 t = none) → H2 p = some (.lst (ts.map V.ref)) → ts.length = min xs.length ys.length →
        (∀ (j : Nat) (t : Addr), ts[j]? = some t → ∃ x y, xs[j]? = some x ∧ ys[j]? = some y ∧ H2 t = some (.tup [x, y])) → Q (.ref p) H2) X.xe s := by
    refine Call_ (ld_blt I hg2 hm2 PyProof.Rows.boot_zip (PyProof.Rows.callWith_type1 (thn (ha.run q2 pins s σ H _ I h) fun us s1 ⟨vs, H1, I1, r1, q⟩ => ?_) hs hpl))
    obtain ⟨a, b, xs, ys, ex, sx, sy, q⟩ := q
    subst ex
    cases r1 with
    | cons r rr =>
      cases rr with
      | cons r' rr =>
        cases rr
        cases r
        cases r'
        obtain ⟨its, rv, t1, z1⟩ := I1.list sx
        obtain ⟨its2, rv2, t2, _⟩ := I1.list sy
        refine call_zip_2 t1.isList t2.isList fun h' hz hTI hTO n1 n2 hsz hk => ?_
        refine ⟨s1, H1, a, b, xs, ys, its.toArray, its2.toArray, I1, rfl, rfl, PySem.W.ktu_apart s1.heap.objs.size a b t1.lt t2.lt, ⟨hTI, n1, n2, t1.isList.at fun o e => hk _ o e, t2.isList.at fun o e => hk _ o e, hz, _, _, hTO⟩, hk, hsz, rv, rv2, ?_, q⟩
        rw [List.size_toArray, ← rv.length]
        exact z1
  refine Call_ (ld_blt I hg hm boot_list (PyProof.Rows.callWith_type1 (args_cons (thn inner fun v s2 ⟨s1, H1, a, b, xs, ys, us, vs, I1, ev, es, D, st, kp, hsz, rv, rv2, hn, q⟩ => args_nil ?_) na) na))
  subst ev
  have hd : X.A.handled = none := I1.ok.hd hc
  have hmin : min us.size vs.size ≤ sizeLine := Nat.le_trans (Nat.min_le_left ..) hn
  refine zl_call hd D st hmin fun h' tk acc c ts k hS hl g hacc => ?_
  have keep : ∀ c o, s1.heap.get? c = some o → h'.get? c = some o := fun c o e => by
    have lt := Heap.lt_size e
    exact k c o (zl_lt lt 4) (zl_lt lt 3) (zl_lt lt 0) (zl_lt lt 1) (kp c o e)
  have new : ∀ c, s1.heap.objs.size ≤ c → s1.heap.get? c = none ∧ H1 c = none := fun c hc => ⟨zl_out hc, I1.hok.fresh hc⟩
  have above : ∀ t ∈ ts, s1.heap.objs.size ≤ t ∧ t ≠ s2.heap.objs.size := fun t m => by
    have z := g.above t m
    exact zl_ab z hsz
  obtain ⟨ps, e1, e2, e3⟩ := zl_trip g rv rv2 hl
  have mem : ∀ p ∈ ps, p.1 ∈ ts := fun p m => by rw [← e1]; exact List.mem_map_of_mem m
  obtain ⟨G, g1, g2⟩ := restrict h' fun c => decide (c ≠ s2.heap.objs.size)
  have I2 : Inv X pins σ (layT H1 ps) { s1 with heap := G, toks := tk } := by
    refine lay_pairs ps tk I1 (fun c o e => ?_) (by rw [e1]; exact g.rise) (fun p m => new _ (above _ (mem p m)).1) fun p m => ?_
    · rw [g1 c (decide_eq_true fun z => ?_)]
      · exact keep c o e
      · have lt := Heap.lt_size e
        rw [z, hsz] at lt
        exact absurd lt (Nat.not_lt.mpr (Nat.le_add_right _ 5))
    · obtain ⟨u, v, f1, f2, f3⟩ := e3 p m
      exact ⟨u, v, f1, f2, (g1 _ (decide_eq_true (above _ (mem p m)).2)).trans f3⟩
  have hp0 : H1 s2.heap.objs.size = none := (new _ (by rw [hsz]; omega)).2
  have hn0 : layT H1 ps s2.heap.objs.size = none := layT_none ps (fun p m => (above _ (mem p m)).2) hp0
  have I3 : Inv X pins σ (upd (layT H1 ps) s2.heap.objs.size (.lst (ts.map V.ref))) { s1 with heap := h', toks := tk } := by
    refine I2.laidN (fun c o e => ?_) (g2 _ (decide_eq_false fun z => z rfl)) hn0 ⟨?_, acc.toList, c, ?_, ?_⟩
    · by_cases cc : c = s2.heap.objs.size
      · rw [cc, show G.get? s2.heap.objs.size = none from g2 _ (decide_eq_false fun z => z rfl)] at e
        cases e
      · rw [← g1 c (decide_eq_true cc)]
        exact e
    · rw [List.length_map, hl]
      exact hmin
    · rw [hacc]
      exact vals_refs ts
    · rw [Array.toArray_toList]
      exact hS
  have old : ∀ c o, H1 c = some o → ∀ t, H1 t = none → t ≠ c := fun c o e t n z => by
    rw [z, e] at n
    cases n
  have l1 : xs.length = us.size := by rw [rv.length, Array.length_toList]
  have l2 : ys.length = vs.size := by rw [rv2.length, Array.length_toList]
  rw [es]
  refine ⟨.ref s2.heap.objs.size, _, I3, rfl, q _ _ ts (fun c o e => ?_) hp0 (fun t m => (new t (above t m).1).2) (upd_same ..) (by rw [hl, l1, l2]) fun j t e => ?_⟩
  · rw [upd_ne (Ne.symm (old c o e _ hp0))]
    exact layT_old ps (fun p m => old c o e _ (new _ (above _ (mem p m)).1).2) e
  · rw [← e1, List.getElem?_map] at e
    cases ej : ps[j]? with
    | none =>
      rw [ej] at e
      cases e
    | some p =>
      rw [ej] at e
      obtain rfl : p.1 = t := by simpa using e
      obtain ⟨f1, f2⟩ := e2 j p ej
      refine ⟨p.2.1, p.2.2, f1, f2, ?_⟩
      rw [upd_ne (above _ (mem p (List.mem_of_getElem? ej))).2]
      exact layT_at ps (by rw [e1]; exact g.rise) p (List.mem_of_getElem? ej)
end

def top (i : Nat) : Stmt := PySem.Challenge.pw_mastword_k16_whole_fewest_askings.main.body.getD i (.Pass ⟨0, 0, 0, 0⟩)
abbrev s_p_stretches : Stmt := top 1
theorem sc_p_stretches : FnScope ["values", "legible", "place", "sign", "found", "first", "written", "second", "other"] ["values"] (defScope s_p_stretches) := ⟨rfl, rfl, rfl, by decide +kernel, rfl, by decide +kernel, by decide +kernel⟩
abbrev s_p_halvings : Stmt := top 2
theorem sc_p_halvings : FnScope ["gaps"] ["gaps"] (defScope s_p_halvings) := ⟨rfl, rfl, rfl, by decide +kernel, rfl, by decide +kernel, by decide +kernel⟩
abbrev s_p_askings : Stmt := top 3
theorem sc_p_askings : FnScope ["values", "first", "second", "written", "other"] ["values"] (defScope s_p_askings) := ⟨rfl, rfl, rfl, by decide +kernel, rfl, by decide +kernel, by decide +kernel⟩
abbrev s_p_to_ask : Stmt := top 4
theorem sc_p_to_ask : FnScope ["values", "first", "second", "written", "other"] ["values"] (defScope s_p_to_ask) := ⟨rfl, rfl, rfl, by decide +kernel, rfl, by decide +kernel, by decide +kernel⟩
abbrev s_l_cell : Stmt := top 6
theorem sc_l_cell : FnScope ["_law_script", "_law_at"] ["_law_script", "_law_at"] (defScope s_l_cell) := ⟨rfl, rfl, rfl, by decide +kernel, rfl, by decide +kernel, by decide +kernel⟩
abbrev s_l_row : Stmt := top 7
theorem sc_l_row : FnScope ["_law_cell_here", "_law_many_here", "_law_size", "_law_row_here", "_law_rest", "_law_k", "_law_seed", "_law_mixed"] ["_law_cell_here", "_law_many_here", "_law_size"] (defScope s_l_row) := ⟨rfl, rfl, rfl, by decide +kernel, rfl, by decide +kernel, by decide +kernel⟩
abbrev s_l_values : Stmt := top 8
theorem sc_l_values : FnScope ["_law_script", "_law_at", "_law_most", "_law_nums", "_law_many_here", "_law_values_here", "_law_num", "_law_place"] ["_law_script", "_law_at", "_law_most"] (defScope s_l_values) := ⟨rfl, rfl, rfl, by decide +kernel, rfl, by decide +kernel, by decide +kernel⟩
abbrev s_l_best : Stmt := top 9
theorem sc_l_best : FnScope ["_law_most", "_law_table", "_law_gaps", "_law_some", "_law_left"] ["_law_most"] (defScope s_l_best) := ⟨rfl, rfl, rfl, by decide +kernel, rfl, by decide +kernel, by decide +kernel⟩
abbrev s_l_truth : Stmt := top 10
theorem sc_l_truth : FnScope ["_law_values_here", "_law_slips", "_law_row_here", "_law_first", "_law_last", "_law_one", "_law_other", "_law_place"] ["_law_values_here", "_law_slips"] (defScope s_l_truth) := ⟨rfl, rfl, rfl, by decide +kernel, rfl, by decide +kernel, by decide +kernel⟩
abbrev s_l_asked : Stmt := top 11
theorem sc_l_asked : FnScope ["_law_values_here", "_law_truth_here", "_law_most", "_law_many_here", "_law_place"] ["_law_values_here", "_law_truth_here", "_law_most"] (defScope s_l_asked) := ⟨rfl, rfl, rfl, by decide +kernel, rfl, by decide +kernel, by decide +kernel⟩
abbrev s_l_many : Stmt := top 12
theorem sc_l_many : FnScope ["_law_values_here", "_law_slips", "_law_most", "_law_many_here", "_law_behind", "_law_gaps", "_law_first", "_law_last", "_law_one", "_law_other", "_law_due"] ["_law_values_here", "_law_slips", "_law_most"] (defScope s_l_many) := ⟨rfl, rfl, rfl, by decide +kernel, rfl, by decide +kernel, by decide +kernel⟩
abbrev s_law : Stmt := top 13
theorem sc_law : FnScope ["_law_script", "_law_values_here", "_law_pick", "_law_some", "_law_table", "_law_most", "_law_first", "_law_last", "_law_one", "_law_other", "_law_slips", "_law_worst", "_law_best_here", "_law_place", "_law_turned", "_law_many_here"] ["_law_script"] (defScope s_law) := ⟨rfl, rfl, rfl, by decide +kernel, rfl, by decide +kernel, by decide +kernel⟩
structure Txt (K : PySem.W.Frag) (mg : Str → Option Value) where
  f_p_stretches : Addr
  d_p_stretches : FuncData
  F_p_stretches : Fun K "stretches" "stretches" s_p_stretches f_p_stretches d_p_stretches
  b_p_stretches : Binds K d_p_stretches ["values"] []
  g_p_stretches : mg "stretches" = some (.ref f_p_stretches)
  f_p_halvings : Addr
  d_p_halvings : FuncData
  F_p_halvings : Fun K "halvings" "halvings" s_p_halvings f_p_halvings d_p_halvings
  b_p_halvings : Binds K d_p_halvings ["gaps"] []
  g_p_halvings : mg "halvings" = some (.ref f_p_halvings)
  f_p_askings : Addr
  d_p_askings : FuncData
  F_p_askings : Fun K "askings" "askings" s_p_askings f_p_askings d_p_askings
  b_p_askings : Binds K d_p_askings ["values"] []
  g_p_askings : mg "askings" = some (.ref f_p_askings)
  f_p_to_ask : Addr
  d_p_to_ask : FuncData
  F_p_to_ask : Fun K "to_ask" "to_ask" s_p_to_ask f_p_to_ask d_p_to_ask
  b_p_to_ask : Binds K d_p_to_ask ["values"] []
  g_p_to_ask : mg "to_ask" = some (.ref f_p_to_ask)
  f_l_cell : Addr
  d_l_cell : FuncData
  F_l_cell : Fun K "_law_cell" "_law_cell" s_l_cell f_l_cell d_l_cell
  b_l_cell : Binds K d_l_cell ["_law_script", "_law_at"] []
  g_l_cell : mg "_law_cell" = some (.ref f_l_cell)
  f_l_row : Addr
  d_l_row : FuncData
  F_l_row : Fun K "_law_row" "_law_row" s_l_row f_l_row d_l_row
  b_l_row : Binds K d_l_row ["_law_cell_here", "_law_many_here", "_law_size"] []
  g_l_row : mg "_law_row" = some (.ref f_l_row)
  f_l_values : Addr
  d_l_values : FuncData
  F_l_values : Fun K "_law_values" "_law_values" s_l_values f_l_values d_l_values
  b_l_values : Binds K d_l_values ["_law_script", "_law_at", "_law_most"] []
  g_l_values : mg "_law_values" = some (.ref f_l_values)
  f_l_best : Addr
  d_l_best : FuncData
  F_l_best : Fun K "_law_best" "_law_best" s_l_best f_l_best d_l_best
  b_l_best : Binds K d_l_best ["_law_most"] []
  g_l_best : mg "_law_best" = some (.ref f_l_best)
  f_l_truth : Addr
  d_l_truth : FuncData
  F_l_truth : Fun K "_law_truth" "_law_truth" s_l_truth f_l_truth d_l_truth
  b_l_truth : Binds K d_l_truth ["_law_values_here", "_law_slips"] []
  g_l_truth : mg "_law_truth" = some (.ref f_l_truth)
  f_l_asked : Addr
  d_l_asked : FuncData
  F_l_asked : Fun K "_law_asked" "_law_asked" s_l_asked f_l_asked d_l_asked
  b_l_asked : Binds K d_l_asked ["_law_values_here", "_law_truth_here", "_law_most"] []
  g_l_asked : mg "_law_asked" = some (.ref f_l_asked)
  f_l_many : Addr
  d_l_many : FuncData
  F_l_many : Fun K "_law_many" "_law_many" s_l_many f_l_many d_l_many
  b_l_many : Binds K d_l_many ["_law_values_here", "_law_slips", "_law_most"] []
  g_l_many : mg "_law_many" = some (.ref f_l_many)
  m_zip : mg "zip" = none
  m_enumerate : mg "enumerate" = none
  m_max : mg "max" = none
  m_sum : mg "sum" = none
  m_len : mg "len" = none
  m_range : mg "range" = none
  m_min : mg "min" = none
  m_list : mg "list" = none
  m_sorted : mg "sorted" = none
  m_abs : mg "abs" = none
  m_dict : mg "dict" = none
section
variable {P : Program} {w : World} {K : PySem.W.Frag} {mg : Str → Option Value} {base : Heap}
/-! ### _law_cell: an int of the script -/
def cellV (ns : List Int) (j : Nat) : Int :=
  if j < ns.length then ns.getD j 0 else if ns.length = 0 then 29 * (j : Int) + 5 else ns.getD (j % ns.length) 0 % 1000003 + 103 * (j : Int)
def sp_l_cell (K : PySem.W.Frag) : Sp := fun vs H Q _ => ∃ (l : Addr) (ns : List Int) (j : Nat), vs = [.ref l, .int j] ∧ SqL K H l (ns.map V.int) ∧ j ≤ 100000 ∧ Q (.int (cellV ns j)) H
theorem getD_at {ns : List Int} {j : Nat} (h : j < ns.length) : atI (ns.map V.int) (j : Int) = some (.int (ns.getD j 0)) := by
  rw [at_int h, List.getD_eq_getElem?_getD, List.getElem?_eq_getElem h]
  rfl
theorem ok_l_cell (T : Txt K mg) : FnOk P w K mg base CX0 1 T.f_l_cell T.d_l_cell ["_law_script", "_law_at"] (sp_l_cell K) := by
  refine T.F_l_cell.ok sc_l_cell (fun vs H Q E h => ?_) (fun cdv A outer s H vs Q E hr h => ?_)
  · obtain ⟨l, ns, j, rfl, _⟩ := h
    rfl
  · obtain ⟨l, ns, j, rfl, hS, hj, k⟩ := h
    have hlen : ((ns.map V.int).length : Int) = (ns.length : Int) := by rw [List.length_map]
    refine ⟨_, (pss_cons (ps_if (pt_cmpR op_lt (pv 1) (pe_callB call_len_seq (by rfl) T.m_len PySem.boot_len (pa_cons (pv 0) pa_nil)) (nomark _))
      (pss_one (ps_ret (pe_ix ix_list (pv 0) (pv 1) (fun _ _ => rfl))))
      pss_nil)
      (pss_cons (ps_if (pt_cmpR op_eq (pe_callB call_len_seq (by rfl) T.m_len PySem.boot_len (pa_cons (pv 0) pa_nil)) pe_int (nomark _))
      (pss_one (ps_ret (pe_op op_add (pe_op op_mul pe_int (pv 1)) pe_int)))
      pss_nil)
      (pss_one (ps_ret (pe_op op_add (pe_op op_mod (pe_ix ix_list (pv 0) (pe_op op_mod (pv 1) (pe_callB call_len_seq (by rfl) T.m_len PySem.boot_len (pa_cons (pv 0) pa_nil))) (fun _ _ => rfl)) pe_int) (pe_op op_mul pe_int (pv 1))))))), ?_⟩
    refine ⟨_, rfl, _, rfl, l, _, rfl, .inl hS, _, _, rfl, rfl, _, rfl, iteD (fun c => ?_) (fun c => ?_)⟩
    · rw [hlen] at c
      refine ⟨_, rfl, _, rfl, l, _, _, _, rfl, rfl, hS, getD_at (show j < ns.length by omega), ?_⟩
      have e : cellV ns j = ns.getD j 0 := if_pos (by omega)
      rw [e] at k
      exact k
    · rw [hlen] at c
      refine ⟨_, rfl, l, _, rfl, .inl hS, rfl, _, rfl, iteD (fun c2 => ?_) (fun c2 => ?_)⟩
      · have c3 : (ns.length : Int) = 0 := by
          have z := V.int.inj c2
          rw [hlen] at z
          exact z
        have e : cellV ns j = 29 * (j : Int) + 5 := by
          unfold cellV
          rw [if_neg (by omega), if_pos (by omega)]
        rw [e] at k
        exact ⟨_, rfl, _, _, rfl, rfl, .inl ⟨by decide, by decide⟩, _, _, rfl, rfl, k⟩
      · have c3 : ns.length ≠ 0 := fun z => c2 (by rw [hlen, z]; rfl)
        have hm : j % ns.length < ns.length := Nat.mod_lt _ (by omega)
        have e : cellV ns j = ns.getD (j % ns.length) 0 % 1000003 + 103 * (j : Int) := by
          unfold cellV
          rw [if_neg (by omega), if_neg c3]
        rw [e] at k
        have ea : atI (ns.map V.int) ((j : Int) % ((ns.map V.int).length : Int)) = some (.int (ns.getD (j % ns.length) 0)) := by
          rw [hlen, ← Int.natCast_emod]
          exact getD_at hm
        exact ⟨_, rfl, _, rfl, _, rfl, l, _, rfl, .inl hS, _, _, rfl, rfl, (by show (0 : Int) < ((ns.map V.int).length : Int); rw [hlen]; omega), l, _, _, _, rfl, rfl, hS, ea, _, _, rfl, rfl, (by show (0 : Int) < 1000003; decide), _, rfl, _, _, rfl, rfl, .inl ⟨by decide, by decide⟩, _, _, rfl, rfl, k⟩
/-! ### _law_row: so many ints from nought to below a size -/
def Drawn0 (many size : Int) (xs : List Int) : Prop := (xs.length : Int) = many ∧ ∀ x ∈ xs, 0 ≤ x ∧ x < size
def sp_l_row : Sp := fun vs H Q _ => ∃ (c many size : Int), vs = [.int c, .int many, .int size] ∧ 0 ≤ many ∧ many ≤ 1000 ∧ 0 < size ∧ size < 1073741824 ∧
  ∀ (xs : List Int) (p : Addr) (H' : Hp), H p = none → Kp H H' → H' p = some (.lst (xs.map V.int)) → Drawn0 many size xs → Q (.ref p) H'
theorem snoc_in {size z : Int} {xs : List Int} (hs : 0 < size) (h : ∀ x ∈ xs, 0 ≤ x ∧ x < size) : ∀ x ∈ xs ++ [z % size], 0 ≤ x ∧ x < size := by
  intro x hx
  rcases List.mem_append.mp hx with hx | hx
  · exact h x hx
  · rw [List.mem_singleton.mp hx]
    exact ⟨Int.emod_nonneg _ (by omega), Int.emod_lt_of_pos _ hs⟩
theorem ok_l_row (T : Txt K mg) : FnOk P w K mg base CX0 1 T.f_l_row T.d_l_row ["_law_cell_here", "_law_many_here", "_law_size"] sp_l_row := by
  refine T.F_l_row.ok sc_l_row (fun vs H Q E h => ?_) (fun cdv A outer s H vs Q E hr h => ?_)
  · obtain ⟨c, many, size, rfl, _⟩ := h
    rfl
  · obtain ⟨c, many, size, rfl, hm0, hm1, hs0, hs1, k⟩ := h
    refine ⟨_, (pss_cons (ps_set (i := 3) sc_l_row.nd rfl (by first | exact Or.inl rfl | exact Or.inr rfl) (pe_lst pa_nil))
      (pss_cons (ps_if (pt_cmpR op_ge (pv 0) (pe_op op_pow pe_int pe_int) (nomark _))
      (pss_cons (ps_set (i := 4) sc_l_row.nd rfl (by first | exact Or.inl rfl | exact Or.inr rfl) (pe_op op_sub (pv 0) (pe_op op_pow pe_int pe_int)))
      (pss_cons (ps_for PassesOwn.never rfl (pi_range1 (by rfl) T.m_range (pa_cons (pv 1) pa_nil)) (pg_name (i := 5) sc_l_row.nd rfl (by first | exact Or.inl rfl | exact Or.inr rfl))
      (pss_cons (ps_expr (pe_bm PySem.F.plainAttrs_list PySem.F.slot_list_append PySem.F.type_list_append mt_append (pv 3) (pa_cons (pe_op op_mod (pv 4) (pv 2)) pa_nil)))
      (pss_one (ps_set (i := 4) sc_l_row.nd rfl (by first | exact Or.inl rfl | exact Or.inr rfl) (pe_op op_fdiv (pv 4) (pv 2))))))
      (pss_one (ps_ret (pv 3)))))
      pss_nil)
      (pss_cons (ps_set (i := 6) sc_l_row.nd rfl (by first | exact Or.inl rfl | exact Or.inr rfl) (pe_op op_mod (pv 0) pe_int))
      (pss_cons (ps_for PassesOwn.never rfl (pi_range1 (by rfl) T.m_range (pa_cons (pv 1) pa_nil)) (pg_name (i := 5) sc_l_row.nd rfl (by first | exact Or.inl rfl | exact Or.inr rfl))
      (pss_cons (ps_set (i := 6) sc_l_row.nd rfl (by first | exact Or.inl rfl | exact Or.inr rfl) (pe_op op_mod (pe_op op_add (pe_op op_add (pe_op op_mul (pv 6) pe_int) pe_int) (pv 5)) pe_int))
      (pss_cons (ps_set (i := 7) sc_l_row.nd rfl (by first | exact Or.inl rfl | exact Or.inr rfl) (pe_op op_mod (pe_op op_fdiv (pe_op op_mul (pv 6) (pe_op op_add (pe_op op_mod (pv 6) pe_int) pe_int)) pe_int) pe_int))
      (pss_one (ps_expr (pe_bm PySem.F.plainAttrs_list PySem.F.slot_list_append PySem.F.type_list_append mt_append (pv 3) (pa_cons (pe_op op_mod (pv 7) (pv 2)) pa_nil)))))))
      (pss_one (ps_ret (pv 3))))))), ?_⟩
    refine ⟨Nat.zero_le _, fun p np => ?_⟩
    generalize h_H1 : upd H p _ = H1
    have k_H1 : Kp H H1 := by rw [← h_H1]; exact .new np
    have q_H1 := (congrFun h_H1 p).symm.trans upd_same
    clear h_H1
    refine ⟨_, rfl, _, _, rfl, rfl, ⟨by decide, by decide, by decide⟩, _, _, rfl, rfl, _, rfl, iteD (fun c1 => ?_) (fun c1 => ?_)⟩
    · refine ⟨_, rfl, _, _, rfl, rfl, ⟨by decide, by decide, by decide⟩, _, _, rfl, rfl, ?_⟩
      refine ⟨_, rfl, many, rfl, by omega, by omega, ?_⟩
      refine for_range (lo := 0) (n := many.toNat) (fun i σ H' => ∃ (xs : List Int) (r : Int) (y : Option V), σ = [some (.int c), some (.int many), some (.int size), some (.ref p), some (.int r), y, none, none] ∧ Kp H H' ∧ H' p = some (.lst (xs.map V.int)) ∧ xs.length = i ∧ ∀ x ∈ xs, 0 ≤ x ∧ x < size)
        ⟨[], _, none, rfl, k_H1, q_H1, rfl, by simp⟩ ?_ ?_
      · rintro i σ H' hi ⟨xs, r, y, rfl, kp, hp, hl, hb⟩
        refine ⟨_, rfl, .inl ⟨rfl, _, SqL.of hp⟩, _, rfl, _, rfl, _, _, rfl, rfl, hs0, p, _, _, rfl, rfl, hp, szt (by rw [List.length_map]; omega), ?_⟩
        refine ⟨_, rfl, _, rfl, _, _, rfl, rfl, ⟨hs0, hs1⟩, ?_⟩
        refine ⟨xs ++ [r % size], _, _, rfl, kp.mut np, ?_, by rw [List.length_append, hl]; rfl, snoc_in hs0 hb⟩
        rw [upd_same, List.map_append]
        rfl
      · rintro σ H' ⟨xs, r, y, rfl, kp, hp, hl, hb⟩
        exact ⟨_, rfl, k xs p H' np kp hp ⟨by omega, hb⟩⟩
    · refine ⟨_, rfl, _, _, rfl, rfl, (by show (0 : Int) < 2147483647; decide), ?_⟩
      refine ⟨_, rfl, many, rfl, by omega, by omega, ?_⟩
      refine for_range (lo := 0) (n := many.toNat) (fun i σ H' => ∃ (xs : List Int) (r : Int) (y y2 : Option V), σ = [some (.int c), some (.int many), some (.int size), some (.ref p), none, y, some (.int r), y2] ∧ Kp H H' ∧ H' p = some (.lst (xs.map V.int)) ∧ xs.length = i ∧ ∀ x ∈ xs, 0 ≤ x ∧ x < size)
        ⟨[], _, none, none, rfl, k_H1, q_H1, rfl, by simp⟩ ?_ ?_
      · rintro i σ H' hi ⟨xs, r, y, y2, rfl, kp, hp, hl, hb⟩
        refine ⟨_, rfl, _, _, rfl, rfl, .inr ⟨by decide, by decide⟩, _, _, rfl, rfl, _, rfl, _, _, rfl, rfl, _, _, rfl, rfl, (by show (0 : Int) < 2147483647; decide), ?_⟩
        generalize hr2 : (fun (i j : Int) => V.int (i % j)) _ _ = sv
        obtain ⟨r2, rfl⟩ : ∃ r2 : Int, sv = .int r2 := ⟨_, hr2.symm⟩
        clear hr2
        have b0 : 0 ≤ r2 % 65521 := Int.emod_nonneg _ (by decide)
        have b1 : r2 % 65521 < 65521 := Int.emod_lt_of_pos _ (by decide)
        refine ⟨_, rfl, _, rfl, _, _, rfl, rfl, (by show (0 : Int) < 65521; decide), _, _, rfl, rfl, _, _, rfl, rfl, .inr ⟨by omega, by omega⟩, _, _, rfl, rfl, ⟨by decide, by decide⟩, _, _, rfl, rfl, (by show (0 : Int) < 1000003; decide), ?_⟩
        refine ⟨_, rfl, .inl ⟨rfl, _, SqL.of hp⟩, _, rfl, _, rfl, _, _, rfl, rfl, hs0, p, _, _, rfl, rfl, hp, szt (by rw [List.length_map]; omega), ?_⟩
        refine ⟨xs ++ [r2 * (r2 % 65521 + 3) / 1009 % 1000003 % size], r2, _, _, rfl, kp.mut np, ?_, by rw [List.length_append, hl]; rfl, snoc_in hs0 hb⟩
        rw [upd_same, List.map_append]
        rfl
      · rintro σ H' ⟨xs, r, y, y2, rfl, kp, hp, hl, hb⟩
        exact ⟨_, rfl, k xs p H' np kp hp ⟨by omega, hb⟩⟩
/-! ### places that a test picks -/
def fil (f : Nat → Bool) (n : Nat) : List Int := ((List.range n).filter f).map (fun (x : Nat) => (x : Int))
theorem fil_yes {f : Nat → Bool} {n : Nat} (h : f n = true) : fil f (n + 1) = fil f n ++ [(n : Int)] := by
  unfold fil
  rw [List.range_succ, List.filter_append, List.map_append]
  simp [h]
theorem fil_no {f : Nat → Bool} {n : Nat} (h : f n = false) : fil f (n + 1) = fil f n := by
  unfold fil
  rw [List.range_succ, List.filter_append, List.map_append]
  simp [h]
theorem fil_len (f : Nat → Bool) (n : Nat) : (fil f n).length ≤ n := by
  unfold fil
  rw [List.length_map]
  exact Nat.le_trans (List.length_filter_le _ _) (by rw [List.length_range]; exact Nat.le_refl _)
theorem fil_mem {f : Nat → Bool} {n : Nat} {x : Int} : x ∈ fil f n ↔ ∃ p : Nat, x = (p : Int) ∧ p < n ∧ f p = true := by
  unfold fil
  simp only [List.mem_map, List.mem_filter, List.mem_range]
  constructor
  · rintro ⟨p, ⟨h1, h2⟩, rfl⟩
    exact ⟨p, rfl, h1, h2⟩
  · rintro ⟨p, rfl, h1, h2⟩
    exact ⟨p, ⟨h1, h2⟩, rfl⟩
theorem filS (f : Nat → Bool) (n : Nat) : (fil f n).Pairwise (· < ·) := by
  unfold fil
  rw [List.pairwise_map]
  exact (List.pairwise_lt_range.filter _).imp fun h => by omega
/-! ### _law_values: rows of one sign, some lost -/
def oI : Option Int → V
  | none => .non
  | some z => .int z
def dO : Option Int → PyData
  | none => .none
  | some z => .int z
def dOs (vs : List (Option Int)) : PyData := .list (vs.map dO)
theorem dp_oI {K : PySem.W.Frag} {H : Hp} : ∀ vs : List (Option Int), DpAll K H (vs.map oI) (vs.map dO)
  | [] => .nil
  | none :: r => .cons .non (dp_oI r)
  | some z :: r => .cons (.int z) (dp_oI r)
theorem dp_dOs {K : PySem.W.Frag} {H : Hp} {a : Addr} {vs : List (Option Int)} (h : SqL K H a (vs.map oI)) : Dp K H (.ref a) (dOs vs) := .lst h (dp_oI vs)
theorem some_oI (zs : List Int) : (zs.map some).map oI = zs.map V.int := by
  rw [List.map_map]
  rfl
theorem last_int {zs : List Int} (h : zs ≠ []) : atI (zs.map V.int) (-1) = some (.int (zs.getLast h)) := by
  have e := List.dropLast_concat_getLast h
  have z := atI_last (zs.dropLast.map V.int) (V.int (zs.getLast h))
  rw [← z]
  congr 1
  conv => lhs; rw [← e]
  rw [List.map_append]
  rfl
def sp_l_values (K : PySem.W.Frag) : Sp := fun vs H Q _ => ∃ (a : Addr) (ns : List Int) (j : Nat), vs = [.ref a, .int (j : Int), .int 12] ∧ SqL K H a (ns.map V.int) ∧ j ≤ 1000 ∧
  ∀ (os : List (Option Int)) (p : Addr) (H' : Hp), Kp H H' → H p = none → H' p = some (.lst (os.map oI)) → 2 ≤ os.length → os.length ≤ 12 → Q (.ref p) H'
theorem ok_l_values (T : Txt K mg) : FnOk P w K mg base CX0 2 T.f_l_values T.d_l_values ["_law_script", "_law_at", "_law_most"] (sp_l_values K) := by
  refine T.F_l_values.ok sc_l_values (fun vs H Q E h => ?_) (fun cdv A outer s H vs Q E hr h => ?_)
  · obtain ⟨a, ns, j, rfl, _⟩ := h
    rfl
  · obtain ⟨a, ns, j, rfl, hS, hj, k⟩ := h
    refine ⟨_, (pss_cons (ps_set (i := 3) sc_l_values.nd rfl (by first | exact Or.inl rfl | exact Or.inr rfl) (pe_call (ok_l_row T) (hr.mono (by decide)) rfl T.g_l_row T.F_l_row.kp T.b_l_row .nil pass0 (pa_cons (pe_call (ok_l_cell T) (hr.mono (by decide)) rfl T.g_l_cell T.F_l_cell.kp T.b_l_cell .nil pass0 (pa_cons (pv 0) (pa_cons (pv 1) pa_nil))) (pa_cons (pe_op op_add (pv 2) pe_int) (pa_cons (pe_op op_mul pe_int pe_int) pa_nil)))))
      (pss_cons (ps_set (i := 4) sc_l_values.nd rfl (by first | exact Or.inl rfl | exact Or.inr rfl) (pe_op op_add pe_int (pe_op op_mod (pe_ix ix_list (pv 3) pe_int (fun _ _ => rfl)) (pe_op op_sub (pv 2) pe_int))))
      (pss_cons (ps_set (i := 5) sc_l_values.nd rfl (by first | exact Or.inl rfl | exact Or.inr rfl) (pe_lst (pa_cons (pe_op op_add pe_int (pe_op op_mod (pe_ix ix_list (pv 3) pe_int (fun _ _ => rfl)) pe_int)) pa_nil)))
      (pss_cons (ps_for PassesOwn.never rfl (pi_list (pe_slice sl_list (pv 3) (po_some pe_int) (po_some (pe_op op_add pe_int (pv 4))))) (pg_name (i := 6) sc_l_values.nd rfl (by first | exact Or.inl rfl | exact Or.inr rfl))
      (pss_one (ps_if (pt_cmpR op_gt (pe_op op_mod (pe_op op_fdiv (pv 6) pe_int) pe_int) (pe_op op_mod (pe_ix ix_list (pv 3) pe_int (fun _ _ => rfl)) pe_int) (nomark _))
      (pss_one (ps_expr (pe_bm PySem.F.plainAttrs_list PySem.F.slot_list_append PySem.F.type_list_append mt_append (pv 5) (pa_cons (pe_ix ix_list (pv 5) (pe_un un_neg pe_int) (fun _ _ => rfl)) pa_nil))))
      (pss_one (ps_expr (pe_bm PySem.F.plainAttrs_list PySem.F.slot_list_append PySem.F.type_list_append mt_append (pv 5) (pa_cons (pe_op op_add pe_int (pe_op op_mod (pv 6) pe_int)) pa_nil)))))))
      (pss_cons (ps_for PassesOwn.never rfl (pi_range2 (by rfl) T.m_range (pa_cons pe_int (pa_cons (pv 4) pa_nil))) (pg_name (i := 7) sc_l_values.nd rfl (by first | exact Or.inl rfl | exact Or.inr rfl))
      (pss_one (ps_if (PW.pt (pw_and (pt_cmpR op_lt (pe_op op_mod (pe_op op_fdiv (pe_ix ix_list (pv 3) (pe_op op_sub (pe_op op_add pe_int (pv 7)) pe_int) (fun _ _ => rfl)) pe_int) pe_int) (pe_op op_mod (pe_op op_fdiv (pe_ix ix_list (pv 3) pe_int (fun _ _ => rfl)) pe_int) pe_int) (nomark _)) (pw_and1 (pt_cmpR op_lt (pv 7) (pe_op op_sub (pv 4) (pe_op op_mod (pe_op op_fdiv (pe_ix ix_list (pv 3) pe_int (fun _ _ => rfl)) pe_int) pe_int)) (nomark _)))))
      (pss_one (ps_asg pe_non (pg_sub (pv 5) (pv 7) set_list)))
      pss_nil)))
      (pss_one (ps_ret (pv 5)))))))), ?_⟩
    refine ⟨_, rfl, _, rfl, a, ns, j, rfl, hS, by omega, _, rfl, _, _, rfl, rfl, _, _, rfl, rfl, .inl ⟨by decide, by decide⟩, _, _, _, rfl, by decide, by decide, by decide, by decide, fun nums p3 H1 n3 k1 q1 ⟨hl, hb⟩ => ?_⟩
    have hl : nums.length = 15 := by
      have : (nums.length : Int) = 12 + 3 := hl
      omega
    refine ⟨_, rfl, p3, _, _, _, rfl, rfl, .inl (.inl q1), getD_at (j := 0) (by omega), _, rfl, _, _, rfl, rfl, _, _, rfl, rfl, (by show (0 : Int) < 12 - 1; decide), _, _, rfl, rfl, ?_⟩
    have m0 : 0 ≤ nums.getD 0 0 % (12 - 1) := Int.emod_nonneg _ (by decide)
    have m1 : nums.getD 0 0 % (12 - 1) < 12 - 1 := Int.emod_lt_of_pos _ (by decide)
    generalize nums.getD 0 0 % (12 - 1) = mm at m0 m1
    obtain ⟨n, hn⟩ : ∃ n : Nat, (2 : Int) + mm = (n : Int) := ⟨((2 : Int) + mm).toNat, by omega⟩
    refine ⟨_, rfl, p3, _, _, _, rfl, rfl, .inl (.inl q1), getD_at (j := 1) (by omega), _, _, rfl, rfl, (by show (0 : Int) < 94; decide), _, _, rfl, rfl, szl (by show 1 ≤ 100000; decide), fun p5 n5 => ?_⟩
    generalize h_H2 : upd H1 p5 _ = H2
    have k_H2 : Kp H1 H2 := by rw [← h_H2]; exact .new n5
    have q_H2 := (congrFun h_H2 p5).symm.trans upd_same
    clear h_H2
    have f5 := k1.free _ n5
    have ne35 : p3 ≠ p5 := ne_of_none q1 n5
    refine ⟨_, rfl, _, rfl, _, rfl, _, _, rfl, rfl, _, rfl, p3, _, rfl, .inl (.inl (k_H2.same _ _ rfl q1)), fun p6 n6 => ?_⟩
    obtain ⟨ms, em, hml⟩ : ∃ ms : List Int, cutV (nums.map V.int) (some 3) (some ((2 : Int) + (2 + mm))) = ms.map V.int ∧ ms.length + 1 = n := by
      unfold cutV
      rw [List.length_map]
      have s1 : HT.sIx nums.length 0 (some 3) = 3 := by
        have z : HT.sIx nums.length 0 (some 3) = min 3 nums.length := HT.sIx_nat nums.length 0 3
        rw [z]
        omega
      have s2 : HT.sIx nums.length nums.length (some ((2 : Int) + (2 + mm))) = n + 2 := by
        rw [show (2 : Int) + (2 + mm) = ((n + 2 : Nat) : Int) by omega, HT.sIx_nat]
        omega
      rw [s1, s2]
      refine ⟨(nums.drop 3).take (n + 2 - 3), by rw [List.map_take, List.map_drop], ?_⟩
      rw [List.length_take, List.length_drop]
      omega
    generalize h_H3 : upd H2 p6 _ = H3
    have k_H3 : Kp H2 H3 := by rw [← h_H3]; exact .new n6
    have q_H3 := (congrFun h_H3 p6).symm.trans upd_same
    clear h_H3
    have q6 : H3 p6 = some (.lst (ms.map V.int)) := by rw [q_H3]; exact congrArg (fun z => some (HO.lst z)) em
    have ne56 : p5 ≠ p6 := ne_of_none q_H2 n6
    have kp3 := (k1.trans k_H2).trans k_H3
    refine ⟨p6, rfl, ⟨_, .inl (.inl q6)⟩, for_list (K := K) (a := p6) (xs := ms.map V.int) (fun i σ H' => ∃ (zs : List Int) (y : Option V), σ = [some (.ref a), some (.int (j : Int)), some (.int 12), some (.ref p3), some (.int (2 + mm)), some (.ref p5), y, none] ∧ Kp H H' ∧ H' p3 = some (.lst (nums.map V.int)) ∧ H' p6 = some (.lst (ms.map V.int)) ∧ H' p5 = some (.lst (zs.map V.int)) ∧ zs.length = i + 1)
      ⟨[1 + nums.getD 1 0 % 94], none, rfl, kp3, k_H3.same _ _ rfl (k_H2.same _ _ rfl q1), q6, k_H3.same _ _ rfl q_H2, rfl⟩ (fun i σ H' _ ⟨_, _, _, _, _, h6, _⟩ => .inl (.inl h6)) ?_ ?_⟩
    · rintro i x σ H' hi ⟨zs, y, rfl, kp, h3, h6, h5, hlz⟩
      have hil : i < ms.length := by
        have z := (List.getElem?_eq_some_iff.mp hi).1
        rw [List.length_map] at z
        exact z
      obtain ⟨z, _, rfl, _⟩ := mem_ints hi
      refine ⟨_, rfl, _, _, rfl, rfl, ⟨by decide, by decide⟩, _, _, rfl, rfl, (by show (0 : Int) < 5; decide), _, rfl, p3, _, _, _, rfl, rfl, .inl (.inl h3), getD_at (j := 2) (by omega), _, _, rfl, rfl, (by show (0 : Int) < 5; decide), _, _, rfl, rfl, _, rfl, iteD (fun c => ?_) (fun c => ?_)⟩
      · have hz : zs ≠ [] := fun e => by rw [e] at hlz; simp at hlz
        refine ⟨_, rfl, .inl ⟨rfl, _, SqL.of h5⟩, _, rfl, 1, rfl, p5, _, _, _, rfl, rfl, .inl (.inl h5), last_int hz, p5, _, _, rfl, rfl, h5, szt (by rw [List.length_map]; omega), ?_⟩
        exact ⟨zs ++ [zs.getLast hz], _, rfl, kp.mut f5, by rw [upd_ne ne35]; exact h3, by rw [upd_ne ne56.symm]; exact h6, by rw [upd_same, List.map_append]; rfl, by rw [List.length_append, hlz]; rfl⟩
      · refine ⟨_, rfl, .inl ⟨rfl, _, SqL.of h5⟩, _, rfl, _, _, rfl, rfl, (by show (0 : Int) < 94; decide), _, _, rfl, rfl, p5, _, _, rfl, rfl, h5, szt (by rw [List.length_map]; omega), ?_⟩
        exact ⟨zs ++ [1 + z % 94], _, rfl, kp.mut f5, by rw [upd_ne ne35]; exact h3, by rw [upd_ne ne56.symm]; exact h6, by rw [upd_same, List.map_append]; rfl, by rw [List.length_append, hlz]; rfl⟩
    · rintro σ H' ⟨zs, y, rfl, kp, h3, h6, h5, hlz⟩
      rw [List.length_map] at hlz
      refine ⟨_, rfl, 1, _, rfl, ⟨by omega, by omega, by omega, by omega⟩, ?_⟩
      refine for_range (lo := 1) (n := ((2 : Int) + mm - 1).toNat) (fun i σ H' => ∃ (os : List (Option Int)) (y2 : Option V), σ = [some (.ref a), some (.int (j : Int)), some (.int 12), some (.ref p3), some (.int (2 + mm)), some (.ref p5), y, y2] ∧ Kp H H' ∧ H' p3 = some (.lst (nums.map V.int)) ∧ H' p5 = some (.lst (os.map oI)) ∧ os.length = n)
        ⟨zs.map some, none, rfl, kp, h3, by rw [some_oI]; exact h5, by rw [List.length_map]; omega⟩ ?_ ?_
      · rintro i σ H' hi ⟨os, y2, rfl, kp, h3, h5, hlo⟩
        have e3 : atI (nums.map V.int) ((3 : Int) + (1 + (i : Int)) - 1) = some (.int (nums.getD (i + 3) 0)) := by
          have z := getD_at (ns := nums) (j := i + 3) (by omega)
          rw [← z]
          congr 1
          omega
        refine ⟨_, rfl, _, rfl, _, _, rfl, rfl, _, _, rfl, rfl, p3, _, _, _, rfl, rfl, .inl (.inl h3), e3, _, _, rfl, rfl, ⟨by decide, by decide⟩, _, _, rfl, rfl, (by show (0 : Int) < 9; decide), _, rfl, p3, _, _, _, rfl, rfl, .inl (.inl h3), getD_at (j := 2) (by omega), _, _, rfl, rfl, ⟨by decide, by decide⟩, _, _, rfl, rfl, (by show (0 : Int) < 9; decide), _, _, rfl, rfl, _, rfl, iteD (fun c => ?_) (fun c => ?_)⟩
        · refine ⟨_, rfl, _, rfl, _, rfl, p3, _, _, _, rfl, rfl, .inl (.inl h3), getD_at (j := 2) (by omega), _, _, rfl, rfl, ⟨by decide, by decide⟩, _, _, rfl, rfl, (by show (0 : Int) < 2; decide), _, _, rfl, rfl, _, _, rfl, rfl, _, rfl, iteD (fun c => ?_) (fun c => ?_)⟩
          · refine ⟨_, rfl, _, rfl, p5, _, _, i + 1, rfl, rfl, h5, ?_, ?_⟩
            · rw [List.length_map]
              unfold ixN
              rw [if_pos (by omega), if_pos (by omega)]
              congr 1
              omega
            · exact ⟨os.set (i + 1) none, _, rfl, kp.mut f5, by rw [upd_ne ne35]; exact h3, by rw [upd_same, List.map_set]; rfl, by rw [List.length_set]; exact hlo⟩
          · exact ⟨os, _, rfl, kp, h3, h5, hlo⟩
        · exact ⟨os, _, rfl, kp, h3, h5, hlo⟩
      · rintro σ H' ⟨os, y2, rfl, kp, h3, h5, hlo⟩
        exact ⟨_, rfl, k os p5 H' kp f5 h5 (by omega) (by omega)⟩
/-! ### stretches -/
def hasO (os : List (Option Int)) (p : Nat) : Bool := (os.getD p none).isSome
def valO (os : List (Option Int)) (p : Nat) : Int := (os.getD p none).getD 0
def legN (os : List (Option Int)) (i : Nat) : List Nat := (List.range i).filter (hasO os)
theorem legN_yes {os : List (Option Int)} {i : Nat} (h : hasO os i = true) : legN os (i + 1) = legN os i ++ [i] := by
  unfold legN
  rw [List.range_succ, List.filter_append]
  simp [h]
theorem legN_no {os : List (Option Int)} {i : Nat} (h : hasO os i = false) : legN os (i + 1) = legN os i := by
  unfold legN
  rw [List.range_succ, List.filter_append]
  simp [h]
theorem legN_len (os : List (Option Int)) (i : Nat) : (legN os i).length ≤ i := by
  unfold legN
  exact Nat.le_trans (List.length_filter_le _ _) (by rw [List.length_range]; exact Nat.le_refl _)
theorem legN_mem {os : List (Option Int)} {i p : Nat} (h : p ∈ legN os i) : p < i ∧ hasO os p = true := by
  unfold legN at h
  simp only [List.mem_filter, List.mem_range] at h
  exact h
theorem oI_at {os : List (Option Int)} {p : Nat} (h : p < os.length) : (os.map oI)[p]? = some (oI (os.getD p none)) := by
  rw [List.getElem?_map, List.getD_eq_getElem?_getD, List.getElem?_eq_getElem h]
  rfl
theorem oI_has {os : List (Option Int)} {p : Nat} (h : hasO os p = true) : oI (os.getD p none) = .int (valO os p) := by
  unfold hasO at h
  unfold valO
  cases e : os.getD p none with
  | none => rw [e] at h; cases h
  | some z => rfl
theorem oI_not {os : List (Option Int)} {p : Nat} (h : hasO os p = false) : oI (os.getD p none) = .non := by
  unfold hasO at h
  cases e : os.getD p none with
  | none => rfl
  | some z => rw [e] at h; cases h
def dLeg (os : List (Option Int)) (p : Nat) : PyData := .tuple [.int (p : Int), .int (valO os p)]
/-- the k-th legible place -/
def lgA (os : List (Option Int)) (k : Nat) : Nat := (legN os os.length).getD k 0
def unl (os : List (Option Int)) (k : Nat) : Bool := !decide (V.int (valO os (lgA os k)) = V.int (valO os (lgA os (k + 1))))
def strN (os : List (Option Int)) (i : Nat) : List Nat := (List.range i).filter (unl os)
def dStr (os : List (Option Int)) (k : Nat) : PyData := .tuple [.int (lgA os k : Int), .int (lgA os (k + 1) : Int), .int (valO os (lgA os k)), .int (valO os (lgA os (k + 1)))]
theorem strN_yes {os : List (Option Int)} {i : Nat} (h : unl os i = true) : strN os (i + 1) = strN os i ++ [i] := by
  unfold strN
  rw [List.range_succ, List.filter_append]
  simp [h]
theorem strN_no {os : List (Option Int)} {i : Nat} (h : unl os i = false) : strN os (i + 1) = strN os i := by
  unfold strN
  rw [List.range_succ, List.filter_append]
  simp [h]
theorem strN_len (os : List (Option Int)) (i : Nat) : (strN os i).length ≤ i := by
  unfold strN
  exact Nat.le_trans (List.length_filter_le _ _) (by rw [List.length_range]; exact Nat.le_refl _)
/-- how many pairs of neighbours there are -/
def prs (os : List (Option Int)) : Nat := (legN os os.length).length - 1
def dStrs (os : List (Option Int)) : List PyData := (strN os (prs os)).map (dStr os)
theorem nl_strs {os : List (Option Int)} {l : List Nat} : ∀ d ∈ l.map (dStr os), Nl d := by
  intro d hd
  obtain ⟨p, _, rfl⟩ := List.mem_map.mp hd
  exact .tup (by intro d hd; simp only [List.mem_cons, List.not_mem_nil, or_false] at hd; rcases hd with rfl | rfl | rfl | rfl <;> exact .int _)
theorem nl_legs {os : List (Option Int)} {l : List Nat} : ∀ d ∈ l.map (dLeg os), Nl d := by
  intro d hd
  obtain ⟨p, _, rfl⟩ := List.mem_map.mp hd
  exact .tup (by intro d hd; simp only [List.mem_cons, List.not_mem_nil, or_false] at hd; rcases hd with rfl | rfl <;> exact .int _)
theorem cut_tail (ws : List V) : cutV ws (some 1) none = ws.tail := by
  unfold cutV
  rw [HT.sIx_none]
  have e : HT.sIx ws.length 0 (some 1) = min 1 ws.length := HT.sIx_nat ws.length 0 1
  rw [e]
  cases ws with
  | nil => rfl
  | cons w r =>
    rw [show min 1 (w :: r).length = 1 by rw [List.length_cons]; omega]
    show ((w :: r).drop 1).take _ = r
    rw [List.drop_one, List.tail_cons]
    exact List.take_of_length_le (by rw [List.length_cons]; omega)
theorem lgA_at {os : List (Option Int)} {k : Nat} (h : k < (legN os os.length).length) : (legN os os.length)[k]? = some (lgA os k) := by
  unfold lgA
  rw [List.getD_eq_getElem?_getD, List.getElem?_eq_getElem h]
  rfl
theorem dp_pair {K : PySem.W.Frag} {H : Hp} {v : V} {x y : PyData} (h : Dp K H v (.tuple [x, y])) : ∃ (t : Addr) (a b : V), v = .ref t ∧ SqT K H t [a, b] ∧ Dp K H a x ∧ Dp K H b y := by
  cases h with
  | tup h t =>
    cases t with | cons h1 t =>
    cases t with | cons h2 t =>
    cases t
    exact ⟨_, _, _, rfl, h, h1, h2⟩
theorem dp_intV {K : PySem.W.Frag} {H : Hp} {v : V} {z : Int} (h : Dp K H v (.int z)) : v = .int z := by
  cases h
  rfl
def sp_p_stretches (K : PySem.W.Frag) : Sp := fun vs H Q _ => ∃ (a : Addr) (os : List (Option Int)), vs = [.ref a] ∧ SqL K H a (os.map oI) ∧ os.length ≤ 1000 ∧
  ∀ (p : Addr) (ws : List V) (H' : Hp), Kp H H' → H p = none → H' p = some (.lst ws) → DpAll K H' ws (dStrs os) → Q (.ref p) H'
theorem ok_p_stretches (T : Txt K mg) : FnOk P w K mg base CX0 1 T.f_p_stretches T.d_p_stretches ["values"] (sp_p_stretches K) := by
  refine T.F_p_stretches.ok sc_p_stretches (fun vs H Q E h => ?_) (fun cdv A outer s H vs Q E hr h => ?_)
  · obtain ⟨a, os, rfl, _⟩ := h
    rfl
  · obtain ⟨a, os, rfl, hS, hlen, k⟩ := h
    refine ⟨_, (pss_cons (ps_setLc (i := 1) (own := [("place", 2), ("sign", 3)]) (by rfl) sc_p_stretches.nd rfl rfl (sw_true rfl rfl rfl (by decide +kernel)) (pi_enum (by rfl) T.m_enumerate (pa_cons (pv 0) pa_nil)) (blkOk_by (own := [("place", 2), ("sign", 3)]) (N := ["values", "legible", "place", "sign", "found", "first", "written", "second", "other"]) (sc := defScope s_p_stretches) (by decide +kernel)) (fun _ _ _ _ _ => (pgK K rfl (pg_tup (n := 2) rfl (pgs_cons (pg_name (i := 2) sc_p_stretches.nd rfl (by first | exact Or.inl rfl | exact Or.inr rfl)) (pgs_cons (pg_name (i := 3) sc_p_stretches.nd rfl (by first | exact Or.inl rfl | exact Or.inr rfl)) pgs_nil))))) (fun _ _ _ _ _ => (pts_one (pt_cmpR op_notN (pv 3) pe_non (nomark _)))) (fun _ _ _ _ _ => (pe_tup (pa_cons (pv 2) (pa_cons (pv 3) pa_nil)))))
      (pss_cons (ps_set (i := 4) sc_p_stretches.nd rfl (by first | exact Or.inl rfl | exact Or.inr rfl) (pe_lst pa_nil))
      (pss_cons (ps_for PassesOwn.never rfl (pi_zip (by rfl) T.m_zip (pa_cons (pv 1) (pa_cons (pe_slice sl_list (pv 1) (po_some pe_int) po_none) pa_nil))) (pg_tup (n := 2) rfl (pgs_cons (pg_tup (n := 2) rfl (pgs_cons (pg_name (i := 5) sc_p_stretches.nd rfl (by first | exact Or.inl rfl | exact Or.inr rfl)) (pgs_cons (pg_name (i := 6) sc_p_stretches.nd rfl (by first | exact Or.inl rfl | exact Or.inr rfl)) pgs_nil))) (pgs_cons (pg_tup (n := 2) rfl (pgs_cons (pg_name (i := 7) sc_p_stretches.nd rfl (by first | exact Or.inl rfl | exact Or.inr rfl)) (pgs_cons (pg_name (i := 8) sc_p_stretches.nd rfl (by first | exact Or.inl rfl | exact Or.inr rfl)) pgs_nil))) pgs_nil)))
      (pss_one (ps_if (pt_cmpR op_ne (pv 6) (pv 8) (nomark _))
      (pss_one (ps_expr (pe_bm PySem.F.plainAttrs_list PySem.F.slot_list_append PySem.F.type_list_append mt_append (pv 4) (pa_cons (pe_tup (pa_cons (pv 5) (pa_cons (pv 7) (pa_cons (pv 6) (pa_cons (pv 8) pa_nil))))) pa_nil))))
      pss_nil)))
      (pss_one (ps_ret (pv 4)))))), ?_⟩
    refine ⟨_, rfl, a, _, rfl, hS, fun D hD => ?_⟩
    refine lc_it (walk_enum (K := K) (a := a) (xs := os.map oI)) (fun i H' => ∃ ws : List V, Kp H H' ∧ H' D = some (.lst ws) ∧ DpAll K H' ws ((legN os i).map (dLeg os))) ⟨[], Kp.new hD, upd_same, .nil⟩ (fun i H' _ ⟨_, kp, _⟩ => kp.sqL hS) ?_ ?_
    · rintro i x H' H'' hi ⟨ws, kp, hDl, hw⟩ ⟨t, i', v, rfl, nt, rfl, ei, ev⟩
      cases Option.some.inj ei
      rw [List.length_map] at hi
      have ev : (os.map oI)[i]? = some v := ev
      rw [oI_at hi] at ev
      cases Option.some.inj ev
      generalize h_H2 : upd H' t _ = H2
      have k_H2 : Kp H' H2 := by rw [← h_H2]; exact .new nt
      have q_H2 := (congrFun h_H2 t).symm.trans upd_same
      clear h_H2
      have hD2 := k_H2.same _ _ rfl hDl
      have kp2 := kp.trans k_H2
      have hw2 := k_H2.dpAll hw
      have hlw := DpAll.len hw2
      rw [List.length_map] at hlw
      have hll := legN_len os i
      refine ⟨t, _, rfl, .inl (.inl q_H2), rfl, _, _, rfl, _, _, rfl, rfl, rfl, ?_⟩
      cases hh : hasO os i with
      | false =>
        refine ⟨_, rfl, rfl, _, rfl, iteFo (by show (!decide (oI (os.getD i none) = V.non)) = false; rw [oI_not hh]; rfl) ?_⟩
        exact ⟨ws, kp2, hD2, by rw [legN_no hh]; exact hw2⟩
      | true =>
        refine ⟨_, rfl, rfl, _, rfl, iteTo (by show (!decide (oI (os.getD i none) = V.non)) = true; rw [oI_has hh]; rfl) ?_⟩
        refine ⟨_, rfl, _, rfl, szl (by show 2 ≤ 100000; decide), fun u nu => ?_⟩
        generalize h_H3 : upd H2 u _ = H3
        have k_H3 : Kp H2 H3 := by rw [← h_H3]; exact .new nu
        have q_H3 := (congrFun h_H3 u).symm.trans upd_same
        clear h_H3
        have hD3 := k_H3.same _ _ rfl hD2
        refine ⟨ws, hD3, szt (by omega), _, (kp2.trans k_H3).mut hD, upd_same, ?_⟩
        rw [legN_yes hh, List.map_append]
        refine DpAll.mut hD3 ?_ (DpAll.snoc (k_H3.dpAll hw2) (.tup (.inl (.inl q_H3)) (.cons (.int _) (.cons (by rw [oI_has hh]; exact .int _) .nil))))
        intro d hd
        rw [← List.map_append] at hd
        exact nl_legs d hd
    · rintro H1 ⟨ls, k1, hD1, hl1⟩
      rw [List.length_map] at hl1
      have hll := DpAll.len hl1
      rw [List.length_map] at hll
      have hlm := legN_len os os.length
      refine ⟨Nat.zero_le _, fun p4 n4 => ?_⟩
      generalize h_H2 : upd H1 p4 _ = H2
      have k_H2 : Kp H1 H2 := by rw [← h_H2]; exact .new n4
      have q_H2 := (congrFun h_H2 p4).symm.trans upd_same
      clear h_H2
      have hD2 := k_H2.same _ _ rfl hD1
      have f4 := k1.free _ n4
      have neD4 : D ≠ p4 := ne_of_none hD1 n4
      refine ⟨_, rfl, _, rfl, _, rfl, D, _, rfl, .inl (.inl hD2), fun p5 n5 => ?_⟩
      generalize h_H3 : upd H2 p5 _ = H3
      have k_H3 : Kp H2 H3 := by rw [← h_H3]; exact .new n5
      have q_H3 := (congrFun h_H3 p5).symm.trans upd_same
      clear h_H3
      rw [cut_tail] at q_H3
      have ne45 : p4 ≠ p5 := ne_of_none q_H2 n5
      have kp3 := (k1.trans k_H2).trans k_H3
      have hD3 := k_H3.same _ _ rfl hD2
      have hl3 := (k_H2.trans k_H3).dpAll hl1
      refine ⟨D, p5, ls, ls.tail, rfl, .inl (.inl hD3), .inl (.inl q_H3), ?_⟩
      refine for_it (walk_zip (K := K) (a := D) (b := p5) (xs := ls) (ys := ls.tail) (n := prs os) (by rw [List.length_tail]; unfold prs; omega)) (fun i σ H' => ∃ (ws : List V) (y1 y2 y3 y4 : Option V), σ = [some (.ref a), some (.ref D), none, none, some (.ref p4), y1, y2, y3, y4] ∧ Kp H H' ∧ H' D = some (.lst ls) ∧ H' p5 = some (.lst ls.tail) ∧ DpAll K H' ls ((legN os os.length).map (dLeg os)) ∧ H' p4 = some (.lst ws) ∧ DpAll K H' ws ((strN os i).map (dStr os)))
        ⟨[], none, none, none, none, rfl, kp3, hD3, q_H3, hl3, k_H3.same _ _ rfl q_H2, .nil⟩ (fun i σ H' _ ⟨_, _, _, _, _, _, _, h1, h2, _⟩ => ⟨.inl (.inl h1), .inl (.inl h2)⟩) ?_ ?_
      · rintro i x σ H' H'' hi ⟨ws, y1, y2, y3, y4, rfl, kp, hd, h5, hl, h4, hw⟩ ⟨t, u, v, rfl, nt, rfl, eu, ev⟩
        have hi1 : i < (legN os os.length).length := by unfold prs at hi; omega
        have hi2 : i + 1 < (legN os os.length).length := by unfold prs at hi; omega
        have g1 : ((legN os os.length).map (dLeg os))[i]? = some (dLeg os (lgA os i)) := by rw [List.getElem?_map, lgA_at hi1]; rfl
        have g2 : ((legN os os.length).map (dLeg os))[i + 1]? = some (dLeg os (lgA os (i + 1))) := by rw [List.getElem?_map, lgA_at hi2]; rfl
        obtain ⟨u', eu', du⟩ := DpAll.get hl g1
        have eu : ls[i]? = some u := eu
        rw [eu] at eu'
        cases Option.some.inj eu'
        obtain ⟨v', ev', dv⟩ := DpAll.get hl g2
        have ev : ls.tail[i]? = some v := ev
        rw [List.getElem?_tail] at ev
        rw [ev] at ev'
        cases Option.some.inj ev'
        obtain ⟨t1, a1, b1, rfl, s1, da1, db1⟩ := dp_pair du
        obtain ⟨t2, a2, b2, rfl, s2, da2, db2⟩ := dp_pair dv
        cases dp_intV da1
        cases dp_intV db1
        cases dp_intV da2
        cases dp_intV db2
        generalize h_H4 : upd H' t _ = H4
        have k_H4 : Kp H' H4 := by rw [← h_H4]; exact .new nt
        have q_H4 := (congrFun h_H4 t).symm.trans upd_same
        clear h_H4
        have kp4 := kp.trans k_H4
        have hlw := DpAll.len hw
        rw [List.length_map] at hlw
        have hsl := strN_len os i
        have r4 := k_H4.same _ _ rfl h4
        refine ⟨t, _, rfl, .inl (.inl q_H4), rfl, _, _, rfl, t1, _, rfl, k_H4.sqT s1, rfl, _, _, rfl, _, _, rfl, rfl, _, _, rfl, t2, _, rfl, k_H4.sqT s2, rfl, _, _, rfl, _, _, rfl, rfl, rfl, ?_⟩
        refine ⟨_, rfl, _, rfl, rfl, _, rfl, iteB (fun c => ?_) (fun c => ?_)⟩
        · have c : unl os i = true := c
          refine ⟨_, rfl, .inl ⟨rfl, _, SqL.of r4⟩, _, rfl, _, rfl, _, rfl, _, rfl, szl (by show 4 ≤ 100000; decide), fun u nu => ?_⟩
          generalize h_H5 : upd H4 u _ = H5
          have k_H5 : Kp H4 H5 := by rw [← h_H5]; exact .new nu
          have q_H5 := (congrFun h_H5 u).symm.trans upd_same
          clear h_H5
          have r5 := k_H5.same _ _ rfl r4
          have k25 := k_H4.trans k_H5
          refine ⟨p4, _, _, rfl, rfl, r5, szt (by omega), ?_⟩
          refine ⟨_, _, _, _, _, rfl, (kp4.trans k_H5).mut f4, by rw [upd_ne neD4]; exact k25.same _ _ rfl hd, by rw [upd_ne ne45.symm]; exact k25.same _ _ rfl h5, DpAll.mut r5 nl_legs (k25.dpAll hl), upd_same, ?_⟩
          rw [strN_yes c, List.map_append]
          refine DpAll.mut r5 ?_ (DpAll.snoc (k25.dpAll hw) (.tup (.inl (.inl q_H5)) (.cons (.int _) (.cons (.int _) (.cons (.int _) (.cons (.int _) .nil))))))
          intro d hd
          rw [← List.map_append] at hd
          exact nl_strs d hd
        · have c : unl os i = false := c
          exact ⟨_, _, _, _, _, rfl, kp4, k_H4.same _ _ rfl hd, k_H4.same _ _ rfl h5, k_H4.dpAll hl, r4, by rw [strN_no c]; exact k_H4.dpAll hw⟩
      · rintro σ H' ⟨ws, y1, y2, y3, y4, rfl, kp, hd, h5, hl, h4, hw⟩
        exact ⟨_, rfl, k p4 ws H' kp f4 h4 hw⟩
/-! ### halvings -/
def hvN (g : Int) : Nat := Builtin.Int.intBits (if 0 > g - 1 then 0 else g - 1)
theorem hv_eq {g : Int} {m : Nat} (h1 : g ≤ 2 ^ m) (h2 : m = 0 ∨ (2 : Int) ^ (m - 1) < g) : hvN g = m := by
  unfold hvN Builtin.Int.intBits
  by_cases c : 0 > g - 1
  · rw [if_pos c]
    have hm : m = 0 := by
      rcases h2 with z | z
      · exact z
      · have : (0 : Int) < 2 ^ (m - 1) := Int.pow_pos (by decide)
        omega
    rw [hm]
    rfl
  · rw [if_neg c]
    obtain ⟨n, hn⟩ : ∃ n : Nat, g - 1 = (n : Int) := ⟨(g - 1).toNat, by omega⟩
    rw [hn]
    cases n with
    | zero =>
      have hm : m = 0 := by
        rcases h2 with z | z
        · exact z
        · have : (0 : Int) < 2 ^ (m - 1) := Int.pow_pos (by decide)
          omega
      rw [hm]
      rfl
    | succ n =>
      rw [if_neg (by rw [beq_iff_eq]; omega), Int.natAbs_natCast]
      cases m with
      | zero =>
        have : (2 : Int) ^ 0 = 1 := rfl
        omega
      | succ m =>
        rcases h2 with z | z
        · cases z
        · rw [Nat.add_sub_cancel] at z
          have e1 : ((2 ^ m : Nat) : Int) = (2 : Int) ^ m := by rw [Int.natCast_pow]; rfl
          have e2 : ((2 ^ (m + 1) : Nat) : Int) = (2 : Int) ^ (m + 1) := by rw [Int.natCast_pow]; rfl
          rw [(Nat.log2_eq_iff (k := m) (Nat.succ_ne_zero n)).mpr ⟨by omega, by omega⟩]
def sp_p_halvings (K : PySem.W.Frag) : Sp := fun vs H Q _ => ∃ g : Int, vs = [.int g] ∧ Q (.int (hvN g : Int)) H
theorem ok_p_halvings (T : Txt K mg) : FnOk P w K mg base CX0 1 T.f_p_halvings T.d_p_halvings ["gaps"] (sp_p_halvings K) := by
  refine T.F_p_halvings.ok sc_p_halvings (fun vs H Q E h => ?_) (fun cdv A outer s H vs Q E hr h => ?_)
  · obtain ⟨g, rfl, _⟩ := h
    rfl
  · obtain ⟨g, rfl, k⟩ := h
    exact ⟨_, (pss_one (ps_ret (L2.pe_bits (pe_callB (call_max2 rfl) (by rfl) T.m_max (by decide +kernel) (pa_cons (pe_op op_sub (pv 0) pe_int) (pa_cons pe_int pa_nil)))))), _, rfl, _, _, rfl, rfl, _, _, rfl, _, rfl, k⟩
def sp_l_halved (K : PySem.W.Frag) : Sp := fun vs H Q _ => ∃ g : Int, vs = [.int g] ∧ ∀ H', Kp H H' → Q (.int (hvN g : Int)) H'
/-! ### askings, and what is asked next -/
def gapI (os : List (Option Int)) (k : Nat) : Int := (lgA os (k + 1) : Int) - (lgA os k : Int)
def hvs (os : List (Option Int)) (l : List Nat) : List Int := l.map fun k => (hvN (gapI os k) : Int)
def wide (os : List (Option Int)) (l : List Nat) : List Int := (l.filter fun k => decide (gapI os k > 1)).map fun k => ((lgA os k : Int) + (lgA os (k + 1) : Int)) / 2
def nextV (l : List Int) : V := match l with | [] => .non | z :: _ => .int z
theorem dp_quad {K : PySem.W.Frag} {H : Hp} {x : V} {a b c d : Int} (h : Dp K H x (.tuple [.int a, .int b, .int c, .int d])) : ∃ t, x = .ref t ∧ SqT K H t [.int a, .int b, .int c, .int d] := by
  cases h with
  | tup s r =>
    cases r with
    | cons a1 r =>
      cases r with
      | cons a2 r =>
        cases r with
        | cons a3 r =>
          cases r with
          | cons a4 r =>
            cases r
            cases dp_intV a1
            cases dp_intV a2
            cases dp_intV a3
            cases dp_intV a4
            exact ⟨_, rfl, s⟩
theorem strs_at {K : PySem.W.Frag} {H : Hp} {os : List (Option Int)} {ws : List V} {i : Nat} {x : V} (h : DpAll K H ws (dStrs os)) (e : ws[i]? = some x) : ∃ k, (strN os (prs os))[i]? = some k ∧ Dp K H x (dStr os k) := by
  have hl := DpAll.len h
  unfold dStrs at h hl
  rw [List.length_map] at hl
  have hi : i < (strN os (prs os)).length := by
    have := (List.getElem?_eq_some_iff.mp e).1
    omega
  have g : ((strN os (prs os)).map (dStr os))[i]? = some (dStr os ((strN os (prs os))[i])) := by rw [List.getElem?_map, List.getElem?_eq_getElem hi]; rfl
  obtain ⟨x', e', d⟩ := DpAll.get h g
  rw [e] at e'
  cases Option.some.inj e'
  exact ⟨_, List.getElem?_eq_getElem hi, d⟩
def sp_p_askings (K : PySem.W.Frag) : Sp := fun vs H Q _ => ∃ (a : Addr) (os : List (Option Int)), vs = [.ref a] ∧ SqL K H a (os.map oI) ∧ os.length ≤ 1000 ∧ ∀ H', Kp H H' → Q (.int (hvs os (strN os (prs os))).sum) H'
theorem str_len (os : List (Option Int)) : (strN os (prs os)).length ≤ os.length := by
  have h1 := strN_len os (prs os)
  have h2 := legN_len os os.length
  unfold prs at h1 ⊢
  omega
theorem ok_p_askings (T : Txt K mg) : FnOk P w K mg base CX0 2 T.f_p_askings T.d_p_askings ["values"] (sp_p_askings K) := by
  refine T.F_p_askings.ok sc_p_askings (fun vs H Q E h => ?_) (fun cdv A outer s H vs Q E hr h => ?_)
  · obtain ⟨a, os, rfl, _⟩ := h
    rfl
  · obtain ⟨a, os, rfl, hS, hl, k⟩ := h
    have hsl := str_len os
    refine ⟨_, (pss_one (ps_ret (pe_callB (cr_sum rfl) (by rfl) T.m_sum (by decide +kernel) (pa_cons (pe_lc (own := [("first", 1), ("second", 2), ("written", 3), ("other", 4)]) (tt := tYes) (by rfl) sc_p_askings.nd (pi_list (pe_call (ok_p_stretches T) (hr.mono (by decide)) rfl T.g_p_stretches T.F_p_stretches.kp T.b_p_stretches .nil pass0 (pa_cons (pv 0) pa_nil))) (blkOk_by (own := [("first", 1), ("second", 2), ("written", 3), ("other", 4)]) (N := ["values", "first", "second", "written", "other"]) (sc := defScope s_p_askings) (by decide +kernel)) (fun _ _ _ _ _ => (pgK K rfl (pg_tup (n := 4) rfl (pgs_cons (pg_name (i := 1) sc_p_askings.nd rfl (by first | exact Or.inl rfl | exact Or.inr rfl)) (pgs_cons (pg_name (i := 2) sc_p_askings.nd rfl (by first | exact Or.inl rfl | exact Or.inr rfl)) (pgs_cons (pg_name (i := 3) sc_p_askings.nd rfl (by first | exact Or.inl rfl | exact Or.inr rfl)) (pgs_cons (pg_name (i := 4) sc_p_askings.nd rfl (by first | exact Or.inl rfl | exact Or.inr rfl)) pgs_nil))))))) (fun _ _ _ _ _ => pts_nil) (fun _ _ _ _ _ => (pe_call (ok_p_halvings T) (hr.mono (by decide)) rfl T.g_p_halvings T.F_p_halvings.kp T.b_p_halvings .nil pass0 (pa_cons (pe_op op_sub (pv 2) (pv 1)) pa_nil)))) pa_nil)))), ?_⟩
    refine ⟨_, rfl, a, os, rfl, hS, hl, fun p ws H1 k1 np q1 hw => ?_⟩
    have hwl := DpAll.len hw
    unfold dStrs at hwl
    rw [List.length_map] at hwl
    refine ⟨p, rfl, ⟨_, .inl (.inl q1)⟩, fun D hD => ?_⟩
    refine lc_list (K := K) (a := p) (xs := ws) (fun i H' => Kp H1 H' ∧ H' D = some (.lst ((hvs os ((strN os (prs os)).take i)).map V.int))) ⟨Kp.new hD, upd_same⟩ (fun i H' _ ⟨kp, _⟩ => kp.sqL (.inl (.inl q1))) ?_ ?_
    · rintro i x H' hi ⟨kp, hDl⟩
      obtain ⟨n, hn, dx⟩ := strs_at (kp.dpAll hw) hi
      obtain ⟨t, rfl, st⟩ := dp_quad dx
      refine ⟨t, _, rfl, st, rfl, _, _, rfl, _, _, rfl, _, _, rfl, _, _, rfl, rfl, rfl, ?_⟩
      refine ⟨_, rfl, _, rfl, _, _, rfl, rfl, _, rfl, _, hDl, szt (by unfold hvs; rw [List.length_map, List.length_map, List.length_take]; omega), kp.mut hD, ?_⟩
      rw [upd_same, take_snoc hn]
      unfold hvs
      rw [List.map_append, List.map_append]
      rfl
    · rintro H2 ⟨k2, hD2⟩
      rw [hwl, List.take_length] at hD2
      exact ⟨D, _, rfl, .inl (.inl hD2), k _ (k1.trans k2)⟩
def sp_p_to_ask (K : PySem.W.Frag) : Sp := fun vs H Q _ => ∃ (a : Addr) (os : List (Option Int)), vs = [.ref a] ∧ SqL K H a (os.map oI) ∧ os.length ≤ 1000 ∧ ∀ H', Kp H H' → Q (nextV (wide os (strN os (prs os)))) H'
theorem wide_split {os : List (Option Int)} {l : List Nat} {i k : Nat} (h : l[i]? = some k) (h0 : wide os (l.take i) = []) (hk : gapI os k > 1) : nextV (wide os l) = .int (((lgA os k : Int) + (lgA os (k + 1) : Int)) / 2) := by
  have hi := (List.getElem?_eq_some_iff.mp h).1
  have e : l = l.take i ++ (k :: l.drop (i + 1)) := by
    rw [← (List.getElem?_eq_some_iff.mp h).2, List.getElem_cons_drop, List.take_append_drop]
  unfold wide at h0 ⊢
  rw [e, List.filter_append, List.map_append, h0, List.filter_cons, if_pos (decide_eq_true hk)]
  rfl
theorem wide_no {os : List (Option Int)} {l : List Nat} {i k : Nat} (h : l[i]? = some k) (h0 : wide os (l.take i) = []) (hk : ¬ gapI os k > 1) : wide os (l.take (i + 1)) = [] := by
  unfold wide at h0 ⊢
  rw [take_snoc h, List.filter_append, List.map_append, h0, List.filter_cons, if_neg (by rw [decide_eq_true_iff]; exact hk)]
  rfl
theorem ok_p_to_ask (T : Txt K mg) : FnOk P w K mg base CX0 2 T.f_p_to_ask T.d_p_to_ask ["values"] (sp_p_to_ask K) := by
  refine T.F_p_to_ask.ok sc_p_to_ask (fun vs H Q E h => ?_) (fun cdv A outer s H vs Q E hr h => ?_)
  · obtain ⟨a, os, rfl, _⟩ := h
    rfl
  · obtain ⟨a, os, rfl, hS, hl, k⟩ := h
    refine ⟨_, (pss_cons (ps_for PassesOwn.never rfl (pi_list (pe_call (ok_p_stretches T) (hr.mono (by decide)) rfl T.g_p_stretches T.F_p_stretches.kp T.b_p_stretches .nil pass0 (pa_cons (pv 0) pa_nil))) (pg_tup (n := 4) rfl (pgs_cons (pg_name (i := 1) sc_p_to_ask.nd rfl (by first | exact Or.inl rfl | exact Or.inr rfl)) (pgs_cons (pg_name (i := 2) sc_p_to_ask.nd rfl (by first | exact Or.inl rfl | exact Or.inr rfl)) (pgs_cons (pg_name (i := 3) sc_p_to_ask.nd rfl (by first | exact Or.inl rfl | exact Or.inr rfl)) (pgs_cons (pg_name (i := 4) sc_p_to_ask.nd rfl (by first | exact Or.inl rfl | exact Or.inr rfl)) pgs_nil)))))
      (pss_one (ps_if (pt_cmpR op_gt (pe_op op_sub (pv 2) (pv 1)) pe_int (nomark _))
      (pss_one (ps_ret (pe_op op_fdiv (pe_op op_add (pv 1) (pv 2)) pe_int)))
      pss_nil)))
      (pss_one (ps_ret pe_non))), ?_⟩
    refine ⟨_, rfl, a, os, rfl, hS, hl, fun p ws H1 k1 np q1 hw => ?_⟩
    have hwl := DpAll.len hw
    unfold dStrs at hwl
    rw [List.length_map] at hwl
    refine ⟨p, rfl, ⟨_, .inl (.inl q1)⟩, for_list (K := K) (a := p) (xs := ws) (fun i σ H' => ∃ (y1 y2 y3 y4 : Option V), σ = [some (.ref a), y1, y2, y3, y4] ∧ Kp H1 H' ∧ wide os ((strN os (prs os)).take i) = [])
      ⟨none, none, none, none, rfl, .refl _, rfl⟩ (fun i σ H' _ ⟨_, _, _, _, _, kp, _⟩ => kp.sqL (.inl (.inl q1))) ?_ ?_⟩
    · rintro i x σ H' hi ⟨y1, y2, y3, y4, rfl, kp, h0⟩
      obtain ⟨n, hn, dx⟩ := strs_at (kp.dpAll hw) hi
      obtain ⟨t, rfl, st⟩ := dp_quad dx
      refine ⟨t, _, rfl, st, rfl, _, _, rfl, _, _, rfl, _, _, rfl, _, _, rfl, rfl, ?_⟩
      refine ⟨_, rfl, _, rfl, _, _, rfl, rfl, _, _, rfl, rfl, _, rfl, iteD (fun c => ?_) (fun c => ?_)⟩
      · have e := k _ (k1.trans kp)
        rw [wide_split hn h0 c] at e
        exact ⟨_, rfl, _, rfl, _, _, rfl, rfl, _, _, rfl, rfl, ⟨by decide, by decide⟩, e⟩
      · exact ⟨_, _, _, _, rfl, kp, wide_no hn h0 c⟩
    · rintro σ H' ⟨y1, y2, y3, y4, rfl, kp, h0⟩
      rw [hwl, List.take_length] at h0
      have e := k _ (k1.trans kp)
      rw [h0] at e
      exact e
/-! ### what is kept but at some places -/
/-- what is kept but at the places of S -/
structure KpE (S : List Addr) (H H' : Hp) : Prop where
  same : ∀ a o, isT o = false → a ∉ S → H a = some o → H' a = some o
  tab : ∀ a, GxR.TabG H a → GxR.TabG H' a
  free : ∀ a, H' a = none → H a = none
theorem KpE.kp {S : List Addr} {H0 H H' : Hp} (k : Kp H0 H) (e : KpE S H H') (h : ∀ b ∈ S, H0 b = none) : Kp H0 H' :=
  ⟨fun a o t q => e.same a o t (fun m => by rw [h a m] at q; cases q) (k.same a o t q), fun a q => e.tab a (k.tab a q), fun a q => k.free a (e.free a q)⟩
theorem KpE.of {S : List Addr} {H H' : Hp} (k : Kp H H') : KpE S H H' := ⟨fun a o t _ q => k.same a o t q, k.tab, k.free⟩
theorem KpE.trans {S : List Addr} {H H1 H2 : Hp} (a : KpE S H H1) (b : KpE S H1 H2) : KpE S H H2 :=
  ⟨fun x o t m q => b.same x o t m (a.same x o t m q), fun x q => b.tab x (a.tab x q), fun x q => a.free x (b.free x q)⟩
theorem KpE.put {S : List Addr} {H : Hp} {d : Addr} {o u : HO} (hd : H d = some u) (nt : isT u = false) (m : d ∈ S) : KpE S H (upd H d o) := by
  refine ⟨fun a v t n q => ?_, fun a ⟨ps, q, tr⟩ => ⟨ps, ?_, tr⟩, fun a q => ?_⟩
  · rw [upd_ne (fun z => n (by rw [z]; exact m))]
    exact q
  · have ne : a ≠ d := fun z => by
      rw [z, hd] at q
      cases q
      cases nt
    rw [upd_ne ne]
    exact q
  · by_cases z : a = d
    · rw [z, upd_same] at q
      cases q
    · rw [upd_ne z] at q
      exact q
/-! ### data of tuples are kept where tuples are -/
def TupK (H H' : Hp) : Prop := ∀ a xs, Rd H a (.tup xs) → Rd H' a (.tup xs)
theorem TupK.refl (H : Hp) : TupK H H := fun _ _ h => h
theorem TupK.trans {H H1 H2 : Hp} (a : TupK H H1) (b : TupK H1 H2) : TupK H H2 := fun x xs h => b x xs (a x xs h)
theorem Kp.tk {H H' : Hp} (k : Kp H H') : TupK H H' := fun _ _ h => k.rd rfl h
/-- what is no tuple and not locked -/
def Loose : HO → Prop
  | .tup _ => False
  | .frz _ _ => False
  | _ => True
theorem TupK.upd {H : Hp} {p : Addr} {o u : HO} (h : H p = some u) (l : Loose u) : TupK H (upd H p o) := fun a xs r => by
  have ne : a ≠ p := fun z => by
    rw [z] at r
    rcases r with r | ⟨ob, r⟩
    · rw [h] at r; cases r; exact l
    · rw [h] at r; cases r; exact l
  rcases r with r | ⟨ob, r⟩
  · exact .inl (by rw [upd_ne ne]; exact r)
  · exact .inr ⟨ob, by rw [upd_ne ne]; exact r⟩
theorem TupK.kpE {S : List Addr} {H H' : Hp} (k : KpE S H H') (h : ∀ a ∈ S, ∀ u, H a = some u → Loose u) : TupK H H' := fun a xs r => by
  have ne : a ∉ S := fun m => by
    rcases r with r | ⟨ob, r⟩
    · exact h a m _ r
    · exact h a m _ r
  rcases r with r | ⟨ob, r⟩
  · exact .inl (k.same _ _ rfl ne r)
  · exact .inr ⟨ob, k.same _ _ rfl ne r⟩
theorem loose1 {H : Hp} {a : Addr} {u : HO} (h : H a = some u) (l : Loose u) : ∀ b ∈ [a], ∀ v, H b = some v → Loose v := fun b m v e => by
  rw [List.mem_singleton.mp m, h] at e
  cases e
  exact l
theorem TupK.sqT {K : PySem.W.Frag} {H H' : Hp} {a : Addr} {xs : List V} (t : TupK H H') (h : SqT K H a xs) : SqT K H' a xs := by
  rcases h with h | h
  · exact .inl (t _ _ h)
  · exact .inr h
/-! ### stretches as a list -/
abbrev Lg := Nat × Int
abbrev St4 := Nat × Nat × Int × Int
def stL : List Lg → List St4
  | x :: y :: r => (if x.2 = y.2 then [] else [(x.1, y.1, x.2, y.2)]) ++ stL (y :: r)
  | _ => []
def legs (os : List (Option Int)) : List Lg := (legN os os.length).map fun p => (p, valO os p)
def SS (os : List (Option Int)) : List St4 := stL (legs os)
theorem stL_idx : ∀ ls : List Lg, (((List.range (ls.length - 1)).filter fun k => !decide (V.int (ls.getD k (0, 0)).2 = V.int (ls.getD (k + 1) (0, 0)).2)).map fun k => ((ls.getD k (0, 0)).1, (ls.getD (k + 1) (0, 0)).1, (ls.getD k (0, 0)).2, (ls.getD (k + 1) (0, 0)).2)) = stL ls
  | [] => rfl
  | [_] => rfl
  | x :: y :: r => by
    have ih := stL_idx (y :: r)
    show (((List.range (r.length + 1)).filter _).map _) = _
    have ih : (((List.range r.length).filter fun k => !decide (V.int ((y :: r).getD k (0, 0)).2 = V.int ((y :: r).getD (k + 1) (0, 0)).2)).map fun k => (((y :: r).getD k (0, 0)).1, ((y :: r).getD (k + 1) (0, 0)).1, ((y :: r).getD k (0, 0)).2, ((y :: r).getD (k + 1) (0, 0)).2)) = stL (y :: r) := ih
    rw [List.range_succ_eq_map, List.filter_cons, List.filter_map]
    show List.map _ (if (!decide (V.int x.2 = V.int y.2)) = true then _ else _) = (if x.2 = y.2 then [] else [(x.1, y.1, x.2, y.2)]) ++ stL (y :: r)
    rw [← ih]
    by_cases c : x.2 = y.2
    · rw [if_pos c, if_neg (by rw [c, decide_eq_true rfl]; decide), List.map_map]
      rfl
    · rw [if_neg c, if_pos (by rw [decide_eq_false (fun e => c (V.int.inj e))]; rfl), List.map_cons, List.map_map]
      rfl
theorem legs_at {os : List (Option Int)} {k : Nat} (h : k < (legN os os.length).length) : (legs os).getD k (0, 0) = (lgA os k, valO os (lgA os k)) := by
  unfold legs lgA
  rw [List.getD_eq_getElem?_getD, List.getElem?_map, List.getElem?_eq_getElem h, List.getD_eq_getElem?_getD, List.getElem?_eq_getElem h]
  rfl
theorem legs_len (os : List (Option Int)) : (legs os).length = (legN os os.length).length := List.length_map _
theorem SS_eq (os : List (Option Int)) : (strN os (prs os)).map (fun k => (lgA os k, lgA os (k + 1), valO os (lgA os k), valO os (lgA os (k + 1)))) = SS os := by
  unfold SS
  rw [← stL_idx, legs_len]
  unfold strN prs
  have f : (List.range ((legN os os.length).length - 1)).filter (fun k => !decide (V.int ((legs os).getD k (0, 0)).2 = V.int ((legs os).getD (k + 1) (0, 0)).2)) = (List.range ((legN os os.length).length - 1)).filter (unl os) := List.filter_congr fun k hk => by
    have hk := List.mem_range.mp hk
    rw [legs_at (by omega), legs_at (by omega)]
    rfl
  rw [f]
  refine List.map_congr_left fun k hk => ?_
  have hk := List.mem_range.mp (List.mem_filter.mp hk).1
  rw [legs_at (by omega), legs_at (by omega)]
def dQ (x : St4) : PyData := .tuple [.int (x.1 : Int), .int (x.2.1 : Int), .int x.2.2.1, .int x.2.2.2]
theorem SS_d (os : List (Option Int)) : dStrs os = (SS os).map dQ := by
  rw [← SS_eq, List.map_map]
  rfl
def gapS (x : St4) : Int := (x.2.1 : Int) - (x.1 : Int)
theorem SS_hvs (os : List (Option Int)) : hvs os (strN os (prs os)) = (SS os).map fun x => (hvN (gapS x) : Int) := by
  rw [← SS_eq, List.map_map]
  rfl
theorem SS_wide (os : List (Option Int)) : wide os (strN os (prs os)) = ((SS os).filter fun x => decide (gapS x > 1)).map fun x => ((x.1 : Int) + (x.2.1 : Int)) / 2 := by
  rw [← SS_eq, List.filter_map, List.map_map]
  rfl
/-! #### sorted -/
theorem legs_srt (os : List (Option Int)) : (legs os).Pairwise (fun x y => x.1 < y.1) := by
  unfold legs
  rw [List.pairwise_map]
  exact List.pairwise_lt_range.filter _
theorem legs_mem {os : List (Option Int)} {x : Lg} (h : x ∈ legs os) : x.1 < os.length ∧ hasO os x.1 = true ∧ x.2 = valO os x.1 := by
  obtain ⟨p, hp, rfl⟩ := List.mem_map.mp h
  obtain ⟨a, b⟩ := legN_mem hp
  exact ⟨a, b, rfl⟩
theorem legs_in {os : List (Option Int)} {p : Nat} (h : p < os.length) (o : hasO os p = true) : (p, valO os p) ∈ legs os := List.mem_map.mpr ⟨p, List.mem_filter.mpr ⟨List.mem_range.mpr h, o⟩, rfl⟩
theorem stL_split : ∀ {ls : List Lg} {S1 S2 : List St4} {p q : Nat} {a b : Int}, stL ls = S1 ++ (p, q, a, b) :: S2 → ∃ A B, ls = A ++ (p, a) :: (q, b) :: B ∧ stL (A ++ [(p, a)]) = S1 ∧ stL ((q, b) :: B) = S2 ∧ a ≠ b
  | [], S1, S2, p, q, a, b, h => by cases S1 <;> cases h
  | [_], S1, S2, p, q, a, b, h => by cases S1 <;> cases h
  | x :: y :: r, S1, S2, p, q, a, b, h => by
    have h : (if x.2 = y.2 then [] else [(x.1, y.1, x.2, y.2)]) ++ stL (y :: r) = S1 ++ (p, q, a, b) :: S2 := h
    have hd : ∀ {A B : List Lg}, y :: r = A ++ (p, a) :: B → stL (x :: (A ++ [(p, a)])) = (if x.2 = y.2 then [] else [(x.1, y.1, x.2, y.2)]) ++ stL (A ++ [(p, a)]) := fun {A B} e => by
      cases A with
      | nil =>
        have e := (List.cons.inj e).1
        rw [e]
        rfl
      | cons z A =>
        have e := (List.cons.inj e).1
        rw [e]
        rfl
    by_cases c : x.2 = y.2
    · rw [if_pos c, List.nil_append] at h
      obtain ⟨A, B, e1, e2, e3, e4⟩ := stL_split h
      refine ⟨x :: A, B, by rw [e1]; rfl, ?_, e3, e4⟩
      show stL (x :: (A ++ [(p, a)])) = S1
      rw [hd e1, if_pos c, e2]
      rfl
    · rw [if_neg c] at h
      cases S1 with
      | nil =>
        have h1 := (List.cons.inj h).1
        have h2 := (List.cons.inj h).2
        cases h1
        exact ⟨[], r, rfl, rfl, h2, c⟩
      | cons s S1 =>
        have h1 := (List.cons.inj h).1
        have h2 := (List.cons.inj h).2
        obtain ⟨A, B, e1, e2, e3, e4⟩ := stL_split h2
        refine ⟨x :: A, B, by rw [e1]; rfl, ?_, e3, e4⟩
        show stL (x :: (A ++ [(p, a)])) = s :: S1
        rw [hd e1, if_neg c, e2, ← h1]
        rfl
theorem stL_app : ∀ (A : List Lg) (x : Lg) (R : List Lg), stL (A ++ x :: R) = stL (A ++ [x]) ++ stL (x :: R)
  | [], x, R => rfl
  | [y], x, R => by
    show (if y.2 = x.2 then [] else _) ++ stL (x :: R) = ((if y.2 = x.2 then [] else _) ++ []) ++ stL (x :: R)
    rw [List.append_nil]
  | y :: z :: A, x, R => by
    have ih := stL_app (z :: A) x R
    show (if y.2 = z.2 then [] else _) ++ stL ((z :: A) ++ x :: R) = ((if y.2 = z.2 then [] else _) ++ stL ((z :: A) ++ [x])) ++ stL (x :: R)
    rw [ih, List.append_assoc]
theorem hasO_set16 {os : List (Option Int)} {z : Nat} {v : Int} (hz : z < os.length) (p : Nat) : hasO (os.set z (some v)) p = (if p = z then true else hasO os p) ∧ valO (os.set z (some v)) p = (if p = z then v else valO os p) := by
  unfold hasO valO
  rw [List.getD_eq_getElem?_getD, List.getElem?_set, List.getD_eq_getElem?_getD]
  by_cases c : z = p
  · subst c
    rw [if_pos rfl, if_pos hz, if_pos rfl, if_pos rfl]
    exact ⟨rfl, rfl⟩
  · rw [if_neg c, if_neg (fun y => c y.symm), if_neg (fun y => c y.symm)]
    exact ⟨rfl, rfl⟩
theorem range_at {n m : Nat} (h : m < n) : List.range n = List.range m ++ m :: (List.range (n - m - 1)).map (fun i => m + 1 + i) := by
  have e : n = m + (1 + (n - m - 1)) := by omega
  conv => lhs; rw [e, List.range_add, List.range_add]
  congr 1
  show (m + 0) :: (List.map (fun x => 1 + x) (List.range (n - m - 1))).map (fun x => m + x) = _
  rw [List.map_map]
  congr 1
  refine List.map_congr_left fun i _ => ?_
  show m + (1 + i) = m + 1 + i
  omega
theorem legs_set {os : List (Option Int)} {m : Nat} {v : Int} (hm : m < os.length) (ho : hasO os m = false) : legs (os.set m (some v)) = (legs os).filter (fun x => decide (x.1 < m)) ++ (m, v) :: (legs os).filter (fun x => decide (m < x.1)) := by
  have st := hasO_set16 (v := v) hm
  unfold legs legN
  rw [List.length_set, range_at hm, List.filter_append, List.filter_append, List.filter_cons, List.filter_cons, if_pos (by rw [(st m).1, if_pos rfl]), if_neg (by rw [ho]; decide), List.map_append, List.map_append, List.filter_append, List.filter_append, List.map_cons, (st m).2, if_pos rfl]
  have hlo : ∀ p ∈ List.range m, hasO (os.set m (some v)) p = hasO os p := fun p hp => by
    rw [(st p).1, if_neg (by have := List.mem_range.mp hp; omega)]
  have hhi : ∀ p ∈ (List.range (os.length - m - 1)).map (fun i => m + 1 + i), hasO (os.set m (some v)) p = hasO os p := fun p hp => by
    obtain ⟨i, _, rfl⟩ := List.mem_map.mp hp
    rw [(st _).1, if_neg (by omega)]
  rw [List.filter_congr hlo, List.filter_congr hhi]
  have l1 : (((List.range m).filter (hasO os)).map fun p => (p, valO (os.set m (some v)) p)) = ((List.range m).filter (hasO os)).map fun p => (p, valO os p) := List.map_congr_left fun p hp => by
    rw [(st p).2, if_neg (by have := List.mem_range.mp (List.mem_filter.mp hp).1; omega)]
  have l2 : ((((List.range (os.length - m - 1)).map (fun i => m + 1 + i)).filter (hasO os)).map fun p => (p, valO (os.set m (some v)) p)) = (((List.range (os.length - m - 1)).map (fun i => m + 1 + i)).filter (hasO os)).map fun p => (p, valO os p) := List.map_congr_left fun p hp => by
    obtain ⟨i, _, rfl⟩ := List.mem_map.mp (List.mem_filter.mp hp).1
    rw [(st _).2, if_neg (by omega)]
  rw [l1, l2]
  have f1 : (((List.range m).filter (hasO os)).map fun p => (p, valO os p)).filter (fun x => decide (x.1 < m)) = ((List.range m).filter (hasO os)).map fun p => (p, valO os p) := List.filter_eq_self.mpr fun x hx => by
    obtain ⟨p, hp, rfl⟩ := List.mem_map.mp hx
    exact decide_eq_true (List.mem_range.mp (List.mem_filter.mp hp).1)
  have f2 : (((List.range m).filter (hasO os)).map fun p => (p, valO os p)).filter (fun x => decide (m < x.1)) = [] := List.filter_eq_nil_iff.mpr fun x hx => by
    obtain ⟨p, hp, rfl⟩ := List.mem_map.mp hx
    have := List.mem_range.mp (List.mem_filter.mp hp).1
    show ¬ decide (m < p) = true
    rw [decide_eq_true_iff]
    omega
  have f3 : ((((List.range (os.length - m - 1)).map (fun i => m + 1 + i)).filter (hasO os)).map fun p => (p, valO os p)).filter (fun x => decide (x.1 < m)) = [] := List.filter_eq_nil_iff.mpr fun x hx => by
    obtain ⟨p, hp, rfl⟩ := List.mem_map.mp hx
    obtain ⟨i, _, rfl⟩ := List.mem_map.mp (List.mem_filter.mp hp).1
    show ¬ decide (m + 1 + i < m) = true
    rw [decide_eq_true_iff]
    omega
  have f4 : ((((List.range (os.length - m - 1)).map (fun i => m + 1 + i)).filter (hasO os)).map fun p => (p, valO os p)).filter (fun x => decide (m < x.1)) = (((List.range (os.length - m - 1)).map (fun i => m + 1 + i)).filter (hasO os)).map fun p => (p, valO os p) := List.filter_eq_self.mpr fun x hx => by
    obtain ⟨p, hp, rfl⟩ := List.mem_map.mp hx
    obtain ⟨i, _, rfl⟩ := List.mem_map.mp (List.mem_filter.mp hp).1
    exact decide_eq_true (by omega)
  rw [f1, f2, f3, f4, List.append_nil]
  rfl
/-- a stretch: its ends are legible, none between -/
theorem SS_mem {os : List (Option Int)} {S1 S2 : List St4} {p q : Nat} {a b : Int} (h : SS os = S1 ++ (p, q, a, b) :: S2) : p < q ∧ q < os.length ∧ hasO os p = true ∧ hasO os q = true ∧ a = valO os p ∧ b = valO os q ∧ a ≠ b ∧ (∀ m, p < m → m < q → hasO os m = false) := by
  obtain ⟨A, B, e1, _, _, e4⟩ := stL_split h
  have srt := legs_srt os
  rw [e1] at srt
  have m1 := legs_mem (os := os) (x := (p, a)) (by rw [e1]; exact List.mem_append_right _ List.mem_cons_self)
  have m2 := legs_mem (os := os) (x := (q, b)) (by rw [e1]; exact List.mem_append_right _ (List.mem_cons_of_mem _ List.mem_cons_self))
  obtain ⟨_, s2, s3⟩ := List.pairwise_append.mp srt
  obtain ⟨s4, s5⟩ := List.pairwise_cons.mp s2
  obtain ⟨s6, _⟩ := List.pairwise_cons.mp s5
  refine ⟨s4 _ List.mem_cons_self, m2.1, m1.2.1, m2.2.1, m1.2.2, m2.2.2, e4, fun m h1 h2 => ?_⟩
  cases e : hasO os m with
  | false => rfl
  | true =>
    exfalso
    have hm := legs_in (by have := m2.1; omega) e
    rw [e1] at hm
    rcases List.mem_append.mp hm with y | y
    · have := s3 _ y _ List.mem_cons_self
      have : m < p := this
      omega
    · rcases List.mem_cons.mp y with y | y
      · have : m = p := congrArg Prod.fst y
        omega
      · rcases List.mem_cons.mp y with y | y
        · have : m = q := congrArg Prod.fst y
          omega
        · have := s6 _ y
          have : q < m := this
          omega
/-- one keeper between is asked -/
theorem SS_ask {os : List (Option Int)} {S1 S2 : List St4} {p q m : Nat} {a b v : Int} (h : SS os = S1 ++ (p, q, a, b) :: S2) (h1 : p < m) (h2 : m < q) : SS (os.set m (some v)) = S1 ++ ((if a = v then [] else [(p, m, a, v)]) ++ (if v = b then [] else [(m, q, v, b)])) ++ S2 := by
  have sm := SS_mem h
  obtain ⟨A, B, e1, e2, e3, e4⟩ := stL_split h
  have srt := legs_srt os
  rw [e1] at srt
  obtain ⟨_, s2, s3⟩ := List.pairwise_append.mp srt
  obtain ⟨s4, s5⟩ := List.pairwise_cons.mp s2
  obtain ⟨s6, _⟩ := List.pairwise_cons.mp s5
  have el := legs_set (v := v) (show m < os.length by omega) (sm.2.2.2.2.2.2.2 m h1 h2)
  have a1 : A.filter (fun x => decide (x.1 < m)) = A := List.filter_eq_self.mpr fun x hx => decide_eq_true (by
    have := s3 x hx _ List.mem_cons_self
    have : x.1 < p := this
    omega)
  have a2 : A.filter (fun x => decide (m < x.1)) = [] := List.filter_eq_nil_iff.mpr fun x hx => by
    have := s3 x hx _ List.mem_cons_self
    have : x.1 < p := this
    rw [decide_eq_true_iff]
    omega
  have b1 : B.filter (fun x => decide (x.1 < m)) = [] := List.filter_eq_nil_iff.mpr fun x hx => by
    have := s6 x hx
    have : q < x.1 := this
    rw [decide_eq_true_iff]
    omega
  have b2 : B.filter (fun x => decide (m < x.1)) = B := List.filter_eq_self.mpr fun x hx => decide_eq_true (by
    have := s6 x hx
    have : q < x.1 := this
    omega)
  rw [e1, List.filter_append, List.filter_append, List.filter_cons, List.filter_cons, List.filter_cons, List.filter_cons, a1, a2, b1, b2] at el
  rw [if_pos (decide_eq_true (by exact h1)), if_neg (by rw [decide_eq_true_iff]; show ¬ q < m; omega), if_neg (by rw [decide_eq_true_iff]; show ¬ m < p; omega), if_pos (decide_eq_true (by exact h2))] at el
  unfold SS
  rw [el, List.nil_append, List.append_assoc]
  show stL (A ++ (p, a) :: (m, v) :: (q, b) :: B) = _
  rw [stL_app, e2]
  show S1 ++ ((if a = v then [] else _) ++ ((if v = b then [] else _) ++ stL ((q, b) :: B))) = _
  rw [e3, List.append_assoc, List.append_assoc]
/-- stretches lie one behind another -/
theorem stL_mem : ∀ {ls : List Lg} {x : St4}, x ∈ stL ls → (x.1, x.2.2.1) ∈ ls ∧ (x.2.1, x.2.2.2) ∈ ls
  | [], _, h => absurd h List.not_mem_nil
  | [_], _, h => absurd h List.not_mem_nil
  | y :: z :: r, x, h => by
    rcases List.mem_append.mp h with h | h
    · split at h
      · exact absurd h List.not_mem_nil
      · rw [List.mem_singleton.mp h]
        exact ⟨List.mem_cons_self, List.mem_cons_of_mem _ List.mem_cons_self⟩
    · obtain ⟨a, b⟩ := stL_mem h
      exact ⟨List.mem_cons_of_mem _ a, List.mem_cons_of_mem _ b⟩
theorem stL_srt : ∀ {ls : List Lg}, ls.Pairwise (fun x y => x.1 < y.1) → (stL ls).Pairwise (fun x y => x.2.1 ≤ y.1)
  | [], _ => .nil
  | [_], _ => .nil
  | x :: y :: r, h => by
    obtain ⟨_, h2⟩ := List.pairwise_cons.mp h
    refine List.pairwise_append.mpr ⟨?_, stL_srt h2, fun s hs t ht => ?_⟩
    · split
      · exact .nil
      · exact List.pairwise_cons.mpr ⟨fun _ h => absurd h List.not_mem_nil, .nil⟩
    · split at hs
      · exact absurd hs List.not_mem_nil
      · rw [List.mem_singleton.mp hs]
        show y.1 ≤ t.1
        have := (stL_mem ht).1
        rcases List.mem_cons.mp this with e | e
        · have : t.1 = y.1 := congrArg Prod.fst e
          omega
        · have := (List.pairwise_cons.mp h2).1 _ e
          have : y.1 < t.1 := this
          omega
theorem SS_srt (os : List (Option Int)) : (SS os).Pairwise (fun x y => x.2.1 ≤ y.1) := stL_srt (legs_srt os)
theorem SS_in {os : List (Option Int)} {x : St4} (h : x ∈ SS os) : x.1 < x.2.1 ∧ x.2.1 < os.length ∧ x.2.2.1 = valO os x.1 ∧ x.2.2.2 = valO os x.2.1 ∧ x.2.2.1 ≠ x.2.2.2 ∧ (∀ m, x.1 < m → m < x.2.1 → hasO os m = false) := by
  obtain ⟨S1, S2, e⟩ := List.append_of_mem h
  obtain ⟨a1, a2, _, _, a5, a6, a7, a8⟩ := SS_mem (p := x.1) (q := x.2.1) (a := x.2.2.1) (b := x.2.2.2) e
  exact ⟨a1, a2, a5, a6, a7, a8⟩
/-! #### what the askings cost -/
def cst : Nat → Nat → Nat → Nat
  | 0, _, _ => 0
  | f + 1, g, o => if g ≤ 1 then 0 else 1 + (if g / 2 < o then cst f (g - g / 2) (o - g / 2) else cst f (g / 2) o)
theorem cst_step : ∀ g : Fin 12, ∀ o : Fin 12, 2 ≤ g.val → cst 5 g.val o.val = 1 + (if g.val / 2 < o.val then cst 5 (g.val - g.val / 2) (o.val - g.val / 2) else cst 5 (g.val / 2) o.val) := by decide +kernel
theorem cst_hv : ∀ g : Fin 12, ∀ o : Fin 12, cst 5 g.val o.val ≤ hvN (g.val : Int) := by decide +kernel
theorem cst_max : ∀ g : Fin 12, 1 ≤ g.val → ∃ o : Fin 12, 1 ≤ o.val ∧ o.val ≤ g.val ∧ cst 5 g.val o.val = hvN (g.val : Int) := by decide +kernel
theorem cst_one (o : Nat) : cst 5 1 o = 0 := rfl
/-! ### the state of the askings: a stretch, and where its slip lies -/
abbrev Zr := Nat × Nat × Nat × Int × Int
def toS (z : Zr) : St4 := (z.1, z.2.2.1, z.2.2.2.1, z.2.2.2.2)
structure OkZ (z : Zr) : Prop where
  lo : z.1 < z.2.1
  hi : z.2.1 ≤ z.2.2.1
  w : z.2.2.1 - z.1 ≤ 11
def zc (z : Zr) : Nat := cst 5 (z.2.2.1 - z.1) (z.2.1 - z.1)
def gv (z : Zr) (m : Nat) : Int := if m < z.2.1 then z.2.2.2.1 else z.2.2.2.2
def TrZ (tr : List (Option Int)) (z : Zr) : Prop := ∀ m, z.1 ≤ m → m ≤ z.2.2.1 → tr[m]? = some (some (gv z m))
structure As6 (os tr : List (Option Int)) (Z : List Zr) (n : Nat) : Prop where
  ol : os.length = n
  ss : SS os = Z.map toS
  ok : ∀ z ∈ Z, OkZ z
  tr : ∀ z ∈ Z, TrZ tr z
theorem As6.ask {os tr : List (Option Int)} {Z : List Zr} {n : Nat} (A : As6 os tr Z n) {y : Int} {ys : List Int} (w : wide os (strN os (prs os)) = y :: ys) : ∃ (m : Nat) (v : Int) (Z' : List Zr), y = (m : Int) ∧ m < n ∧ hasO os m = false ∧ tr[m]? = some (some v) ∧ As6 (os.set m (some v)) tr Z' n ∧ (Z'.map zc).sum + 1 = (Z.map zc).sum ∧ Z'.map (fun z => z.2.1) = Z.map (fun z => z.2.1) := by
  rw [SS_wide] at w
  obtain ⟨x, xs, e1, e2, _⟩ := List.map_eq_cons_iff.mp w
  obtain ⟨L1, L2, e3, _, e4, _⟩ := List.filter_eq_cons_iff.mp e1
  have e4 : gapS x > 1 := of_decide_eq_true e4
  have e5 := A.ss.symm.trans e3
  obtain ⟨Z1, Zr, rfl, z1, z2⟩ := List.map_eq_append_iff.mp e5
  obtain ⟨z, Z2, rfl, z3, z4⟩ := List.map_eq_cons_iff.mp z2
  obtain ⟨p, s, q, a, b⟩ := z
  have zm : ((p, s, q, a, b) : Nat × Nat × Nat × Int × Int) ∈ Z1 ++ (p, s, q, a, b) :: Z2 := List.mem_append_right _ List.mem_cons_self
  have ok := A.ok _ zm
  have tz := A.tr _ zm
  have h1 : p < s := ok.lo
  have h2 : s ≤ q := ok.hi
  have h3 : q - p ≤ 11 := ok.w
  subst z3
  have e4 : (q : Int) - (p : Int) > 1 := e4
  have e2 : ((p : Int) + (q : Int)) / 2 = y := e2
  have e3 : SS os = L1 ++ (p, q, a, b) :: L2 := e3
  obtain ⟨m, em⟩ : ∃ m, (p + q) / 2 = m := ⟨_, rfl⟩
  have sm := SS_mem e3
  have hql := sm.2.1
  rw [A.ol] at hql
  have ask := fun v => SS_ask (v := v) e3 (show p < m by omega) (show m < q by omega)
  have tm : tr[m]? = some (some (if m < s then a else b)) := tz m (by show p ≤ m; omega) (by show m ≤ q; omega)
  have st := cst_step ⟨q - p, by omega⟩ ⟨s - p, by omega⟩ (by show 2 ≤ q - p; omega)
  have st : cst 5 (q - p) (s - p) = 1 + (if (q - p) / 2 < s - p then cst 5 (q - p - (q - p) / 2) (s - p - (q - p) / 2) else cst 5 ((q - p) / 2) (s - p)) := st
  have sum : ∀ z' : Nat × Nat × Nat × Int × Int, zc z' + 1 = cst 5 (q - p) (s - p) → ((Z1 ++ z' :: Z2).map zc).sum + 1 = ((Z1 ++ (p, s, q, a, b) :: Z2).map zc).sum := fun z' h => by
    rw [List.map_append, List.map_append, List.sum_append, List.sum_append, List.map_cons, List.map_cons, List.sum_cons, List.sum_cons]
    have : zc (p, s, q, a, b) = cst 5 (q - p) (s - p) := rfl
    omega
  have rest : ∀ z' : Nat × Nat × Nat × Int × Int, SS (os.set m (some (if m < s then a else b))) = L1 ++ toS z' :: L2 → OkZ z' → TrZ tr z' → As6 (os.set m (some (if m < s then a else b))) tr (Z1 ++ z' :: Z2) n := fun z' h1 h2 h3 => by
    refine ⟨by rw [List.length_set]; exact A.ol, ?_, fun z hz => ?_, fun z hz => ?_⟩
    · rw [h1, List.map_append, List.map_cons, z1, z4]
    · rcases List.mem_append.mp hz with hz | hz
      · exact A.ok z (List.mem_append_left _ hz)
      · rcases List.mem_cons.mp hz with rfl | hz
        · exact h2
        · exact A.ok z (List.mem_append_right _ (List.mem_cons_of_mem _ hz))
    · rcases List.mem_append.mp hz with hz | hz
      · exact A.tr z (List.mem_append_left _ hz)
      · rcases List.mem_cons.mp hz with rfl | hz
        · exact h3
        · exact A.tr z (List.mem_append_right _ (List.mem_cons_of_mem _ hz))
  refine ⟨m, if m < s then a else b, ?_⟩
  by_cases c : m < s
  · rw [if_pos c] at rest tm ⊢
    refine ⟨Z1 ++ (m, s, q, a, b) :: Z2, by omega, by omega, sm.2.2.2.2.2.2.2 m (by omega) (by omega), tm, rest _ ?_ ⟨by show m < s; exact c, h2, by show q - m ≤ 11; omega⟩ (fun k k1 k2 => tz k (by have : m ≤ k := k1; show p ≤ k; omega) k2), sum _ ?_, ?_⟩
    · rw [ask, if_pos rfl, if_neg sm.2.2.2.2.2.2.1, List.nil_append, List.append_assoc]
      rfl
    · show cst 5 (q - m) (s - m) + 1 = _
      rw [st, if_pos (by omega), show q - p - (q - p) / 2 = q - m by omega, show s - p - (q - p) / 2 = s - m by omega]
      omega
    · rw [List.map_append, List.map_append]
      rfl
  · rw [if_neg c] at rest tm ⊢
    refine ⟨Z1 ++ (p, s, m, a, b) :: Z2, by omega, by omega, sm.2.2.2.2.2.2.2 m (by omega) (by omega), tm, rest _ ?_ ⟨h1, by show s ≤ m; omega, by show m - p ≤ 11; omega⟩ (fun k k1 k2 => tz k k1 (by have : k ≤ m := k2; show k ≤ q; omega)), sum _ ?_, ?_⟩
    · rw [ask, if_neg sm.2.2.2.2.2.2.1, if_pos rfl, List.append_nil, List.append_assoc]
      rfl
    · show cst 5 (m - p) (s - p) + 1 = _
      rw [st, if_neg (by omega), show (q - p) / 2 = m - p by omega]
      omega
    · rw [List.map_append, List.map_append]
      rfl
theorem As6.end {os tr : List (Option Int)} {Z : List Zr} {n : Nat} (A : As6 os tr Z n) (w : wide os (strN os (prs os)) = []) : (Z.map zc).sum = 0 ∧ (SS os).map (fun x => (x.1, x.2.1)) = Z.map fun z => (z.2.1 - 1, z.2.1) := by
  rw [SS_wide] at w
  have w := List.filter_eq_nil_iff.mp (List.map_eq_nil_iff.mp w)
  have nar : ∀ z ∈ Z, z.2.2.1 = z.1 + 1 ∧ z.2.1 = z.1 + 1 := fun z hz => by
    have h := w (toS z) (by rw [A.ss]; exact List.mem_map_of_mem hz)
    have h : ¬ gapS (toS z) > 1 := fun c => h (decide_eq_true c)
    have h : ¬ (z.2.2.1 : Int) - (z.1 : Int) > 1 := h
    have ok := A.ok z hz
    have h1 := ok.lo
    have h2 := ok.hi
    omega
  refine ⟨?_, ?_⟩
  · have : ∀ L : List Zr, (∀ z ∈ L, z.2.2.1 = z.1 + 1 ∧ z.2.1 = z.1 + 1) → (L.map zc).sum = 0 := fun L => by
      induction L with
      | nil => exact fun _ => rfl
      | cons z L ih =>
        intro h
        obtain ⟨h1, h2⟩ := h z List.mem_cons_self
        rw [List.map_cons, List.sum_cons, ih fun y hy => h y (List.mem_cons_of_mem _ hy)]
        unfold zc
        rw [show z.2.2.1 - z.1 = 1 by omega]
        rfl
    exact this Z nar
  · rw [A.ss, List.map_map]
    refine List.map_congr_left fun z hz => ?_
    obtain ⟨h1, h2⟩ := nar z hz
    show (z.1, z.2.2.1) = (z.2.1 - 1, z.2.1)
    rw [h1, h2]
    rfl
theorem zc_hv {z : Zr} (o : OkZ z) : zc z ≤ hvN (gapS (toS z)) := by
  have h1 := o.lo
  have h2 := o.hi
  have h3 := o.w
  have := cst_hv ⟨z.2.2.1 - z.1, by omega⟩ ⟨z.2.1 - z.1, by omega⟩
  unfold zc gapS toS
  rw [show ((z.2.2.1 : Int) - (z.1 : Int)) = ((z.2.2.1 - z.1 : Nat) : Int) by omega]
  exact this
/-- stretches share no place but their ends -/
theorem gv_same {os : List (Option Int)} {Z : List Zr} (ss : SS os = Z.map toS) (ok : ∀ z ∈ Z, OkZ z) {z z' : Zr} (hz : z ∈ Z) (hz' : z' ∈ Z) {m : Nat} (h1 : z.1 ≤ m) (h2 : m ≤ z.2.2.1) (h3 : z'.1 ≤ m) (h4 : m ≤ z'.2.2.1) : gv z m = gv z' m := by
  have srt := SS_srt os
  rw [ss, List.pairwise_map] at srt
  have key : ∀ {z z' : Zr} {m : Nat}, z ∈ Z → z' ∈ Z → z.2.2.1 ≤ z'.1 → m ≤ z.2.2.1 → z'.1 ≤ m → gv z m = gv z' m := fun {z z' m} hz hz' hq h2 h3 => by
    have e1 := SS_in (os := os) (x := toS z) (by rw [ss]; exact List.mem_map_of_mem hz)
    have e2 := SS_in (os := os) (x := toS z') (by rw [ss]; exact List.mem_map_of_mem hz')
    have f1 : z.2.2.2.2 = valO os z.2.2.1 := e1.2.2.2.1
    have f2 : z'.2.2.2.1 = valO os z'.1 := e2.2.2.1
    have o1 := (ok z hz).hi
    have o2 := (ok z' hz').lo
    unfold gv
    rw [if_neg (by omega), if_pos (by omega), f1, f2, show z.2.2.1 = z'.1 by omega]
  obtain ⟨i, hi, ei⟩ := List.getElem_of_mem hz
  obtain ⟨j, hj, ej⟩ := List.getElem_of_mem hz'
  rcases Nat.lt_trichotomy i j with c | c | c
  · have := List.pairwise_iff_getElem.mp srt i j hi hj c
    rw [ei, ej] at this
    exact key hz hz' this h2 h3
  · subst c
    rw [← ei, ← ej]
  · have := List.pairwise_iff_getElem.mp srt j i hj hi c
    rw [ei, ej] at this
    exact (key hz' hz this h4 h1).symm
/-! ### _law_truth -/
def sp_l_truth (K : PySem.W.Frag) : Sp := fun vs H Q _ => ∃ (Va D : Addr) (os : List (Option Int)) (kvs : List (Key × V)) (Z : List Zr), vs = [.ref Va, .ref D] ∧ H Va = some (.lst (os.map oI)) ∧ H D = some (.dK kvs) ∧ os.length ≤ 12 ∧ SS os = Z.map toS ∧ (∀ z ∈ Z, OkZ z) ∧ (∀ z ∈ Z, valV kvs (Sum.inl (z.1 : Int)) = some (.int (z.2.1 : Int))) ∧
  ∀ (p : Addr) (tr : List (Option Int)) (H' : Hp), Kp H H' → H' p = some (.lst (tr.map oI)) → tr.length = os.length → (∀ z ∈ Z, TrZ tr z) → Q (.ref p) H'
theorem ok_l_truth (T : Txt K mg) : FnOk P w K mg base CX0 3 T.f_l_truth T.d_l_truth ["_law_values_here", "_law_slips"] (sp_l_truth K) := by
  refine T.F_l_truth.ok sc_l_truth (fun vs H Q E h => ?_) (fun cdv A outer s H vs Q E hr h => ?_)
  · obtain ⟨Va, D, os, kvs, Z, rfl, _⟩ := h
    rfl
  · obtain ⟨Va, D, os, kvs, Z, rfl, hV, hD, hn, ss, ok, hk, q⟩ := h
    have hu := hu_of hr
    refine ⟨_, (pss_cons (ps_set (i := 2) sc_l_truth.nd rfl (by first | exact Or.inl rfl | exact Or.inr rfl) (pe_callTy call_list_of (by rfl) T.m_list (by decide +kernel) (pa_cons (pv 0) pa_nil)))
      (pss_cons (ps_for PassesOwn.never rfl (pi_list (pe_call (ok_p_stretches T) (hr.mono (by decide)) rfl T.g_p_stretches T.F_p_stretches.kp T.b_p_stretches .nil pass0 (pa_cons (pe_callTy call_list_of (by rfl) T.m_list (by decide +kernel) (pa_cons (pv 0) pa_nil)) pa_nil))) (pg_tup (n := 4) rfl (pgs_cons (pg_name (i := 3) sc_l_truth.nd rfl (by first | exact Or.inl rfl | exact Or.inr rfl)) (pgs_cons (pg_name (i := 4) sc_l_truth.nd rfl (by first | exact Or.inl rfl | exact Or.inr rfl)) (pgs_cons (pg_name (i := 5) sc_l_truth.nd rfl (by first | exact Or.inl rfl | exact Or.inr rfl)) (pgs_cons (pg_name (i := 6) sc_l_truth.nd rfl (by first | exact Or.inl rfl | exact Or.inr rfl)) pgs_nil)))))
      (pss_one (ps_for PassesOwn.never rfl (pi_range2 (by rfl) T.m_range (pa_cons (pv 3) (pa_cons (pe_op op_add (pv 4) pe_int) pa_nil))) (pg_name (i := 7) sc_l_truth.nd rfl (by first | exact Or.inl rfl | exact Or.inr rfl))
      (pss_one (ps_asg (pe_ifExp (pt_cmpR op_lt (pv 7) (pe_dget hu (pv 1) (pv 3) (fun _ _ => rfl)) (nomark _)) (pv 5) (pv 6)) (pg_sub (pv 2) (pv 7) set_list))))))
      (pss_one (ps_ret (pv 2))))), ?_⟩
    refine ⟨_, rfl, Va, _, rfl, .inl (.inl (.inl hV)), fun R nR => ?_⟩
    generalize h_H1 : upd H R _ = H1
    have k_H1 : Kp H H1 := by rw [← h_H1]; exact .new nR
    have q_H1 := (congrFun h_H1 R).symm.trans upd_same
    clear h_H1
    refine ⟨_, rfl, Va, _, rfl, .inl (.inl (.inl (k_H1.same _ _ rfl hV))), fun V2 nV2 => ?_⟩
    generalize h_H2 : upd H1 V2 _ = H2
    have k_H2 : Kp H1 H2 := by rw [← h_H2]; exact .new nV2
    have q_H2 := (congrFun h_H2 V2).symm.trans upd_same
    clear h_H2
    refine ⟨V2, os, rfl, .inl (.inl q_H2), by omega, fun p ws H3 k3 np hp hw => ?_⟩
    rw [SS_d, ss, List.map_map] at hw
    have hR3 := (k_H2.trans k3).same _ _ rfl q_H1
    have k03 := (k_H1.trans k_H2).trans k3
    have hwl := DpAll.len hw
    rw [List.length_map] at hwl
    have pR : p ≠ R := (ne_of_none (k_H2.same _ _ rfl q_H1) np).symm
    refine ⟨p, rfl, ⟨_, .inl (.inl hp)⟩, for_list (K := K) (a := p) (xs := ws) (fun i σ G => ∃ (y3 y4 y5 y6 y7 : Option V) (tr : List (Option Int)), σ = [some (.ref Va), some (.ref D), some (.ref R), y3, y4, y5, y6, y7] ∧ Kp H G ∧ KpE [R] H3 G ∧ G R = some (.lst (tr.map oI)) ∧ tr.length = os.length ∧ ∀ z ∈ Z.take i, TrZ tr z)
      ⟨none, none, none, none, none, os, rfl, k03, .of (.refl _), hR3, rfl, fun z hz => absurd hz List.not_mem_nil⟩ (fun i σ G _ ⟨_, _, _, _, _, _, _, _, ke, _⟩ => .inl (.inl (ke.same _ _ rfl (fun m => pR (List.mem_singleton.mp m)) hp))) ?_ ?_⟩
    · rintro i v σ G hi ⟨y3, y4, y5, y6, y7, tr, rfl, kp, ke, hR, hl, ht⟩
      have hil := (List.getElem?_eq_some_iff.mp hi).1
      have ez : Z[i]? = some Z[i] := List.getElem?_eq_getElem (by omega)
      have hzm : Z[i] ∈ Z := List.getElem_mem (by omega)
      obtain ⟨v', hv', dv⟩ := DpAll.get hw (i := i) (d := dQ (toS Z[i])) (by rw [List.getElem?_map, ez]; rfl)
      rw [hi] at hv'
      cases hv'
      have tk : Z.take (i + 1) = Z.take i ++ [Z[i]] := take_snoc ez
      generalize Z[i] = z at ez hzm dv tk
      have dv : Dp K H3 v (.tuple [.int (z.1 : Int), .int (z.2.2.1 : Int), .int z.2.2.2.1, .int z.2.2.2.2]) := dv
      obtain ⟨t, rfl, st⟩ := dp_quad dv
      have st' := (TupK.kpE ke (loose1 hR3 trivial)).sqT st
      have oz := ok z hzm
      have oz1 := oz.lo
      have oz2 := oz.hi
      have sz := SS_in (os := os) (x := toS z) (by rw [ss]; exact List.mem_map_of_mem hzm)
      have sq : z.2.2.1 < os.length := sz.2.1
      refine ⟨t, _, rfl, st', rfl, _, _, rfl, _, _, rfl, _, _, rfl, _, _, rfl, rfl, ?_⟩
      refine ⟨_, rfl, _, rfl, _, _, rfl, rfl, (z.1 : Int), _, rfl, ⟨by omega, by omega, by omega, by omega⟩, ?_⟩
      refine for_range (lo := (z.1 : Int)) (n := ((z.2.2.1 : Int) + 1 - (z.1 : Int)).toNat) (fun j σ G => ∃ (y7 : Option V) (tr : List (Option Int)), σ = [some (.ref Va), some (.ref D), some (.ref R), some (.int (z.1 : Int)), some (.int (z.2.2.1 : Int)), some (.int z.2.2.2.1), some (.int z.2.2.2.2), y7] ∧ Kp H G ∧ KpE [R] H3 G ∧ G R = some (.lst (tr.map oI)) ∧ tr.length = os.length ∧ (∀ z ∈ Z.take i, TrZ tr z) ∧ ∀ m, z.1 ≤ m → m < z.1 + j → tr[m]? = some (some (gv z m))) ⟨_, tr, rfl, kp, ke, hR, hl, ht, fun m h1 h2 => by omega⟩ ?_ ?_
      · rintro j σ G hj ⟨y7, tr, rfl, kp, ke, hR, hl, ht, hz⟩
        obtain ⟨m, em⟩ : ∃ m, z.1 + j = m := ⟨_, rfl⟩
        rw [show (z.1 : Int) + (j : Int) = (m : Int) by omega]
        have hDG := kp.same _ _ rfl hD
        have dg := DGet.k (k := Sum.inl (z.1 : Int)) hDG
        rw [hk z hzm] at dg
        have fin : ∀ tr' : List (Option Int), tr' = tr.set m (some (gv z m)) → ∃ (y7 : Option V) (tr : List (Option Int)), [some (.ref Va), some (.ref D), some (.ref R), some (.int (z.1 : Int)), some (.int (z.2.2.1 : Int)), some (.int z.2.2.2.1), some (.int z.2.2.2.2), some (.int (m : Int))] = [some (.ref Va), some (.ref D), some (.ref R), some (.int (z.1 : Int)), some (.int (z.2.2.1 : Int)), some (.int z.2.2.2.1), some (.int z.2.2.2.2), y7] ∧ Kp H (upd G R (.lst (tr'.map oI))) ∧ KpE [R] H3 (upd G R (.lst (tr'.map oI))) ∧ upd G R (.lst (tr'.map oI)) R = some (.lst (tr.map oI)) ∧ tr.length = os.length ∧ (∀ z ∈ Z.take i, TrZ tr z) ∧ ∀ m, z.1 ≤ m → m < z.1 + (j + 1) → tr[m]? = some (some (gv z m)) := fun tr' e => by
          subst e
          refine ⟨_, _, rfl, kp.mut nR, ke.trans (KpE.put hR rfl List.mem_cons_self), upd_same, by rw [List.length_set]; exact hl, fun z' hz' k k1 k2 => ?_, fun k k1 k2 => ?_⟩
          · rw [List.getElem?_set]
            by_cases c : m = k
            · subst c
              rw [if_pos rfl, if_pos (by omega), gv_same ss ok hzm (List.mem_of_mem_take hz') (by omega) (by omega) k1 k2]
            · rw [if_neg c]
              exact ht z' hz' k k1 k2
          · rw [List.getElem?_set]
            by_cases c : m = k
            · subst c
              rw [if_pos rfl, if_pos (by omega)]
            · rw [if_neg c]
              exact hz k k1 (by omega)
        refine ⟨_, rfl, _, rfl, _, rfl, D, _, rfl, dg, _, _, rfl, rfl, _, rfl, iteD (fun c => ?_) (fun c => ?_)⟩
        · have c : (m : Int) < (z.2.1 : Int) := c
          refine ⟨_, rfl, _, rfl, _, rfl, R, _, _, m, rfl, rfl, hR, Evl.ixN_nat (by rw [List.length_map]; omega), ?_⟩
          rw [show (tr.map oI).set m (.int z.2.2.2.1) = (tr.set m (some z.2.2.2.1)).map oI by rw [List.map_set]; rfl]
          exact fin _ (by unfold gv; rw [if_pos (by omega)])
        · have c : ¬ (m : Int) < (z.2.1 : Int) := c
          refine ⟨_, rfl, _, rfl, _, rfl, R, _, _, m, rfl, rfl, hR, Evl.ixN_nat (by rw [List.length_map]; omega), ?_⟩
          rw [show (tr.map oI).set m (.int z.2.2.2.2) = (tr.set m (some z.2.2.2.2)).map oI by rw [List.map_set]; rfl]
          exact fin _ (by unfold gv; rw [if_neg (by omega)])
      · rintro σ G ⟨y7, tr, rfl, kp, ke, hR, hl, ht, hz⟩
        refine ⟨_, _, _, _, _, tr, rfl, kp, ke, hR, hl, fun z' hz' => ?_⟩
        rw [tk] at hz'
        rcases List.mem_append.mp hz' with hz' | hz'
        · exact ht z' hz'
        · rw [List.mem_singleton.mp hz']
          exact fun m h1 h2 => hz m h1 (by omega)
    · rintro σ G ⟨y3, y4, y5, y6, y7, tr, rfl, kp, ke, hR, hl, ht⟩
      rw [hwl, List.take_length] at ht
      exact ⟨_, rfl, q R tr G kp hR hl ht⟩
/-! ### _law_asked -/
def sp_l_asked (K : PySem.W.Frag) : Sp := fun vs H Q _ => ∃ (Va X : Addr) (os tr : List (Option Int)) (Z : List Zr) (n most : Nat), vs = [.ref Va, .ref X, .int (most : Int)] ∧ H Va = some (.lst (os.map oI)) ∧ H X = some (.lst (tr.map oI)) ∧ n ≤ 12 ∧ As6 os tr Z n ∧ (Z.map zc).sum ≤ most ∧
  ∀ (r W : Addr) (os2 : List (Option Int)) (H' : Hp), Kp H H' → H' r = some (.tup [.int ((Z.map zc).sum : Nat), .ref W]) → H' W = some (.lst (os2.map oI)) → os2.length = n → (SS os2).map (fun x => (x.1, x.2.1)) = Z.map (fun z => (z.2.1 - 1, z.2.1)) → Q (.ref r) H'
theorem not_at {os : List (Option Int)} {m : Nat} (hm : m < os.length) (ho : hasO os m = false) : atI (os.map oI) (m : Int) = some .non := by
  refine atI_nat ?_
  rw [oI_at hm, oI_not ho]
theorem ok_l_asked (T : Txt K mg) : FnOk P w K mg base CX0 3 T.f_l_asked T.d_l_asked ["_law_values_here", "_law_truth_here", "_law_most"] (sp_l_asked K) := by
  refine T.F_l_asked.ok sc_l_asked (fun vs H Q E h => ?_) (fun cdv A outer s H vs Q E hr h => ?_)
  · obtain ⟨Va, X, os, tr, Z, n, most, rfl, _⟩ := h
    rfl
  · obtain ⟨Va, X, os, tr, Z, n, most, rfl, hV, hX, hn, A0, hm, q⟩ := h
    have hu := hu_of hr
    refine ⟨_, (pss_cons (ps_set (i := 0) sc_l_asked.nd rfl (by first | exact Or.inl rfl | exact Or.inr rfl) (pe_callTy call_list_of (by rfl) T.m_list (by decide +kernel) (pa_cons (pv 0) pa_nil)))
      (pss_cons (ps_set (i := 3) sc_l_asked.nd rfl (by first | exact Or.inl rfl | exact Or.inr rfl) pe_int)
      (pss_cons (ps_set (i := 4) sc_l_asked.nd rfl (by first | exact Or.inl rfl | exact Or.inr rfl) (pe_call (ok_p_to_ask T) (hr.mono (by decide)) rfl T.g_p_to_ask T.F_p_to_ask.kp T.b_p_to_ask .nil pass0 (pa_cons (pe_callTy call_list_of (by rfl) T.m_list (by decide +kernel) (pa_cons (pv 0) pa_nil)) pa_nil)))
      (pss_cons (ps_while PassesOwn.never (PW.pt (pw_and (pt_cmpR op_notN (pv 4) pe_non (nomark _)) (pw_and1 (pt_cmpR op_le (pv 3) (pv 2) (nomark _)))))
      (pss_cons (ps_if (PW.pt (pw_or (pt_cmpR op_lt (pv 4) pe_int (nomark _)) (pw_or (pt_cmpR op_ge (pv 4) (pe_callB call_len_seq (by rfl) T.m_len PySem.boot_len (pa_cons (pv 0) pa_nil)) (nomark _)) (pw_or1 (pt_cmpR op_notN (pe_ix ix_list (pv 0) (pv 4) (fun _ _ => rfl)) pe_non (nomark _))))))
      (pss_one (ps_ret (pe_tup (pa_cons (pe_op op_sub pe_int pe_int) (pa_cons (pv 0) pa_nil)))))
      pss_nil)
      (pss_cons (ps_asg (pe_ix ix_list (pv 1) (pv 4) (fun _ _ => rfl)) (pg_sub (pv 0) (pv 4) set_list))
      (pss_cons (ps_aug (i := 3) sc_l_asked.nd rfl (by first | exact Or.inl rfl | exact Or.inr rfl) pe_int ip_add)
      (pss_one (ps_set (i := 4) sc_l_asked.nd rfl (by first | exact Or.inl rfl | exact Or.inr rfl) (pe_call (ok_p_to_ask T) (hr.mono (by decide)) rfl T.g_p_to_ask T.F_p_to_ask.kp T.b_p_to_ask .nil pass0 (pa_cons (pe_callTy call_list_of (by rfl) T.m_list (by decide +kernel) (pa_cons (pv 0) pa_nil)) pa_nil))))))))
      (pss_one (ps_ret (pe_tup (pa_cons (pv 3) (pa_cons (pv 0) pa_nil))))))))), ?_⟩
    refine ⟨_, rfl, Va, _, rfl, .inl (.inl (.inl hV)), fun W nW => ?_⟩
    generalize h_H1 : upd H W _ = H1
    have k_H1 : Kp H H1 := by rw [← h_H1]; exact .new nW
    have q_H1 := (congrFun h_H1 W).symm.trans upd_same
    clear h_H1
    refine ⟨_, rfl, W, _, rfl, .inl (.inl (.inl q_H1)), fun Y nY => ?_⟩
    generalize h_H2 : upd H1 Y _ = H2
    have k_H2 : Kp H1 H2 := by rw [← h_H2]; exact .new nY
    have q_H2 := (congrFun h_H2 Y).symm.trans upd_same
    clear h_H2
    refine ⟨Y, os, rfl, .inl (.inl q_H2), by rw [A0.ol]; omega, fun H3 k3 => ?_⟩
    have k13 := k_H2.trans k3
    refine ⟨fun j σ G => ∃ (os' : List (Option Int)) (Z' : List Zr) (c : Nat), σ = [some (.ref W), some (.ref X), some (.int (most : Int)), some (.int (c : Int)), some (nextV (wide os' (strN os' (prs os'))))] ∧ Kp H G ∧ G W = some (.lst (os'.map oI)) ∧ As6 os' tr Z' n ∧ (Z'.map zc).sum = j ∧ c + j = (Z.map zc).sum ∧ Z'.map (fun z => z.2.1) = Z.map (fun z => z.2.1),
      ⟨_, os, Z, 0, rfl, k_H1.trans k13, k13.same _ _ rfl q_H1, A0, rfl, Nat.zero_add _, rfl⟩, ?_⟩
    rintro j σ G ⟨os', Z', c, rfl, kp, hW, A1, ej, cj, es⟩
    cases wd : wide os' (strN os' (prs os')) with
    | nil =>
      refine ⟨_, rfl, rfl, _, rfl, iteFo rfl (iteFo (A := False) rfl ?_)⟩
      obtain ⟨z0, z1⟩ := A1.end wd
      refine ⟨_, rfl, _, rfl, szl (by show 2 ≤ 100000; decide), fun r nr => ?_⟩
      generalize h_G1 : upd G r _ = G1
      have k_G1 : Kp G G1 := by rw [← h_G1]; exact .new nr
      have q_G1 := (congrFun h_G1 r).symm.trans upd_same
      clear h_G1
      refine q r W os' G1 (kp.trans k_G1) ?_ (k_G1.same _ _ rfl hW) A1.ol ?_
      · rw [q_G1, show c = (Z.map zc).sum by omega]
      · rw [z1, show (fun z : Zr => (z.2.1 - 1, z.2.1)) = (fun s : Nat => (s - 1, s)) ∘ (fun z : Zr => z.2.1) from rfl, ← List.map_map, es, List.map_map]
    | cons y ys =>
      obtain ⟨m, v, Z2, rfl, hmn, hno, hv, A2, hs, es2⟩ := A1.ask wd
      have hml : m < os'.length := by rw [A1.ol]; exact hmn
      refine ⟨_, rfl, rfl, _, rfl, iteTo rfl ⟨_, rfl, _, rfl, _, _, rfl, rfl, _, rfl, iteTo (decide_eq_true (by show (c : Int) ≤ (most : Int); omega)) ⟨_, fun σ' H'' w => w, ?_⟩⟩⟩
      refine ⟨_, rfl, _, _, rfl, rfl, _, rfl, iteFo (decide_eq_false (by show ¬ (m : Int) < 0; omega)) ?_⟩
      refine ⟨_, rfl, _, rfl, W, _, rfl, .inl (.inl (.inl hW)), _, _, rfl, rfl, _, rfl, iteFo (decide_eq_false (by show ¬ (m : Int) ≥ (((os'.map oI).length : Nat) : Int); rw [List.length_map]; omega)) ?_⟩
      refine ⟨_, rfl, _, rfl, W, _, _, _, rfl, rfl, .inl (.inl hW), not_at hml hno, rfl, _, rfl, iteFo (A := False) rfl ?_⟩
      have av : atI (tr.map oI) (m : Int) = some (.int v) := atI_nat (by rw [List.getElem?_map, hv]; rfl)
      refine ⟨_, rfl, _, rfl, X, _, _, _, rfl, rfl, .inl (.inl (kp.same _ _ rfl hX)), av, _, rfl, _, rfl, W, _, _, m, rfl, rfl, hW, Evl.ixN_nat (by rw [List.length_map]; exact hml), ?_⟩
      rw [show (os'.map oI).set m (.int v) = (os'.set m (some v)).map oI by rw [List.map_set]; rfl]
      refine ⟨_, rfl, _, _, rfl, rfl, ?_⟩
      have kp2 := kp.mut (H' := G) (o := .lst ((os'.set m (some v)).map oI)) nW
      obtain ⟨G4, e4⟩ : ∃ G4, G4 = upd G W (.lst ((os'.set m (some v)).map oI)) := ⟨_, rfl⟩
      have hW4 : G4 W = some (.lst ((os'.set m (some v)).map oI)) := by rw [e4, upd_same]
      rw [← e4] at kp2 ⊢
      refine ⟨_, rfl, W, _, rfl, .inl (.inl (.inl hW4)), fun Y2 nY2 => ?_⟩
      generalize h_G5 : upd G4 Y2 _ = G5
      have k_G5 : Kp G4 G5 := by rw [← h_G5]; exact .new nY2
      have q_G5 := (congrFun h_G5 Y2).symm.trans upd_same
      clear h_G5
      refine ⟨Y2, os'.set m (some v), rfl, .inl (.inl q_G5), by rw [List.length_set, A1.ol]; omega, fun G6 k6 => ?_⟩
      have k56 := k_G5.trans k6
      exact ⟨(Z2.map zc).sum, by omega, os'.set m (some v), Z2, c + 1, rfl, kp2.trans k56, k56.same _ _ rfl hW4, A2, rfl, by omega, es2.trans es⟩
/-! ### _law_many -/
def kvZ (Z : List Zr) : List (Key × V) := Z.map fun z => (Sum.inl (z.1 : Int), V.int (z.2.1 : Int))
theorem kvZ_get : ∀ {Z : List Zr}, Z.Pairwise (fun x y => x.1 ≠ y.1) → ∀ {z : Zr}, z ∈ Z → valV (kvZ Z) (Sum.inl (z.1 : Int)) = some (.int (z.2.1 : Int))
  | [], _, _, h => absurd h List.not_mem_nil
  | y :: r, pw, z, h => by
    obtain ⟨h1, h2⟩ := List.pairwise_cons.mp pw
    rcases List.mem_cons.mp h with rfl | h
    · exact valV_pos rfl
    · have := kvZ_get h2 h
      rw [← this]
      exact valV_neg (fun e => h1 z h (by have := Sum.inl.inj e; have : (y.1 : Int) = (z.1 : Int) := this; omega))
theorem Z_srt {os : List (Option Int)} {Z : List Zr} (ss : SS os = Z.map toS) (ok : ∀ z ∈ Z, OkZ z) : Z.Pairwise (fun x y => x.1 < y.1) := by
  have h := SS_srt os
  rw [ss, List.pairwise_map] at h
  refine h.imp_of_mem fun {x y} hx _ h => ?_
  have h : x.2.2.1 ≤ y.1 := h
  have o := ok x hx
  have := o.lo
  have := o.hi
  omega
theorem perm_srt {xs ys : List Int} (hp : ys.Perm xs) (h1 : ys.Pairwise (· ≤ ·)) (h2 : xs.Pairwise (· ≤ ·)) : ys = xs := hp.eq_of_pairwise (fun a b _ _ h1 h2 => Int.le_antisymm h1 h2) h1 h2
def dPr (x : Nat × Nat) : PyData := .tuple [.int ((x.1 : Nat) : Int), .int ((x.2 : Nat) : Int)]
theorem dPr_shaped (l : List (Nat × Nat)) : SeqAt.shaped (.list (l.map dPr)) = true := by
  have flat : ∀ d : PyData, (∃ i, d = .int i) → PyData.canLay0 d = true ∧ PyData.depth d ≤ 1 := fun d ⟨i, e⟩ => by
    rw [e]
    exact ⟨by simp only [PyData.canLay0], by simp only [PyData.depth]; omega⟩
  have dall : ∀ (n : Nat) (ds : List PyData), (∀ d ∈ ds, PyData.canLay0 d = true ∧ PyData.depth d ≤ n) → PyData.canLayAll0 ds = true ∧ PyData.depthAll ds ≤ n := fun n ds => by
    induction ds with
    | nil => exact fun _ => ⟨rfl, by simp only [PyData.depthAll]; omega⟩
    | cons d r ih =>
      intro h
      obtain ⟨a, b⟩ := h d List.mem_cons_self
      obtain ⟨a2, b2⟩ := ih fun e he => h e (List.mem_cons_of_mem _ he)
      refine ⟨?_, ?_⟩
      · simp only [PyData.canLayAll0, Bool.and_eq_true]
        exact ⟨a, a2⟩
      · simp only [PyData.depthAll]
        omega
  have tup : ∀ x : Nat × Nat, PyData.canLay0 (dPr x) = true ∧ PyData.depth (dPr x) ≤ 2 := fun x => by
    obtain ⟨a, b⟩ := dall 1 [.int ((x.1 : Nat) : Int), .int ((x.2 : Nat) : Int)] fun d hd => flat d (by
      simp only [List.mem_cons, List.not_mem_nil, or_false] at hd
      rcases hd with rfl | rfl <;> exact ⟨_, rfl⟩)
    refine ⟨?_, ?_⟩
    · show PyData.canLay0 (.tuple _) = true
      simp only [PyData.canLay0]
      exact a
    · show PyData.depth (.tuple _) ≤ 2
      simp only [PyData.depth]
      omega
  obtain ⟨a, b⟩ := dall 2 (l.map dPr) fun d hd => by
    obtain ⟨x, _, rfl⟩ := List.mem_map.mp hd
    exact tup x
  show (PyData.canLay0 (.list (l.map dPr)) && decide (PyData.depth (.list (l.map dPr)) ≤ 64)) = true
  rw [Bool.and_eq_true]
  refine ⟨by simp only [PyData.canLay0]; exact a, decide_eq_true ?_⟩
  simp only [PyData.depth]
  omega
theorem dPr_nl (l : List (Nat × Nat)) : ∀ d ∈ l.map dPr, Nl d := fun d hd => by
  obtain ⟨x, _, rfl⟩ := List.mem_map.mp hd
  exact .tup (by intro d hd; simp only [List.mem_cons, List.not_mem_nil, or_false] at hd; rcases hd with rfl | rfl <;> exact .int _)
def sp_l_many (K : PySem.W.Frag) : Sp := fun vs H Q _ => ∃ (Va D : Addr) (os : List (Option Int)) (Z : List Zr) (most : Nat), vs = [.ref Va, .ref D, .int (most : Int)] ∧ H Va = some (.lst (os.map oI)) ∧ H D = some (.dK (kvZ Z)) ∧ os.length ≤ 12 ∧ SS os = Z.map toS ∧ (∀ z ∈ Z, OkZ z) ∧ (Z.map zc).sum ≤ most ∧ ∀ H', Kp H H' → Q (.int ((Z.map zc).sum : Nat)) H'
theorem ok_l_many (T : Txt K mg) : FnOk P w K mg base CX0 5 T.f_l_many T.d_l_many ["_law_values_here", "_law_slips", "_law_most"] (sp_l_many K) := by
  refine T.F_l_many.ok sc_l_many (fun vs H Q E h => ?_) (fun cdv A outer s H vs Q E hr h => ?_)
  · obtain ⟨Va, D, os, Z, most, rfl, _⟩ := h
    rfl
  · obtain ⟨Va, D, os, Z, most, rfl, hV, hD, hn, ss, ok, hm, q⟩ := h
    have hu := hu_of hr
    refine ⟨_, (pss_cons (ps_asg (pe_call (ok_l_asked T) (hr.mono (by decide)) rfl T.g_l_asked T.F_l_asked.kp T.b_l_asked .nil pass0 (pa_cons (pv 0) (pa_cons (pe_call (ok_l_truth T) (hr.mono (by decide)) rfl T.g_l_truth T.F_l_truth.kp T.b_l_truth .nil pass0 (pa_cons (pv 0) (pa_cons (pv 1) pa_nil))) (pa_cons (pv 2) pa_nil)))) (pg_tup (n := 2) rfl (pgs_cons (pg_name (i := 3) sc_l_many.nd rfl (by first | exact Or.inl rfl | exact Or.inr rfl)) (pgs_cons (pg_name (i := 4) sc_l_many.nd rfl (by first | exact Or.inl rfl | exact Or.inr rfl)) pgs_nil))))
      (pss_cons (ps_setLc (i := 5) (own := [("_law_first", 6), ("_law_last", 7), ("_law_one", 8), ("_law_other", 9)]) (tt := tYes) (by rfl) sc_l_many.nd rfl rfl (sw_true rfl rfl rfl (by decide +kernel)) (pi_list (pe_call (ok_p_stretches T) (hr.mono (by decide)) rfl T.g_p_stretches T.F_p_stretches.kp T.b_p_stretches .nil pass0 (pa_cons (pv 4) pa_nil))) (blkOk_by (own := [("_law_first", 6), ("_law_last", 7), ("_law_one", 8), ("_law_other", 9)]) (N := ["_law_values_here", "_law_slips", "_law_most", "_law_many_here", "_law_behind", "_law_gaps", "_law_first", "_law_last", "_law_one", "_law_other", "_law_due"]) (sc := defScope s_l_many) (by decide +kernel)) (fun _ _ _ _ _ => (pgK K rfl (pg_tup (n := 4) rfl (pgs_cons (pg_name (i := 6) sc_l_many.nd rfl (by first | exact Or.inl rfl | exact Or.inr rfl)) (pgs_cons (pg_name (i := 7) sc_l_many.nd rfl (by first | exact Or.inl rfl | exact Or.inr rfl)) (pgs_cons (pg_name (i := 8) sc_l_many.nd rfl (by first | exact Or.inl rfl | exact Or.inr rfl)) (pgs_cons (pg_name (i := 9) sc_l_many.nd rfl (by first | exact Or.inl rfl | exact Or.inr rfl)) pgs_nil))))))) (fun _ _ _ _ _ => pts_nil) (fun _ _ _ _ _ => (pe_tup (pa_cons (pv 6) (pa_cons (pv 7) pa_nil)))))
      (pss_cons (ps_setLc (i := 10) (own := [("_law_first", 6)]) (g := gName 6) (tt := tYes) (by rfl) sc_l_many.nd rfl rfl (sw_true rfl rfl rfl (by decide +kernel)) (pi_list (pe_callB (call_sortedDI rfl) (by rfl) T.m_sorted PyProof.Rows.boot_sorted (pa_cons (pv 1) pa_nil))) (blkOk_by (own := [("_law_first", 6)]) (N := ["_law_values_here", "_law_slips", "_law_most", "_law_many_here", "_law_behind", "_law_gaps", "_law_first", "_law_last", "_law_one", "_law_other", "_law_due"]) (sc := defScope s_l_many) (by decide +kernel)) (fun _ _ _ _ _ => (pg_name (i := 6) sc_l_many.nd rfl (by first | exact Or.inl rfl | exact Or.inr rfl))) (fun _ _ _ _ _ => pts_nil) (fun _ _ _ _ _ => (pe_tup (pa_cons (pe_op op_sub (pe_dget hu (pv 1) (pv 6) (fun _ _ => rfl)) pe_int) (pa_cons (pe_dget hu (pv 1) (pv 6) (fun _ _ => rfl)) pa_nil)))))
      (pss_cons (ps_if (PW.pt (pw_or (pt_cmpR op_gt (pv 3) (pv 2) (nomark _)) (pw_or1 (pt_cmpR (op_neD hr.units) (pv 5) (pv 10) (nomark _)))))
      (pss_one (ps_ret (pe_op op_sub pe_int pe_int)))
      pss_nil)
      (pss_one (ps_ret (pv 3))))))), ?_⟩
    have zs := Z_srt ss ok
    have zl : Z.length ≤ os.length := by
      have h1 := congrArg List.length ss
      rw [List.length_map, ← SS_eq, List.length_map] at h1
      have h2 := str_len os
      omega
    have kv := fun {z : Zr} (hz : z ∈ Z) => kvZ_get (zs.imp fun h => Nat.ne_of_lt h) hz
    refine ⟨_, rfl, _, rfl, _, rfl, Va, D, os, kvZ Z, Z, rfl, hV, hD, hn, ss, ok, fun z hz => kv hz, fun X tr H1 k1 hX htl htr => ?_⟩
    refine ⟨_, rfl, Va, X, os, tr, Z, os.length, most, rfl, k1.same _ _ rfl hV, hX, hn, ⟨rfl, ss, ok, htr⟩, hm, fun r W os2 H2 k2 hr2 hW ol2 es => ?_⟩
    refine ⟨r, _, rfl, .inl (.inl hr2), rfl, _, _, rfl, _, _, rfl, rfl, ?_⟩
    refine ⟨_, rfl, W, os2, rfl, .inl (.inl hW), by omega, fun p ws H3 k3 np hp hw => ?_⟩
    rw [SS_d] at hw
    have hwl := DpAll.len hw
    rw [List.length_map] at hwl
    have sl2 : (SS os2).length = Z.length := by
      have := congrArg List.length es
      rw [List.length_map, List.length_map] at this
      exact this
    have k13 := (k1.trans k2).trans k3
    refine ⟨p, rfl, ⟨_, .inl (.inl hp)⟩, fun Gp nGp => ?_⟩
    refine lc_list (K := K) (a := p) (xs := ws) (fun i H' => Kp H3 H' ∧ ∃ vs : List V, H' Gp = some (.lst vs) ∧ DpAll K H' vs ((((SS os2).take i).map fun x => (x.1, x.2.1)).map dPr)) ⟨Kp.new nGp, [], upd_same, .nil⟩ (fun i H' _ ⟨kp, _⟩ => kp.sqL (.inl (.inl hp))) ?_ ?_
    · rintro i v H' hi ⟨kp, vs, hGp, hd⟩
      have hil := (List.getElem?_eq_some_iff.mp hi).1
      have ez : (SS os2)[i]? = some (SS os2)[i] := List.getElem?_eq_getElem (by omega)
      obtain ⟨v', hv', dv⟩ := DpAll.get hw (i := i) (d := dQ (SS os2)[i]) (by rw [List.getElem?_map, ez]; rfl)
      rw [hi] at hv'
      cases hv'
      have tk : (SS os2).take (i + 1) = (SS os2).take i ++ [(SS os2)[i]] := take_snoc ez
      generalize (SS os2)[i] = x at ez dv tk
      have dv : Dp K H3 v (.tuple [.int (x.1 : Int), .int (x.2.1 : Int), .int x.2.2.1, .int x.2.2.2]) := dv
      obtain ⟨t, rfl, st⟩ := dp_quad dv
      have hvl := DpAll.len hd
      rw [List.length_map, List.length_map, List.length_take] at hvl
      refine ⟨t, _, rfl, kp.sqT st, rfl, _, _, rfl, _, _, rfl, _, _, rfl, _, _, rfl, rfl, rfl, ?_⟩
      refine ⟨_, rfl, _, rfl, szl (by show 2 ≤ 100000; decide), fun u nu => ?_⟩
      generalize h_H5 : upd H' u _ = H5
      have k_H5 : Kp H' H5 := by rw [← h_H5]; exact .new nu
      have q_H5 := (congrFun h_H5 u).symm.trans upd_same
      clear h_H5
      have hG5 := k_H5.same _ _ rfl hGp
      refine ⟨vs, hG5, szt (by omega), (kp.trans k_H5).mut nGp, _, upd_same, ?_⟩
      rw [tk, List.map_append, List.map_append]
      refine DpAll.mut hG5 ?_ (DpAll.snoc (k_H5.dpAll hd) (.tup (.inl (.inl q_H5)) (.cons (.int _) (.cons (.int _) .nil))))
      intro d hd'
      rcases List.mem_append.mp hd' with z | z
      · exact dPr_nl _ _ z
      · exact dPr_nl [(x.1, x.2.1)] _ z
    rintro H4 ⟨k34, gs, hGp, hgs⟩
    rw [hwl, List.take_length, es] at hgs
    have k14 := k13.trans k34
    refine ⟨_, rfl, D, kvZ Z, Z.map fun z => (z.1 : Int), rfl, .inl (k14.same _ _ rfl hD), by unfold kvZ; rw [List.map_map, List.map_map]; rfl, by rw [List.length_map]; omega, fun ys p5 yp ysr np5 => ?_⟩
    have ey : ys = Z.map fun z => (z.1 : Int) := perm_srt yp ysr (by
      rw [List.pairwise_map]
      exact zs.imp fun h => by omega)
    subst ey
    generalize h_H5 : upd H4 p5 _ = H5
    have k_H5 : Kp H4 H5 := by rw [← h_H5]; exact .new np5
    have q_H5 := (congrFun h_H5 p5).symm.trans upd_same
    clear h_H5
    refine ⟨p5, rfl, ⟨_, .inl (.inl q_H5)⟩, fun Du nDu => ?_⟩
    refine lc_list (K := K) (a := p5) (xs := (Z.map fun z => (z.1 : Int)).map V.int) (fun i H' => Kp H5 H' ∧ ∃ vs : List V, H' Du = some (.lst vs) ∧ DpAll K H' vs (((Z.take i).map fun z => (z.2.1 - 1, z.2.1)).map dPr)) ⟨Kp.new nDu, [], upd_same, .nil⟩ (fun i H' _ ⟨kp, _⟩ => kp.sqL (.inl (.inl q_H5))) ?_ ?_
    · rintro i v H' hi ⟨kp, vs, hDu, hd⟩
      rw [List.map_map, List.getElem?_map] at hi
      obtain ⟨z, ez, rfl⟩ := Option.map_eq_some_iff.mp hi
      have hz := List.mem_of_getElem? ez
      have hil := (List.getElem?_eq_some_iff.mp ez).1
      have tk : Z.take (i + 1) = Z.take i ++ [z] := take_snoc ez
      have oz := (ok z hz).lo
      have hvl := DpAll.len hd
      rw [List.length_map, List.length_map, List.length_take] at hvl
      have hD' := ((k14.trans k_H5).trans kp).same _ _ rfl hD
      have dg := DGet.k (k := Sum.inl (z.1 : Int)) hD'
      rw [kv hz] at dg
      refine ⟨rfl, _, rfl, _, rfl, D, _, rfl, dg, _, _, rfl, rfl, _, rfl, _, rfl, D, _, rfl, dg, szl (by show 2 ≤ 100000; decide), fun u nu => ?_⟩
      generalize h_H6 : upd H' u _ = H6
      have k_H6 : Kp H' H6 := by rw [← h_H6]; exact .new nu
      have q_H6 := (congrFun h_H6 u).symm.trans upd_same
      clear h_H6
      have hG5 := k_H6.same _ _ rfl hDu
      refine ⟨vs, hG5, szt (by omega), (kp.trans k_H6).mut nDu, _, upd_same, ?_⟩
      rw [tk, List.map_append, List.map_append]
      refine DpAll.mut hG5 ?_ (DpAll.snoc (k_H6.dpAll hd) (.tup (.inl (.inl q_H6)) (.cons ?_ (.cons (.int _) .nil))))
      · intro d hd'
        rcases List.mem_append.mp hd' with y | y
        · exact dPr_nl _ _ y
        · exact dPr_nl [(z.2.1 - 1, z.2.1)] _ y
      · show Dp K _ (V.int ((z.2.1 : Int) - 1)) (.int ((z.2.1 - 1 : Nat) : Int))
        rw [show ((z.2.1 - 1 : Nat) : Int) = (z.2.1 : Int) - 1 by omega]
        exact .int _
    rintro H6 ⟨k56, ds, hDu, hds⟩
    rw [List.length_map, List.length_map, List.take_length] at hds
    have k46 := k_H5.trans k56
    refine ⟨_, rfl, _, rfl, _, _, rfl, rfl, _, rfl, iteFo (decide_eq_false (by show ¬ (most : Int) < (((Z.map zc).sum : Nat) : Int); omega)) ?_⟩
    refine ⟨_, rfl, _, rfl, _, _, .lst (.inl (.inl (k46.same _ _ rfl hGp))) (k46.dpAll hgs), .lst (.inl (.inl hDu)) hds, dPr_shaped _, dPr_shaped _, _, rfl, ?_⟩
    refine iteFo (by rw [SeqAt.eqv_refl _ (SeqAt.canLay_of_shaped (dPr_shaped _))]; rfl) ?_
    exact ⟨_, rfl, q H6 (k14.trans k46)⟩
/-! ### the table of the best -/
def hvL (n : Nat) : List Int := (List.range n).map fun k : Nat => (hvN (k : Int) : Int)
theorem hv_best : ∀ g : Fin 13, 2 ≤ g.val → (∃ l : Fin 13, 1 ≤ l.val ∧ l.val < g.val ∧ (hvN (g.val : Int) : Int) = 1 + (if (hvN ((g.val - l.val : Nat) : Int) : Int) > (hvN (l.val : Int) : Int) then (hvN ((g.val - l.val : Nat) : Int) : Int) else (hvN (l.val : Int) : Int))) ∧ ∀ l : Fin 13, 1 ≤ l.val → l.val < g.val → (hvN (g.val : Int) : Int) ≤ 1 + (if (hvN ((g.val - l.val : Nat) : Int) : Int) > (hvN (l.val : Int) : Int) then (hvN ((g.val - l.val : Nat) : Int) : Int) else (hvN (l.val : Int) : Int)) := by decide +kernel
theorem hv01 : hvL 2 = [0, 0] := by decide +kernel
theorem hvL_at {n k : Nat} (h : k < n) : atI ((hvL n).map V.int) (k : Int) = some (.int (hvN (k : Int) : Nat)) := atI_nat (by
  unfold hvL
  rw [List.getElem?_map, List.getElem?_map, List.getElem?_range h]
  rfl)
def sp_l_best (K : PySem.W.Frag) : Sp := fun vs H Q _ => vs = [.int 12] ∧ ∀ (p : Addr) (H' : Hp), Kp H H' → H' p = some (.lst ((hvL 13).map V.int)) → Q (.ref p) H'
theorem ok_l_best (T : Txt K mg) : FnOk P w K mg base CX0 1 T.f_l_best T.d_l_best ["_law_most"] (sp_l_best K) := by
  refine T.F_l_best.ok sc_l_best (fun vs H Q E h => ?_) (fun cdv A outer s H vs Q E hr h => ?_)
  · obtain ⟨rfl, _⟩ := h
    rfl
  · obtain ⟨rfl, q⟩ := h
    have hu := hu_of hr
    refine ⟨_, (pss_cons (ps_set (i := 1) sc_l_best.nd rfl (by first | exact Or.inl rfl | exact Or.inr rfl) (pe_lst (pa_cons pe_int (pa_cons pe_int pa_nil))))
      (pss_cons (ps_for PassesOwn.never rfl (pi_range2 (by rfl) T.m_range (pa_cons pe_int (pa_cons (pe_op op_add (pv 0) pe_int) pa_nil))) (pg_name (i := 2) sc_l_best.nd rfl (by first | exact Or.inl rfl | exact Or.inr rfl))
      (pss_cons (ps_setLc (i := 3) (own := [("_law_left", 4)]) (g := gName 4) (tt := tYes) (by rfl) sc_l_best.nd rfl rfl (sw_true rfl rfl rfl (by decide +kernel)) (pi_range2 (by rfl) T.m_range (pa_cons pe_int (pa_cons (pv 2) pa_nil))) (blkOk_by (own := [("_law_left", 4)]) (N := ["_law_most", "_law_table", "_law_gaps", "_law_some", "_law_left"]) (sc := defScope s_l_best) (by decide +kernel)) (fun _ _ _ _ _ => (pg_name (i := 4) sc_l_best.nd rfl (by first | exact Or.inl rfl | exact Or.inr rfl))) (fun _ _ _ _ _ => pts_nil) (fun _ _ _ _ _ => (pe_op op_add pe_int (pe_callB (call_max2 rfl) (by rfl) T.m_max (by decide +kernel) (pa_cons (pe_ix (ix_listK K rfl) (pv 1) (pv 4) (fun _ _ => rfl)) (pa_cons (pe_ix (ix_listK K rfl) (pv 1) (pe_op op_sub (pv 2) (pv 4)) (fun _ _ => rfl)) pa_nil))))))
      (pss_one (ps_expr (pe_bm PySem.F.plainAttrs_list PySem.F.slot_list_append PySem.F.type_list_append mt_append (pv 1) (pa_cons (pe_callB (cr_min rfl) (by rfl) T.m_min (by decide +kernel) (pa_cons (pv 3) pa_nil)) pa_nil))))))
      (pss_one (ps_ret (pv 1))))), ?_⟩
    refine ⟨szl (by show 2 ≤ 100000; decide), fun D nD => ?_⟩
    generalize h_H1 : upd H D _ = H1
    have k_H1 : Kp H H1 := by rw [← h_H1]; exact .new nD
    have q_H1 := (congrFun h_H1 D).symm.trans upd_same
    clear h_H1
    refine ⟨_, rfl, _, _, rfl, rfl, 2, _, rfl, ⟨by decide, by decide, by decide, by decide⟩, ?_⟩
    refine for_range (lo := 2) (n := ((12 : Int) + 1 - 2).toNat) (fun i σ G => ∃ y2 y3 : Option V, σ = [some (.int 12), some (.ref D), y2, y3, none] ∧ Kp H G ∧ G D = some (.lst ((hvL (2 + i)).map V.int))) ⟨none, none, rfl, k_H1, by rw [show hvL (2 + 0) = [0, 0] from hv01]; exact q_H1⟩ ?_ ?_
    · rintro i σ G hi ⟨y2, y3, rfl, kp, hD⟩
      obtain ⟨g, eg⟩ : ∃ g, 2 + i = g := ⟨_, rfl⟩
      have hg : g ≤ 12 := by
        have : i < 11 := hi
        omega
      rw [show (2 : Int) + (i : Int) = (g : Int) by omega]
      rw [eg] at hD
      obtain ⟨⟨l0, hl1, hl2, hl3⟩, hmin⟩ := hv_best ⟨g, by omega⟩ (by show 2 ≤ g; omega)
      refine ⟨_, rfl, 1, _, rfl, ⟨by decide, by decide, by omega, by omega⟩, fun Y nY => ?_⟩
      refine lc_range (lo := 1) (n := ((g : Int) - 1).toNat) (fun j G' => Kp G G' ∧ G' Y = some (.lst (((List.range j).map fun k => 1 + (if (hvN ((g - (k + 1) : Nat) : Int) : Int) > (hvN ((k + 1 : Nat) : Int) : Int) then (hvN ((g - (k + 1) : Nat) : Int) : Int) else (hvN ((k + 1 : Nat) : Int) : Int))).map V.int))) ⟨Kp.new nY, upd_same⟩ (fun j G' hj ⟨kg, hY⟩ => ?_) (fun G' ⟨kg, hY⟩ => ?_)
      · have hDG := kg.same _ _ rfl hD
        have e1 : (1 : Int) + (j : Int) = ((j + 1 : Nat) : Int) := by omega
        rw [e1]
        have a1 := hvL_at (n := g) (k := j + 1) (by omega)
        have a2 := hvL_at (n := g) (k := g - (j + 1)) (by omega)
        rw [show ((g - (j + 1) : Nat) : Int) = (g : Int) - ((j + 1 : Nat) : Int) by omega] at a2
        refine ⟨rfl, _, rfl, _, rfl, D, _, _, _, rfl, rfl, .inl (.inl hDG), a1, _, rfl, _, rfl, _, rfl, _, _, rfl, rfl, D, _, _, _, rfl, rfl, .inl (.inl hDG), a2, _, _, rfl, _, _, rfl, rfl, _, hY, szt (by rw [List.length_map, List.length_map, List.length_range]; omega), kg.mut nY, ?_⟩
        rw [upd_same, List.range_succ, List.map_append, List.map_append]
        rw [show (g : Int) - ((j + 1 : Nat) : Int) = ((g - (j + 1) : Nat) : Int) by omega]
        rfl
      · refine ⟨_, rfl, .inl ⟨rfl, _, .inl (.inl (kg.same _ _ rfl hD))⟩, _, rfl, Y, _, rfl, .inl (.inl hY), by rw [List.length_map, List.length_range]; omega, fun m hm1 hm2 => ?_⟩
        have em : m = (hvN (g : Int) : Int) := by
          obtain ⟨k, hk, rfl⟩ := List.mem_map.mp hm1
          have hk := List.mem_range.mp hk
          have h1 := hmin ⟨k + 1, by omega⟩ (by show 1 ≤ k + 1; omega) (by show k + 1 < g; omega)
          have h2 := hm2 (hvN (g : Int) : Int) (List.mem_map.mpr ⟨l0.val - 1, List.mem_range.mpr (by have : l0.val < g := hl2; omega), by
            have : l0.val - 1 + 1 = l0.val := by omega
            rw [this]
            exact hl3.symm⟩)
          exact Int.le_antisymm h2 h1
        subst em
        refine ⟨D, _, _, rfl, rfl, kg.same _ _ rfl hD, szt (by unfold hvL; rw [List.length_map, List.length_map, List.length_range]; omega), ?_⟩
        refine ⟨_, _, rfl, (kp.trans kg).mut nD, ?_⟩
        rw [upd_same, show 2 + (i + 1) = g + 1 by omega]
        unfold hvL
        rw [List.range_succ, List.map_append, List.map_append]
        rfl
    · rintro σ G ⟨y2, y3, rfl, kp, hD⟩
      exact ⟨_, rfl, q D G kp hD⟩
/-! ### law -/
def Zf (S : List St4) (f : Nat → Nat) : List Zr := S.map fun x => (x.1, f x.1, x.2.1, x.2.2.1, x.2.2.2)
theorem Zf_toS (S : List St4) (f : Nat → Nat) : (Zf S f).map toS = S := by
  unfold Zf
  rw [List.map_map]
  exact List.map_id' S
theorem Zf_kv (S : List St4) (f : Nat → Nat) : kvZ (Zf S f) = S.map fun x => (Sum.inl (x.1 : Int), V.int (f x.1 : Int)) := by
  unfold Zf kvZ
  rw [List.map_map]
  rfl
def cs (f : Nat → Nat) (x : St4) : Nat := cst 5 (x.2.1 - x.1) (f x.1 - x.1)
theorem Zf_tot (S : List St4) (f : Nat → Nat) : ((Zf S f).map zc).sum = (S.map (cs f)).sum := by
  unfold Zf
  rw [List.map_map]
  rfl
def upF (f : Nat → Nat) (p v : Nat) : Nat → Nat := fun k => if k = p then v else f k
theorem upF_off {f : Nat → Nat} {p v : Nat} {L : List St4} (h : ∀ x ∈ L, x.1 ≠ p) : L.map (fun x => (Sum.inl (x.1 : Int), V.int (upF f p v x.1 : Int))) = (L.map fun x => ((Sum.inl (x.1 : Int) : Key), V.int (f x.1 : Int))) := List.map_congr_left fun x hx => by
  unfold upF
  rw [if_neg (h x hx)]
theorem upF_cs {f : Nat → Nat} {p v : Nat} {L : List St4} (h : ∀ x ∈ L, x.1 ≠ p) : L.map (cs (upF f p v)) = L.map (cs f) := List.map_congr_left fun x hx => by
  unfold cs upF
  rw [if_neg (h x hx)]
theorem put_new16 {kvs : List (Key × V)} {k : Key} {v : V} (h : ∀ kv ∈ kvs, kv.1 ≠ k) : putK kvs k v = kvs ++ [(k, v)] := by
  unfold putK
  rw [if_neg]
  intro e
  obtain ⟨kv, h1, h2⟩ := List.any_eq_true.mp e
  exact h kv h1 (of_decide_eq_true h2)
theorem put_last16 {kvs : List (Key × V)} {k : Key} {v w : V} (h : ∀ kv ∈ kvs, kv.1 ≠ k) : putK (kvs ++ [(k, v)]) k w = kvs ++ [(k, w)] := by
  unfold putK
  rw [if_pos (List.any_eq_true.mpr ⟨(k, v), List.mem_append_right _ List.mem_cons_self, decide_eq_true rfl⟩), List.map_append]
  congr 1
  · exact (List.map_congr_left fun kv hkv => if_neg (h kv hkv)).trans (List.map_id' kvs)
  · show [if k = k then (k, w) else (k, v)] = _
    rw [if_pos rfl]
theorem put_map16 {S : List St4} {f : Nat → Nat} {p v : Nat} (h : ∃ x ∈ S, x.1 = p) : putK (S.map fun x => ((Sum.inl (x.1 : Int) : Key), V.int (f x.1 : Int))) (Sum.inl (p : Int)) (.int (v : Int)) = S.map fun x => (Sum.inl (x.1 : Int), V.int (upF f p v x.1 : Int)) := by
  obtain ⟨x, hx, e⟩ := h
  have h : ((S.map fun x => ((Sum.inl (x.1 : Int) : Key), V.int (f x.1 : Int))).any fun kv => decide (kv.1 = Sum.inl (p : Int))) = true := List.any_eq_true.mpr ⟨((Sum.inl (x.1 : Int) : Key), V.int (f x.1 : Int)), List.mem_map.mpr ⟨x, hx, rfl⟩, decide_eq_true (by show (Sum.inl (x.1 : Int) : Key) = _; rw [e])⟩
  unfold putK
  rw [if_pos h, List.map_map]
  refine List.map_congr_left fun y _ => ?_
  show (if (Sum.inl (y.1 : Int) : Key) = Sum.inl (p : Int) then ((Sum.inl (y.1 : Int) : Key), V.int (v : Int)) else (Sum.inl (y.1 : Int), V.int (f y.1 : Int))) = _
  unfold upF
  by_cases c : y.1 = p
  · rw [if_pos (by rw [c]), if_pos c]
  · rw [if_neg (fun e => c (by have := Sum.inl.inj e; omega)), if_neg c]
theorem sum_cast : ∀ L : List St4, (L.map fun x => (hvN (gapS x) : Int)).sum = (((L.map fun x => hvN (gapS x)).sum : Nat) : Int)
  | [] => rfl
  | x :: L => by
    rw [List.map_cons, List.map_cons, List.sum_cons, List.sum_cons, sum_cast L]
    omega
theorem sum_le16 : ∀ {L : List St4} {f g : St4 → Nat}, (∀ x ∈ L, f x ≤ g x) → (L.map f).sum ≤ (L.map g).sum
  | [], _, _, _ => Nat.le_refl _
  | x :: L, f, g, h => by
    rw [List.map_cons, List.map_cons, List.sum_cons, List.sum_cons]
    have h1 := h x List.mem_cons_self
    have h2 := sum_le16 (L := L) fun y hy => h y (List.mem_cons_of_mem _ hy)
    omega
theorem cs_hv {f : Nat → Nat} {x : St4} (h1 : x.1 < x.2.1) (h2 : x.2.1 - x.1 ≤ 11) (h3 : f x.1 ≤ x.2.1) : cs f x ≤ hvN (gapS x) := by
  have := cst_hv ⟨x.2.1 - x.1, by omega⟩ ⟨f x.1 - x.1, by omega⟩
  unfold cs gapS
  rw [show (x.2.1 : Int) - (x.1 : Int) = ((x.2.1 - x.1 : Nat) : Int) by omega]
  exact this
def OkF (S : List St4) (f : Nat → Nat) : Prop := ∀ x ∈ S, x.1 < f x.1 ∧ f x.1 ≤ x.2.1
theorem zf_ok {S : List St4} {f : Nat → Nat} (hS : ∀ x ∈ S, x.1 < x.2.1 ∧ x.2.1 ≤ 11) (o : OkF S f) : ∀ z ∈ Zf S f, OkZ z := fun z hz => by
  unfold Zf at hz
  obtain ⟨x, hx, rfl⟩ := List.mem_map.mp hz
  obtain ⟨a, b⟩ := o x hx
  obtain ⟨c, d⟩ := hS x hx
  exact ⟨a, b, by show x.2.1 - x.1 ≤ 11; omega⟩
theorem at_split16 {S : List St4} {i : Nat} {x : St4} (h : S[i]? = some x) : S = S.take i ++ x :: S.drop (i + 1) := by
  rw [← (List.getElem?_eq_some_iff.mp h).2, List.getElem_cons_drop, List.take_append_drop]
theorem at_ne16 {S : List St4} {i : Nat} {x : St4} (d : S.Pairwise (fun x y => x.1 ≠ y.1)) (h : S[i]? = some x) : (∀ y ∈ S.take i, y.1 ≠ x.1) ∧ ∀ y ∈ S.drop (i + 1), y.1 ≠ x.1 := by
  rw [at_split16 h] at d
  obtain ⟨_, d2, d3⟩ := List.pairwise_append.mp d
  exact ⟨fun y hy => d3 y hy x List.mem_cons_self, fun y hy e => (List.pairwise_cons.mp d2).1 y hy e.symm⟩
def rest16 (S : List St4) (f : Nat → Nat) (i : Nat) : Nat := ((S.take i).map (cs f)).sum + ((S.drop (i + 1)).map (cs f)).sum
theorem tot_up {S : List St4} {f : Nat → Nat} {i v : Nat} {x : St4} (d : S.Pairwise (fun x y => x.1 ≠ y.1)) (h : S[i]? = some x) : ((Zf S (upF f x.1 v)).map zc).sum = rest16 S f i + cst 5 (x.2.1 - x.1) (v - x.1) := by
  obtain ⟨n1, n2⟩ := at_ne16 d h
  rw [Zf_tot]
  conv => lhs; rw [at_split16 h]
  rw [List.map_append, List.sum_append, List.map_cons, List.sum_cons, upF_cs n1, upF_cs n2]
  unfold rest16
  have : cs (upF f x.1 v) x = cst 5 (x.2.1 - x.1) (v - x.1) := by
    unfold cs upF
    rw [if_pos rfl]
  omega
def kvF (L : List St4) (f : Nat → Nat) : List (Key × V) := L.map fun x => ((Sum.inl (x.1 : Int) : Key), V.int (f x.1 : Int))
theorem kvF_new {S : List St4} {f : Nat → Nat} {i v : Nat} {x : St4} (d : S.Pairwise (fun x y => x.1 ≠ y.1)) (h : S[i]? = some x) : kvF (S.take i) f ++ [(Sum.inl (x.1 : Int), V.int (v : Int))] = kvF (S.take (i + 1)) (upF f x.1 v) := by
  obtain ⟨n1, _⟩ := at_ne16 d h
  unfold kvF
  rw [take_snoc h, List.map_append, upF_off n1]
  show _ = _ ++ [((Sum.inl (x.1 : Int) : Key), V.int (upF f x.1 v x.1 : Int))]
  unfold upF
  rw [if_pos rfl]
theorem kvF_ne {S : List St4} {f : Nat → Nat} {i : Nat} {x : St4} (d : S.Pairwise (fun x y => x.1 ≠ y.1)) (h : S[i]? = some x) : ∀ kv ∈ kvF (S.take i) f, kv.1 ≠ (Sum.inl (x.1 : Int) : Key) := fun kv hkv e => by
  unfold kvF at hkv
  obtain ⟨y, hy, rfl⟩ := List.mem_map.mp hkv
  have e : (y.1 : Int) = (x.1 : Int) := Sum.inl.inj e
  exact (at_ne16 d h).1 y hy (by omega)
theorem okF_up {S : List St4} {f : Nat → Nat} {v : Nat} {x : St4} {L : List St4} (o : OkF L f) (hv : x.1 < v ∧ v ≤ x.2.1) (hL : ∀ y ∈ L, y ∈ S) (hx : ∀ y ∈ S, y.1 = x.1 → y = x) : ∀ y ∈ L, y.1 < upF f x.1 v y.1 ∧ upF f x.1 v y.1 ≤ y.2.1 := fun y hy => by
  unfold upF
  by_cases c : y.1 = x.1
  · rw [if_pos c, hx y (hL y hy) c]
    exact hv
  · rw [if_neg c]
    exact o y hy
theorem uniq16 {S : List St4} (d : S.Pairwise (fun x y => x.1 ≠ y.1)) {x y : St4} (hx : x ∈ S) (hy : y ∈ S) (e : y.1 = x.1) : y = x := by
  obtain ⟨i, hi, ei⟩ := List.getElem_of_mem hx
  obtain ⟨j, hj, ej⟩ := List.getElem_of_mem hy
  rcases Nat.lt_trichotomy i j with c | c | c
  · have := List.pairwise_iff_getElem.mp d i j hi hj c
    rw [ei, ej] at this
    exact absurd e.symm this
  · subst c
    rw [← ei, ← ej]
  · have := List.pairwise_iff_getElem.mp d j i hj hi c
    rw [ei, ej] at this
    exact absurd e this
def sp_law (K : PySem.W.Frag) : Sp := fun vs H Q _ => ∃ (a : Addr) (ns : List Int), vs = [.ref a] ∧ SqL K H a (ns.map V.int) ∧ ns.length ≤ 63 ∧ ∀ H', Q (.bl true) H'
theorem ok_law (T : Txt K mg) {f : Addr} {fd : FuncData} (F : Fun K "law" "law" s_law f fd) : FnOk P w K mg base CX0 10 f fd ["_law_script"] (sp_law K) := by
  refine F.ok sc_law (fun vs H Q E h => ?_) (fun cdv A outer s H vs Q E hr h => ?_)
  · obtain ⟨a, ns, rfl, _⟩ := h
    rfl
  · obtain ⟨sa, ns, rfl, hS, hlen, k⟩ := h
    have hu := hu_of hr
    refine ⟨_, (pss_cons (ps_set (i := 1) sc_law.nd rfl (by first | exact Or.inl rfl | exact Or.inr rfl) (pe_call (ok_l_values T) (hr.mono (by decide)) rfl T.g_l_values T.F_l_values.kp T.b_l_values .nil pass0 (pa_cons (pv 0) (pa_cons pe_int (pa_cons pe_int pa_nil)))))
      (pss_cons (ps_set (i := 2) sc_law.nd rfl (by first | exact Or.inl rfl | exact Or.inr rfl) (pe_callB call_abs (by rfl) T.m_abs (by decide +kernel) (pa_cons (pe_call (ok_l_cell T) (hr.mono (by decide)) rfl T.g_l_cell T.F_l_cell.kp T.b_l_cell .nil pass0 (pa_cons (pv 0) (pa_cons pe_int pa_nil))) pa_nil)))
      (pss_cons (ps_set (i := 3) sc_law.nd rfl (by first | exact Or.inl rfl | exact Or.inr rfl) (pe_call (ok_p_stretches T) (hr.mono (by decide)) rfl T.g_p_stretches T.F_p_stretches.kp T.b_p_stretches .nil pass0 (pa_cons (pe_callTy call_list_of (by rfl) T.m_list (by decide +kernel) (pa_cons (pv 1) pa_nil)) pa_nil)))
      (pss_cons (ps_set (i := 4) sc_law.nd rfl (by first | exact Or.inl rfl | exact Or.inr rfl) (pe_call (ok_l_best T) (hr.mono (by decide)) rfl T.g_l_best T.F_l_best.kp T.b_l_best .nil pass0 (pa_cons pe_int pa_nil)))
      (Evl.pss_cut (ps_set (i := 5) sc_law.nd rfl (by first | exact Or.inl rfl | exact Or.inr rfl) (pe_call (ok_p_askings T) (hr.mono (by decide)) rfl T.g_p_askings T.F_p_askings.kp T.b_p_askings .nil pass0 (pa_cons (pe_callTy call_list_of (by rfl) T.m_list (by decide +kernel) (pa_cons (pv 1) pa_nil)) pa_nil)))
      (pss_cons (ps_if (pt_cmpR op_ne (pv 5) (pe_callB (cr_sum rfl) (by rfl) T.m_sum (by decide +kernel) (pa_cons (pe_lc (own := [("_law_first", 6), ("_law_last", 7), ("_law_one", 8), ("_law_other", 9)]) (tt := tYes) (by rfl) sc_law.nd (pi_list (pv 3)) (blkOk_by (own := [("_law_first", 6), ("_law_last", 7), ("_law_one", 8), ("_law_other", 9)]) (N := ["_law_script", "_law_values_here", "_law_pick", "_law_some", "_law_table", "_law_most", "_law_first", "_law_last", "_law_one", "_law_other", "_law_slips", "_law_worst", "_law_best_here", "_law_place", "_law_turned", "_law_many_here"]) (sc := defScope s_law) (by decide +kernel)) (fun _ _ _ _ _ => (pgK K rfl (pg_tup (n := 4) rfl (pgs_cons (pg_name (i := 6) sc_law.nd rfl (by first | exact Or.inl rfl | exact Or.inr rfl)) (pgs_cons (pg_name (i := 7) sc_law.nd rfl (by first | exact Or.inl rfl | exact Or.inr rfl)) (pgs_cons (pg_name (i := 8) sc_law.nd rfl (by first | exact Or.inl rfl | exact Or.inr rfl)) (pgs_cons (pg_name (i := 9) sc_law.nd rfl (by first | exact Or.inl rfl | exact Or.inr rfl)) pgs_nil))))))) (fun _ _ _ _ _ => pts_nil) (fun _ _ _ _ _ => (pe_ix (ix_listK K rfl) (pv 4) (pe_op op_sub (pv 7) (pv 6)) (fun _ _ => rfl)))) pa_nil)) (nomark _))
      (pss_one (ps_ret pe_bl))
      pss_nil)
      (pss_cons (ps_set (i := 10) sc_law.nd rfl (by first | exact Or.inl rfl | exact Or.inr rfl) pe_dnewK)
      (pss_cons (ps_for PassesOwn.never rfl (pi_list (pv 3)) (pg_tup (n := 4) rfl (pgs_cons (pg_name (i := 6) sc_law.nd rfl (by first | exact Or.inl rfl | exact Or.inr rfl)) (pgs_cons (pg_name (i := 7) sc_law.nd rfl (by first | exact Or.inl rfl | exact Or.inr rfl)) (pgs_cons (pg_name (i := 8) sc_law.nd rfl (by first | exact Or.inl rfl | exact Or.inr rfl)) (pgs_cons (pg_name (i := 9) sc_law.nd rfl (by first | exact Or.inl rfl | exact Or.inr rfl)) pgs_nil)))))
      (pss_one (ps_dput hu (pv 10) (pv 6) (pe_op op_add (pe_op op_add (pv 6) pe_int) (pe_op op_mod (pv 2) (pe_op op_sub (pv 7) (pv 6)))) rfl)))
      (pss_cons (ps_set (i := 11) sc_law.nd rfl (by first | exact Or.inl rfl | exact Or.inr rfl) pe_dnewK)
      (pss_cons (ps_for PassesOwn.never rfl (pi_list (pv 3)) (pg_tup (n := 4) rfl (pgs_cons (pg_name (i := 6) sc_law.nd rfl (by first | exact Or.inl rfl | exact Or.inr rfl)) (pgs_cons (pg_name (i := 7) sc_law.nd rfl (by first | exact Or.inl rfl | exact Or.inr rfl)) (pgs_cons (pg_name (i := 8) sc_law.nd rfl (by first | exact Or.inl rfl | exact Or.inr rfl)) (pgs_cons (pg_name (i := 9) sc_law.nd rfl (by first | exact Or.inl rfl | exact Or.inr rfl)) pgs_nil)))))
      (pss_cons (ps_set (i := 12) sc_law.nd rfl (by first | exact Or.inl rfl | exact Or.inr rfl) (pe_op op_sub pe_int pe_int))
      (pss_one (ps_for PassesOwn.never rfl (pi_range2 (by rfl) T.m_range (pa_cons (pe_op op_add (pv 6) pe_int) (pa_cons (pe_op op_add (pv 7) pe_int) pa_nil))) (pg_name (i := 13) sc_law.nd rfl (by first | exact Or.inl rfl | exact Or.inr rfl))
      (pss_cons (ps_set (i := 14) sc_law.nd rfl (by first | exact Or.inl rfl | exact Or.inr rfl) (pe_callTy call_dictD (by rfl) T.m_dict (by decide +kernel) (pa_cons (pv 10) pa_nil)))
      (pss_cons (ps_dput hu (pv 14) (pv 6) (pv 13) rfl)
      (pss_cons (ps_set (i := 15) sc_law.nd rfl (by first | exact Or.inl rfl | exact Or.inr rfl) (pe_call (ok_l_many T) (hr.mono (by decide)) rfl T.g_l_many T.F_l_many.kp T.b_l_many .nil pass0 (pa_cons (pv 1) (pa_cons (pv 14) (pa_cons (pv 5) pa_nil)))))
      (pss_cons (ps_if (pt_cmpR op_lt (pv 15) pe_int (nomark _))
      (pss_one (ps_ret pe_bl))
      pss_nil)
      (pss_one (ps_if (pt_cmpR op_gt (pv 15) (pv 12) (nomark _))
      (pss_cons (ps_set (i := 12) sc_law.nd rfl (by first | exact Or.inl rfl | exact Or.inr rfl) (pv 15))
      (pss_one (ps_dput hu (pv 11) (pv 6) (pv 13) rfl)))
      pss_nil))))))))))
      (pss_one (ps_ret (pe_cmpR op_eq (pe_call (ok_l_many T) (hr.mono (by decide)) rfl T.g_l_many T.F_l_many.kp T.b_l_many .nil pass0 (pa_cons (pv 1) (pa_cons (pv 11) (pa_cons (pv 5) pa_nil)))) (pv 5) (nomark _)))))))))))))), ?_⟩
    refine ⟨_, rfl, sa, ns, 0, rfl, hS, by decide, fun os Va H1 k1 nV hV ol1 ol2 => ?_⟩
    refine ⟨_, rfl, sa, ns, 1, rfl, k1.sqL hS, by decide, _, rfl, ?_⟩
    obtain ⟨pk, epk⟩ : ∃ pk : Nat, (if cellV ns 1 < 0 then -cellV ns 1 else cellV ns 1) = (pk : Int) := ⟨(if cellV ns 1 < 0 then -cellV ns 1 else cellV ns 1).toNat, by split <;> omega⟩
    rw [epk]
    refine ⟨_, rfl, Va, _, rfl, .inl (.inl (.inl hV)), fun Y nY => ?_⟩
    generalize h_H2 : upd H1 Y _ = H2
    have k_H2 : Kp H1 H2 := by rw [← h_H2]; exact .new nY
    have q_H2 := (congrFun h_H2 Y).symm.trans upd_same
    clear h_H2
    refine ⟨Y, os, rfl, .inl (.inl q_H2), by omega, fun p ws H3 k3 np hp hw => ?_⟩
    rw [SS_d] at hw
    obtain ⟨S, eS⟩ : ∃ S, SS os = S := ⟨_, rfl⟩
    have srt := SS_srt os
    have hSo : ∀ x ∈ S, x.1 < x.2.1 ∧ x.2.1 ≤ 11 := fun x hx => by
      have := SS_in (os := os) (x := x) (by rw [eS]; exact hx)
      exact ⟨this.1, by have := this.2.1; omega⟩
    have sl : S.length ≤ 12 := by
      have h1 := congrArg List.length (SS_eq os)
      rw [List.length_map, eS] at h1
      have h2 := str_len os
      omega
    rw [eS] at hw srt
    have dist : S.Pairwise (fun x y => x.1 ≠ y.1) := srt.imp_of_mem fun {x y} hx _ h => by
      have := hSo x hx
      omega
    have hwl := DpAll.len hw
    rw [List.length_map] at hwl
    have k13 := k_H2.trans k3
    have at4 : ∀ {G : Hp}, Kp H3 G → ∀ {i : Nat} {v : V}, ws[i]? = some v → ∃ (x : St4) (t : Addr), S[i]? = some x ∧ v = .ref t ∧ SqT K G t [.int (x.1 : Int), .int (x.2.1 : Int), .int x.2.2.1, .int x.2.2.2] := fun {G} kg {i v} hi => by
      have hil := (List.getElem?_eq_some_iff.mp hi).1
      have ez : S[i]? = some S[i] := List.getElem?_eq_getElem (by omega)
      obtain ⟨v', hv', dv⟩ := DpAll.get (kg.dpAll hw) (i := i) (d := dQ S[i]) (by rw [List.getElem?_map, ez]; rfl)
      rw [hi] at hv'
      cases hv'
      have dv : Dp K G v (.tuple [.int (S[i].1 : Int), .int (S[i].2.1 : Int), .int S[i].2.2.1, .int S[i].2.2.2]) := dv
      obtain ⟨t, rfl, st⟩ := dp_quad dv
      exact ⟨_, t, ez, rfl, st⟩
    refine ⟨rfl, fun B H4 k4 hB => ?_⟩
    have hbat := fun (k : Nat) (h : k < 13) => hvL_at (n := 13) (k := k) h
    generalize hvL 13 = tb at hB hbat
    have hV4 := (k13.trans k4).same _ _ rfl hV
    have eM : (hvs os (strN os (prs os))).sum = (((S.map fun x => hvN (gapS x)).sum : Nat) : Int) := by rw [SS_hvs, eS, sum_cast]
    obtain ⟨most, emost⟩ : ∃ most, (S.map fun x => hvN (gapS x)).sum = most := ⟨_, rfl⟩
    rw [emost] at eM
    refine ⟨fun σ' G => σ' = [some (.ref sa), some (.ref Va), some (.int (pk : Int)), some (.ref p), some (.ref B), some (.int (most : Int)), none, none, none, none, none, none, none, none, none, none] ∧ Kp H4 G, ?_, ?_⟩
    · refine ⟨_, rfl, Va, _, rfl, .inl (.inl (.inl hV4)), fun Y2 nY2 => ?_⟩
      generalize h_H5 : upd H4 Y2 _ = H5
      have k_H5 : Kp H4 H5 := by rw [← h_H5]; exact .new nY2
      have q_H5 := (congrFun h_H5 Y2).symm.trans upd_same
      clear h_H5
      refine ⟨Y2, os, rfl, .inl (.inl q_H5), by omega, fun H6 k6 => ?_⟩
      rw [eM]
      exact ⟨rfl, k_H5.trans k6⟩
    rintro σ' H6 ⟨rfl, k46⟩
    have k36 := k4.trans k46
    have hp6 := k36.same _ _ rfl hp
    have hB6 := k46.same _ _ rfl hB
    refine ⟨_, rfl, _, rfl, p, rfl, ⟨_, .inl (.inl hp6)⟩, fun D nD => ?_⟩
    refine lc_list (K := K) (a := p) (xs := ws) (fun i H' => Kp H6 H' ∧ H' D = some (.lst (((S.take i).map fun x => (hvN (gapS x) : Int)).map V.int))) ⟨Kp.new nD, upd_same⟩ (fun i H' _ ⟨kp, _⟩ => kp.sqL (.inl (.inl hp6))) ?_ ?_
    · rintro i v H' hi ⟨kp, hD⟩
      obtain ⟨x, t, ex, rfl, st⟩ := at4 (k36.trans kp) hi
      have hx := hSo x (List.mem_of_getElem? ex)
      have ab := hbat (x.2.1 - x.1) (by omega)
      rw [show ((x.2.1 - x.1 : Nat) : Int) = (x.2.1 : Int) - (x.1 : Int) by omega] at ab
      refine ⟨t, _, rfl, st, rfl, _, _, rfl, _, _, rfl, _, _, rfl, _, _, rfl, rfl, rfl, ?_⟩
      refine ⟨_, rfl, _, rfl, _, rfl, _, _, rfl, rfl, B, _, _, _, rfl, rfl, .inl (.inl (kp.same _ _ rfl hB6)), ab, _, hD, szt (by rw [List.length_map, List.length_map, List.length_take]; omega), kp.mut nD, ?_⟩
      rw [upd_same, take_snoc ex, List.map_append, List.map_append]
      rfl
    rintro H7 ⟨k67, hD⟩
    rw [hwl, List.take_length] at hD
    refine ⟨D, _, rfl, .inl (.inl hD), rfl, _, rfl, iteN (fun c => absurd (by rw [sum_cast, emost]) c) (fun _ => ?_)⟩
    have k37 := k36.trans k67
    have hp7 := k37.same _ _ rfl hp
    -- the slips
    intro SD nSD
    generalize h_H8 : upd H7 SD _ = H8
    have k_H8 : Kp H7 H8 := by rw [← h_H8]; exact .new nSD
    have q_H8 := (congrFun h_H8 SD).symm.trans upd_same
    clear h_H8
    refine ⟨_, rfl, p, rfl, ⟨_, .inl (.inl (k_H8.same _ _ rfl hp7))⟩, for_list (K := K) (a := p) (xs := ws) (fun i σ G => ∃ (y6 y7 y8 y9 : Option V) (f : Nat → Nat), σ = [some (.ref sa), some (.ref Va), some (.int (pk : Int)), some (.ref p), some (.ref B), some (.int (most : Int)), y6, y7, y8, y9, some (.ref SD), none, none, none, none, none] ∧ Kp H7 G ∧ G SD = some (.dK (kvF (S.take i) f)) ∧ OkF (S.take i) f)
      ⟨none, none, none, none, fun _ => 0, rfl, k_H8, q_H8, fun x hx => absurd hx List.not_mem_nil⟩ (fun i σ G _ ⟨_, _, _, _, _, _, kg, _⟩ => .inl (.inl (kg.same _ _ rfl hp7))) ?_ ?_⟩
    · rintro i v σ G hi ⟨y6, y7, y8, y9, f, rfl, kg, hSD, of⟩
      obtain ⟨x, t, ex, rfl, st⟩ := at4 (k37.trans kg) hi
      have hxm := List.mem_of_getElem? ex
      have hx := hSo x hxm
      have hil := (List.getElem?_eq_some_iff.mp ex).1
      have m0 := Int.emod_nonneg (pk : Int) (b := (x.2.1 : Int) - (x.1 : Int)) (by omega)
      have m1 := Int.emod_lt_of_pos (pk : Int) (b := (x.2.1 : Int) - (x.1 : Int)) (by omega)
      obtain ⟨vN, ev⟩ : ∃ vN : Nat, (x.1 : Int) + 1 + (pk : Int) % ((x.2.1 : Int) - (x.1 : Int)) = (vN : Int) := ⟨((x.1 : Int) + 1 + (pk : Int) % ((x.2.1 : Int) - (x.1 : Int))).toNat, by omega⟩
      refine ⟨t, _, rfl, st, rfl, _, _, rfl, _, _, rfl, _, _, rfl, _, _, rfl, rfl, ?_⟩
      refine ⟨_, rfl, _, _, rfl, rfl, _, rfl, _, rfl, _, rfl, _, _, rfl, rfl, _, _, rfl, rfl, (by show (0 : Int) < (x.2.1 : Int) - (x.1 : Int); omega), _, _, rfl, rfl, _, rfl, _, rfl, SD, _, rfl, DPut.k (k := Sum.inl (x.1 : Int)) hSD (szt (by unfold kvF; rw [List.length_map, List.length_take]; omega)), ?_⟩
      have ek : putK (kvF (S.take i) f) (Sum.inl (x.1 : Int)) (.int ((x.1 : Int) + 1 + (pk : Int) % ((x.2.1 : Int) - (x.1 : Int)))) = kvF (S.take (i + 1)) (upF f x.1 vN) := by
        rw [ev, put_new16 (kvF_ne dist ex), kvF_new dist ex]
      refine ⟨_, _, _, _, upF f x.1 vN, rfl, kg.mut nSD, upd_same.trans (congrArg (fun l => some (HO.dK l)) ek), ?_⟩
      rw [take_snoc ex]
      intro y hy
      rcases List.mem_append.mp hy with hy | hy
      · exact okF_up (S := S) of ⟨by omega, by omega⟩ (fun y hy => List.mem_of_mem_take hy) (fun y hy e => uniq16 dist hxm hy e) y hy
      · rw [List.mem_singleton.mp hy]
        unfold upF
        rw [if_pos rfl]
        omega
    rintro σ H9 ⟨y6, y7, y8, y9, f, rfl, k79, hSD, of⟩
    rw [hwl, List.take_length] at hSD of
    -- the worst
    intro WD nWD
    generalize h_H10 : upd H9 WD _ = H10
    have k_H10 : Kp H9 H10 := by rw [← h_H10]; exact .new nWD
    have q_H10 := (congrFun h_H10 WD).symm.trans upd_same
    clear h_H10
    have k39 := k37.trans k79
    have hp9 := k39.same _ _ rfl hp
    have hV9 := (k13.trans k39).same _ _ rfl hV
    refine ⟨_, rfl, p, rfl, ⟨_, .inl (.inl (k_H10.same _ _ rfl hp9))⟩, for_list (K := K) (a := p) (xs := ws) (fun i σ G => ∃ (y6 y7 y8 y9 y12 y13 y14 y15 : Option V) (wf : Nat → Nat), σ = [some (.ref sa), some (.ref Va), some (.int (pk : Int)), some (.ref p), some (.ref B), some (.int (most : Int)), y6, y7, y8, y9, some (.ref SD), some (.ref WD), y12, y13, y14, y15] ∧ Kp H9 G ∧ G WD = some (.dK (kvF (S.take i) wf)) ∧ OkF (S.take i) wf ∧ ∀ x ∈ S.take i, cs wf x = hvN (gapS x))
      ⟨_, _, _, _, none, none, none, none, fun _ => 0, rfl, k_H10, q_H10, fun x hx => absurd hx List.not_mem_nil, fun x hx => absurd hx List.not_mem_nil⟩ (fun i σ G _ ⟨_, _, _, _, _, _, _, _, _, _, kg, _⟩ => .inl (.inl (kg.same _ _ rfl hp9))) ?_ ?_⟩
    · rintro i v σ G hi ⟨y6, y7, y8, y9, y12, y13, y14, y15, wf, rfl, kg, hWD, ow, cw⟩
      obtain ⟨x, t, ex, rfl, st⟩ := at4 (k39.trans kg) hi
      have hxm := List.mem_of_getElem? ex
      have hx := hSo x hxm
      have hil := (List.getElem?_eq_some_iff.mp ex).1
      obtain ⟨g, eg⟩ : ∃ g, x.2.1 - x.1 = g := ⟨_, rfl⟩
      have hx1 := hx.1
      have hx2 := hx.2
      refine ⟨t, _, rfl, st, rfl, _, _, rfl, _, _, rfl, _, _, rfl, _, _, rfl, rfl, ?_⟩
      refine ⟨_, _, rfl, rfl, ?_⟩
      refine ⟨_, rfl, _, _, rfl, rfl, _, rfl, _, _, rfl, rfl, (x.1 : Int) + 1, _, rfl, ⟨by omega, by omega, by omega, by omega⟩, ?_⟩
      refine for_range (lo := (x.1 : Int) + 1) (n := ((x.2.1 : Int) + 1 - ((x.1 : Int) + 1)).toNat) (fun j σ G => ∃ (y13 y14 y15 : Option V) (b : Int), σ = [some (.ref sa), some (.ref Va), some (.int (pk : Int)), some (.ref p), some (.ref B), some (.int (most : Int)), some (.int (x.1 : Int)), some (.int (x.2.1 : Int)), some (.int x.2.2.1), some (.int x.2.2.2), some (.ref SD), some (.ref WD), some (.int b), y13, y14, y15] ∧ Kp H9 G ∧ ((j = 0 ∧ b = -1 ∧ G WD = some (.dK (kvF (S.take i) wf))) ∨ ∃ w : Nat, 1 ≤ w ∧ w ≤ j ∧ b = ((rest16 S f i + cst 5 g w : Nat) : Int) ∧ (∀ o, 1 ≤ o → o ≤ j → cst 5 g o ≤ cst 5 g w) ∧ G WD = some (.dK (kvF (S.take i) wf ++ [(Sum.inl (x.1 : Int), .int ((x.1 + w : Nat) : Int))]))))
        ⟨_, _, _, -1, rfl, kg, .inl ⟨rfl, rfl, hWD⟩⟩ ?_ ?_
      · rintro j σ G hj ⟨y13, y14, y15, b, rfl, kg, hb⟩
        obtain ⟨pn, epn⟩ : ∃ pn, x.1 + (j + 1) = pn := ⟨_, rfl⟩
        rw [show (x.1 : Int) + 1 + (j : Int) = (pn : Int) by omega]
        have hSDg := kg.same _ _ rfl hSD
        refine ⟨_, rfl, SD, _, rfl, .inl hSDg, fun TD nTD => ?_⟩
        generalize h_G2 : upd G TD _ = G2
        have k_G2 : Kp G G2 := by rw [← h_G2]; exact .new nTD
        have q_G2 := (congrFun h_G2 TD).symm.trans upd_same
        clear h_G2
        refine ⟨_, rfl, _, rfl, _, rfl, TD, _, rfl, DPut.k (k := Sum.inl (x.1 : Int)) q_G2 (szt (by unfold kvF; rw [List.length_map]; omega)), ?_⟩
        have ek : putK (kvF S f) (Sum.inl (x.1 : Int)) (.int (pn : Int)) = kvZ (Zf S (upF f x.1 pn)) := by
          rw [Zf_kv]
          exact put_map16 ⟨x, hxm, rfl⟩
        obtain ⟨G3, e3⟩ : ∃ G3, G3 = upd G2 TD (.dK (putK (kvF S f) (Sum.inl (x.1 : Int)) (.int (pn : Int)))) := ⟨_, rfl⟩
        have k03 : Kp G G3 := by rw [e3]; exact k_G2.mut nTD
        have hTD : G3 TD = some (.dK (kvZ (Zf S (upF f x.1 pn)))) := by rw [e3, upd_same, ek]
        rw [← e3]
        have of' : OkF S (upF f x.1 pn) := okF_up (S := S) of ⟨by omega, by omega⟩ (fun y hy => hy) (fun y hy e => uniq16 dist hxm hy e)
        have tot := tot_up (f := f) (v := pn) dist ex
        rw [eg, show pn - x.1 = j + 1 by omega] at tot
        have tle : ((Zf S (upF f x.1 pn)).map zc).sum ≤ most := by
          rw [Zf_tot, ← emost]
          exact sum_le16 fun y hy => cs_hv (hSo y hy).1 (by have := hSo y hy; omega) (of' y hy).2
        refine ⟨_, rfl, _, rfl, _, rfl, Va, TD, os, Zf S (upF f x.1 pn), most, rfl, (kg.trans k03).same _ _ rfl hV9, hTD, ol2, by rw [Zf_toS]; exact eS, zf_ok hSo of', tle, fun G4 k34 => ?_⟩
        rw [tot]
        have k04 := k03.trans k34
        have kg4 := kg.trans k04
        refine ⟨_, rfl, _, _, rfl, rfl, _, rfl, iteFo (decide_eq_false (by show ¬ (((rest16 S f i + cst 5 g (j + 1) : Nat) : Int)) < 0; omega)) ?_⟩
        refine ⟨_, rfl, _, rfl, _, _, rfl, rfl, _, rfl, iteD (fun c => ?_) (fun c => ?_)⟩
        · have c : b < (((rest16 S f i + cst 5 g (j + 1) : Nat) : Int)) := c
          refine ⟨_, rfl, ?_⟩
          obtain ⟨kvs, h1, h2, h3, h4⟩ : ∃ kvs, G4 WD = some (.dK kvs) ∧ kvs.length ≤ 13 ∧ putK kvs (Sum.inl (x.1 : Int)) (.int (pn : Int)) = kvF (S.take i) wf ++ [(Sum.inl (x.1 : Int), .int ((x.1 + (j + 1) : Nat) : Int))] ∧ (∀ o, 1 ≤ o → o ≤ j + 1 → cst 5 g o ≤ cst 5 g (j + 1)) := by
            rcases hb with ⟨hj0, hb1, hW⟩ | ⟨w, w1, w2, w3, w4, hW⟩
            · refine ⟨_, k04.same _ _ rfl hW, by unfold kvF; rw [List.length_map, List.length_take]; omega, ?_, fun o o1 o2 => by rw [show o = j + 1 by omega]; exact Nat.le_refl _⟩
              rw [put_new16 (kvF_ne dist ex), epn]
            · refine ⟨_, k04.same _ _ rfl hW, by rw [List.length_append]; unfold kvF; rw [List.length_map, List.length_take]; show _ + 1 ≤ 13; omega, ?_, fun o o1 o2 => ?_⟩
              · rw [put_last16 (kvF_ne dist ex), epn]
              · rcases Nat.lt_or_ge o (j + 1) with z | z
                · have := w4 o o1 (by omega)
                  omega
                · rw [show o = j + 1 by omega]
                  exact Nat.le_refl _
          exact ⟨_, rfl, _, rfl, _, rfl, WD, _, rfl, DPut.k (k := Sum.inl (x.1 : Int)) h1 (szt (by omega)), _, _, _, _, rfl, kg4.mut nWD, .inr ⟨j + 1, by omega, Nat.le_refl _, rfl, h4, upd_same.trans (congrArg (fun l => some (HO.dK l)) h3)⟩⟩
        · have c : ¬ b < (((rest16 S f i + cst 5 g (j + 1) : Nat) : Int)) := c
          rcases hb with ⟨hj0, hb1, hW⟩ | ⟨w, w1, w2, w3, w4, hW⟩
          · omega
          · refine ⟨_, _, _, b, rfl, kg4, .inr ⟨w, w1, by omega, w3, fun o o1 o2 => ?_, k04.same _ _ rfl hW⟩⟩
            rcases Nat.lt_or_ge o (j + 1) with z | z
            · exact w4 o o1 (by omega)
            · rw [show o = j + 1 by omega]
              omega
      · rintro σ G ⟨y13, y14, y15, b, rfl, kg, hb⟩
        rcases hb with ⟨hj0, _⟩ | ⟨w, w1, w2, w3, w4, hW⟩
        · omega
        · have w2 : w ≤ g := by omega
          obtain ⟨o, o1, o2, o3⟩ := cst_max ⟨g, by omega⟩ (by show 1 ≤ g; omega)
          have o2 : o.val ≤ g := o2
          have o3 : cst 5 g o.val = hvN (g : Int) := o3
          have h1 := w4 o.val o1 (by omega)
          have h2 := cst_hv ⟨g, by omega⟩ ⟨w, by omega⟩
          have h2 : cst 5 g w ≤ hvN (g : Int) := h2
          refine ⟨_, _, _, _, _, _, _, _, upF wf x.1 (x.1 + w), rfl, kg, by rw [hW, kvF_new dist ex], ?_, ?_⟩
          · rw [take_snoc ex]
            intro y hy
            rcases List.mem_append.mp hy with hy | hy
            · exact okF_up (S := S) ow ⟨by omega, by omega⟩ (fun y hy => List.mem_of_mem_take hy) (fun y hy e => uniq16 dist hxm hy e) y hy
            · rw [List.mem_singleton.mp hy]
              unfold upF
              rw [if_pos rfl]
              omega
          · rw [take_snoc ex]
            intro y hy
            rcases List.mem_append.mp hy with hy | hy
            · rw [← cw y hy]
              unfold cs upF
              rw [if_neg ((at_ne16 dist ex).1 y hy)]
            · rw [List.mem_singleton.mp hy]
              unfold cs upF gapS
              rw [if_pos rfl, eg, show x.1 + w - x.1 = w by omega, show (x.2.1 : Int) - (x.1 : Int) = (g : Int) by omega]
              omega
    rintro σ G ⟨y6, y7, y8, y9, y12, y13, y14, y15, wf, rfl, kg, hWD, ow, cw⟩
    rw [hwl, List.take_length] at hWD ow cw
    have totw : ((Zf S wf).map zc).sum = most := by
      rw [Zf_tot, ← emost]
      exact congrArg List.sum (List.map_congr_left cw)
    refine ⟨_, rfl, _, rfl, _, rfl, Va, WD, os, Zf S wf, most, rfl, kg.same _ _ rfl hV9, by rw [Zf_kv]; exact hWD, ol2, by rw [Zf_toS]; exact eS, zf_ok hSo ow, Nat.le_of_eq totw, fun G4 k4 => ?_⟩
    rw [totw]
    refine ⟨_, rfl, rfl, ?_⟩
    rw [decide_eq_true rfl]
    exact k _
end
theorem all_mk {l : PySem.W.OpenLaw} {w : World} {K : PySem.W.Frag} {h : Heap} {mg : Str → Option Value} {fa : Addr} (X : K.In h) (G : h.Ns mainGlobals mg) (hfa : mg "law" = some (.ref fa))
    {f1 : Addr} {od1 an1 : Option Addr} {sl1 : Array (Option Value)} {oc1 kV1 dc1 pm1 cd1 ct1 : Value}
    {f2 : Addr} {od2 an2 : Option Addr} {sl2 : Array (Option Value)} {oc2 kV2 dc2 pm2 cd2 ct2 : Value}
    {f3 : Addr} {od3 an3 : Option Addr} {sl3 : Array (Option Value)} {oc3 kV3 dc3 pm3 cd3 ct3 : Value}
    {f4 : Addr} {od4 an4 : Option Addr} {sl4 : Array (Option Value)} {oc4 kV4 dc4 pm4 cd4 ct4 : Value}
    {f5 : Addr} {od5 an5 : Option Addr} {sl5 : Array (Option Value)} {oc5 kV5 dc5 pm5 cd5 ct5 : Value}
    {f6 : Addr} {od6 an6 : Option Addr} {sl6 : Array (Option Value)} {oc6 kV6 dc6 pm6 cd6 ct6 : Value}
    {f7 : Addr} {od7 an7 : Option Addr} {sl7 : Array (Option Value)} {oc7 kV7 dc7 pm7 cd7 ct7 : Value}
    {f8 : Addr} {od8 an8 : Option Addr} {sl8 : Array (Option Value)} {oc8 kV8 dc8 pm8 cd8 ct8 : Value}
    {f9 : Addr} {od9 an9 : Option Addr} {sl9 : Array (Option Value)} {oc9 kV9 dc9 pm9 cd9 ct9 : Value}
    {f10 : Addr} {od10 an10 : Option Addr} {sl10 : Array (Option Value)} {oc10 kV10 dc10 pm10 cd10 ct10 : Value}
    {f11 : Addr} {od11 an11 : Option Addr} {sl11 : Array (Option Value)} {oc11 kV11 dc11 pm11 cd11 ct11 : Value}
    {f12 : Addr} {od12 an12 : Option Addr} {sl12 : Array (Option Value)} {oc12 kV12 dc12 pm12 cd12 ct12 : Value}
    (a1 : PySem.W.nsIn K mainGlobals "stretches" = some (some (.ref f1)))
    (l1 : K.lookup f1 = some ⟨oc1, od1, .func (PySem.W.fnOf "stretches" "stretches" (defArgs s_p_stretches) (defBody s_p_stretches) (defScope s_p_stretches) .none kV1 dc1 pm1 an1 cd1 ct1), sl1⟩)
    (c1 : PySem.W.codeIn K cd1 "stretches" = true)
    (k1 : PySem.W.keepIn K (.ref f1) = true)
    (a2 : PySem.W.nsIn K mainGlobals "halvings" = some (some (.ref f2)))
    (l2 : K.lookup f2 = some ⟨oc2, od2, .func (PySem.W.fnOf "halvings" "halvings" (defArgs s_p_halvings) (defBody s_p_halvings) (defScope s_p_halvings) .none kV2 dc2 pm2 an2 cd2 ct2), sl2⟩)
    (c2 : PySem.W.codeIn K cd2 "halvings" = true)
    (k2 : PySem.W.keepIn K (.ref f2) = true)
    (a3 : PySem.W.nsIn K mainGlobals "askings" = some (some (.ref f3)))
    (l3 : K.lookup f3 = some ⟨oc3, od3, .func (PySem.W.fnOf "askings" "askings" (defArgs s_p_askings) (defBody s_p_askings) (defScope s_p_askings) .none kV3 dc3 pm3 an3 cd3 ct3), sl3⟩)
    (c3 : PySem.W.codeIn K cd3 "askings" = true)
    (k3 : PySem.W.keepIn K (.ref f3) = true)
    (a4 : PySem.W.nsIn K mainGlobals "to_ask" = some (some (.ref f4)))
    (l4 : K.lookup f4 = some ⟨oc4, od4, .func (PySem.W.fnOf "to_ask" "to_ask" (defArgs s_p_to_ask) (defBody s_p_to_ask) (defScope s_p_to_ask) .none kV4 dc4 pm4 an4 cd4 ct4), sl4⟩)
    (c4 : PySem.W.codeIn K cd4 "to_ask" = true)
    (k4 : PySem.W.keepIn K (.ref f4) = true)
    (a5 : PySem.W.nsIn K mainGlobals "_law_cell" = some (some (.ref f5)))
    (l5 : K.lookup f5 = some ⟨oc5, od5, .func (PySem.W.fnOf "_law_cell" "_law_cell" (defArgs s_l_cell) (defBody s_l_cell) (defScope s_l_cell) .none kV5 dc5 pm5 an5 cd5 ct5), sl5⟩)
    (c5 : PySem.W.codeIn K cd5 "_law_cell" = true)
    (k5 : PySem.W.keepIn K (.ref f5) = true)
    (a6 : PySem.W.nsIn K mainGlobals "_law_row" = some (some (.ref f6)))
    (l6 : K.lookup f6 = some ⟨oc6, od6, .func (PySem.W.fnOf "_law_row" "_law_row" (defArgs s_l_row) (defBody s_l_row) (defScope s_l_row) .none kV6 dc6 pm6 an6 cd6 ct6), sl6⟩)
    (c6 : PySem.W.codeIn K cd6 "_law_row" = true)
    (k6 : PySem.W.keepIn K (.ref f6) = true)
    (a7 : PySem.W.nsIn K mainGlobals "_law_values" = some (some (.ref f7)))
    (l7 : K.lookup f7 = some ⟨oc7, od7, .func (PySem.W.fnOf "_law_values" "_law_values" (defArgs s_l_values) (defBody s_l_values) (defScope s_l_values) .none kV7 dc7 pm7 an7 cd7 ct7), sl7⟩)
    (c7 : PySem.W.codeIn K cd7 "_law_values" = true)
    (k7 : PySem.W.keepIn K (.ref f7) = true)
    (a8 : PySem.W.nsIn K mainGlobals "_law_best" = some (some (.ref f8)))
    (l8 : K.lookup f8 = some ⟨oc8, od8, .func (PySem.W.fnOf "_law_best" "_law_best" (defArgs s_l_best) (defBody s_l_best) (defScope s_l_best) .none kV8 dc8 pm8 an8 cd8 ct8), sl8⟩)
    (c8 : PySem.W.codeIn K cd8 "_law_best" = true)
    (k8 : PySem.W.keepIn K (.ref f8) = true)
    (a9 : PySem.W.nsIn K mainGlobals "_law_truth" = some (some (.ref f9)))
    (l9 : K.lookup f9 = some ⟨oc9, od9, .func (PySem.W.fnOf "_law_truth" "_law_truth" (defArgs s_l_truth) (defBody s_l_truth) (defScope s_l_truth) .none kV9 dc9 pm9 an9 cd9 ct9), sl9⟩)
    (c9 : PySem.W.codeIn K cd9 "_law_truth" = true)
    (k9 : PySem.W.keepIn K (.ref f9) = true)
    (a10 : PySem.W.nsIn K mainGlobals "_law_asked" = some (some (.ref f10)))
    (l10 : K.lookup f10 = some ⟨oc10, od10, .func (PySem.W.fnOf "_law_asked" "_law_asked" (defArgs s_l_asked) (defBody s_l_asked) (defScope s_l_asked) .none kV10 dc10 pm10 an10 cd10 ct10), sl10⟩)
    (c10 : PySem.W.codeIn K cd10 "_law_asked" = true)
    (k10 : PySem.W.keepIn K (.ref f10) = true)
    (a11 : PySem.W.nsIn K mainGlobals "_law_many" = some (some (.ref f11)))
    (l11 : K.lookup f11 = some ⟨oc11, od11, .func (PySem.W.fnOf "_law_many" "_law_many" (defArgs s_l_many) (defBody s_l_many) (defScope s_l_many) .none kV11 dc11 pm11 an11 cd11 ct11), sl11⟩)
    (c11 : PySem.W.codeIn K cd11 "_law_many" = true)
    (k11 : PySem.W.keepIn K (.ref f11) = true)
    (a12 : PySem.W.nsIn K mainGlobals "law" = some (some (.ref f12)))
    (l12 : K.lookup f12 = some ⟨oc12, od12, .func (PySem.W.fnOf "law" "law" (defArgs s_law) (defBody s_law) (defScope s_law) .none kV12 dc12 pm12 an12 cd12 ct12), sl12⟩)
    (c12 : PySem.W.codeIn K cd12 "law" = true)
    (k12 : PySem.W.keepIn K (.ref f12) = true)
    (z_zip : PySem.W.nsIn K mainGlobals "zip" = some none)
    (z_enumerate : PySem.W.nsIn K mainGlobals "enumerate" = some none)
    (z_max : PySem.W.nsIn K mainGlobals "max" = some none)
    (z_sum : PySem.W.nsIn K mainGlobals "sum" = some none)
    (z_len : PySem.W.nsIn K mainGlobals "len" = some none)
    (z_range : PySem.W.nsIn K mainGlobals "range" = some none)
    (z_min : PySem.W.nsIn K mainGlobals "min" = some none)
    (z_list : PySem.W.nsIn K mainGlobals "list" = some none)
    (z_sorted : PySem.W.nsIn K mainGlobals "sorted" = some none)
    (z_abs : PySem.W.nsIn K mainGlobals "abs" = some none)
    (z_dict : PySem.W.nsIn K mainGlobals "dict" = some none) :
    ∃ fd : FuncData, (∀ (s : Shared) (v : Value), BindsTo s fd ⟨[v], []⟩ [("_law_script", v)]) ∧ ∀ base : Heap, K.In base → base.Ns mainGlobals mg → FnOk l.prog w K mg base CX0 10 fa fd ["_law_script"] (sp_law K) := by
  have e := hfa.symm.trans (PySem.W.mg_of X G a12)
  cases e
  let T : Txt K mg :=
    { f_p_stretches := f1,
      d_p_stretches := _,
      F_p_stretches := fun_mk (st := s_p_stretches) l1 c1 k1,
      b_p_stretches := (fun_mk (st := s_p_stretches) l1 c1 k1).binds (ps := ["values"]) fun _ _ _ _ _ _ us hl => match us, hl with | [_], _ => rfl,
      g_p_stretches := PySem.W.mg_of X G a1,
      f_p_halvings := f2,
      d_p_halvings := _,
      F_p_halvings := fun_mk (st := s_p_halvings) l2 c2 k2,
      b_p_halvings := (fun_mk (st := s_p_halvings) l2 c2 k2).binds (ps := ["gaps"]) fun _ _ _ _ _ _ us hl => match us, hl with | [_], _ => rfl,
      g_p_halvings := PySem.W.mg_of X G a2,
      f_p_askings := f3,
      d_p_askings := _,
      F_p_askings := fun_mk (st := s_p_askings) l3 c3 k3,
      b_p_askings := (fun_mk (st := s_p_askings) l3 c3 k3).binds (ps := ["values"]) fun _ _ _ _ _ _ us hl => match us, hl with | [_], _ => rfl,
      g_p_askings := PySem.W.mg_of X G a3,
      f_p_to_ask := f4,
      d_p_to_ask := _,
      F_p_to_ask := fun_mk (st := s_p_to_ask) l4 c4 k4,
      b_p_to_ask := (fun_mk (st := s_p_to_ask) l4 c4 k4).binds (ps := ["values"]) fun _ _ _ _ _ _ us hl => match us, hl with | [_], _ => rfl,
      g_p_to_ask := PySem.W.mg_of X G a4,
      f_l_cell := f5,
      d_l_cell := _,
      F_l_cell := fun_mk (st := s_l_cell) l5 c5 k5,
      b_l_cell := (fun_mk (st := s_l_cell) l5 c5 k5).binds (ps := ["_law_script", "_law_at"]) fun _ _ _ _ _ _ us hl => match us, hl with | [_, _], _ => rfl,
      g_l_cell := PySem.W.mg_of X G a5,
      f_l_row := f6,
      d_l_row := _,
      F_l_row := fun_mk (st := s_l_row) l6 c6 k6,
      b_l_row := (fun_mk (st := s_l_row) l6 c6 k6).binds (ps := ["_law_cell_here", "_law_many_here", "_law_size"]) fun _ _ _ _ _ _ us hl => match us, hl with | [_, _, _], _ => rfl,
      g_l_row := PySem.W.mg_of X G a6,
      f_l_values := f7,
      d_l_values := _,
      F_l_values := fun_mk (st := s_l_values) l7 c7 k7,
      b_l_values := (fun_mk (st := s_l_values) l7 c7 k7).binds (ps := ["_law_script", "_law_at", "_law_most"]) fun _ _ _ _ _ _ us hl => match us, hl with | [_, _, _], _ => rfl,
      g_l_values := PySem.W.mg_of X G a7,
      f_l_best := f8,
      d_l_best := _,
      F_l_best := fun_mk (st := s_l_best) l8 c8 k8,
      b_l_best := (fun_mk (st := s_l_best) l8 c8 k8).binds (ps := ["_law_most"]) fun _ _ _ _ _ _ us hl => match us, hl with | [_], _ => rfl,
      g_l_best := PySem.W.mg_of X G a8,
      f_l_truth := f9,
      d_l_truth := _,
      F_l_truth := fun_mk (st := s_l_truth) l9 c9 k9,
      b_l_truth := (fun_mk (st := s_l_truth) l9 c9 k9).binds (ps := ["_law_values_here", "_law_slips"]) fun _ _ _ _ _ _ us hl => match us, hl with | [_, _], _ => rfl,
      g_l_truth := PySem.W.mg_of X G a9,
      f_l_asked := f10,
      d_l_asked := _,
      F_l_asked := fun_mk (st := s_l_asked) l10 c10 k10,
      b_l_asked := (fun_mk (st := s_l_asked) l10 c10 k10).binds (ps := ["_law_values_here", "_law_truth_here", "_law_most"]) fun _ _ _ _ _ _ us hl => match us, hl with | [_, _, _], _ => rfl,
      g_l_asked := PySem.W.mg_of X G a10,
      f_l_many := f11,
      d_l_many := _,
      F_l_many := fun_mk (st := s_l_many) l11 c11 k11,
      b_l_many := (fun_mk (st := s_l_many) l11 c11 k11).binds (ps := ["_law_values_here", "_law_slips", "_law_most"]) fun _ _ _ _ _ _ us hl => match us, hl with | [_, _, _], _ => rfl,
      g_l_many := PySem.W.mg_of X G a11,
      m_zip := PySem.W.mg_none_of X G z_zip,
      m_enumerate := PySem.W.mg_none_of X G z_enumerate,
      m_max := PySem.W.mg_none_of X G z_max,
      m_sum := PySem.W.mg_none_of X G z_sum,
      m_len := PySem.W.mg_none_of X G z_len,
      m_range := PySem.W.mg_none_of X G z_range,
      m_min := PySem.W.mg_none_of X G z_min,
      m_list := PySem.W.mg_none_of X G z_list,
      m_sorted := PySem.W.mg_none_of X G z_sorted,
      m_abs := PySem.W.mg_none_of X G z_abs,
      m_dict := PySem.W.mg_none_of X G z_dict }
  exact ⟨PySem.W.fnOf "law" "law" (defArgs s_law) (defBody s_law) (defScope s_law) .none kV12 dc12 pm12 an12 cd12 ct12, fun s v => .of_eq rfl, fun base _ _ => ok_law T (fun_mk (st := s_law) l12 c12 k12)⟩
end Mw
open PySem PySem.W PyProof.Rows
set_option maxRecDepth 100000 in
set_option maxHeartbeats 0 in
theorem PySem.Challenge.cw_mastword_k16_whole_fewest_askings_holds : PySem.Challenge.rw_mastword_k16_whole_fewest_askings.Holds := by
  w_on; o_law; k_head; (case hw => w_witness2)
  k_fill
  refine L2.walk_of (l := PySem.Challenge.rw_mastword_k16_whole_fewest_askings) (n := 63) (k := 10) (x := "_law_script") (CX := fun _ => L2.CX0) (sp := fun w => Mw.sp_law _) rfl (by decide) rfl ⟨rfl, by decide, by decide⟩ (fun w h Y => PySem.W.kIn_of Y) ?F (fun _ _ a ns hl _ hS => ⟨a, ns, rfl, hS, hl, fun _ => rfl⟩) (fun _ _ _ _ _ h => h)
  case F =>
    intro w mg fa h KX G hmg
    refine' Mw.all_mk KX G hmg ?a1 ?l1 ?c1 ?k1 ?a2 ?l2 ?c2 ?k2 ?a3 ?l3 ?c3 ?k3 ?a4 ?l4 ?c4 ?k4 ?a5 ?l5 ?c5 ?k5 ?a6 ?l6 ?c6 ?k6 ?a7 ?l7 ?c7 ?k7 ?a8 ?l8 ?c8 ?k8 ?a9 ?l9 ?c9 ?k9 ?a10 ?l10 ?c10 ?k10 ?a11 ?l11 ?c11 ?k11 ?a12 ?l12 ?c12 ?k12 ?z_zip ?z_enumerate ?z_max ?z_sum ?z_len ?z_range ?z_min ?z_list ?z_sorted ?z_abs ?z_dict
    (case a1 => k_is)
    (case l1 => k_is)
    (case c1 => k_is)
    (case k1 => k_is)
    (case a2 => k_is)
    (case l2 => k_is)
    (case c2 => k_is)
    (case k2 => k_is)
    (case a3 => k_is)
    (case l3 => k_is)
    (case c3 => k_is)
    (case k3 => k_is)
    (case a4 => k_is)
    (case l4 => k_is)
    (case c4 => k_is)
    (case k4 => k_is)
    (case a5 => k_is)
    (case l5 => k_is)
    (case c5 => k_is)
    (case k5 => k_is)
    (case a6 => k_is)
    (case l6 => k_is)
    (case c6 => k_is)
    (case k6 => k_is)
    (case a7 => k_is)
    (case l7 => k_is)
    (case c7 => k_is)
    (case k7 => k_is)
    (case a8 => k_is)
    (case l8 => k_is)
    (case c8 => k_is)
    (case k8 => k_is)
    (case a9 => k_is)
    (case l9 => k_is)
    (case c9 => k_is)
    (case k9 => k_is)
    (case a10 => k_is)
    (case l10 => k_is)
    (case c10 => k_is)
    (case k10 => k_is)
    (case a11 => k_is)
    (case l11 => k_is)
    (case c11 => k_is)
    (case k11 => k_is)
    (case a12 => k_is)
    (case l12 => k_is)
    (case c12 => k_is)
    (case k12 => k_is)
    (case z_zip => k_is)
    (case z_enumerate => k_is)
    (case z_max => k_is)
    (case z_sum => k_is)
    (case z_len => k_is)
    (case z_range => k_is)
    (case z_min => k_is)
    (case z_list => k_is)
    (case z_sorted => k_is)
    (case z_abs => k_is)
    (case z_dict => k_is)
