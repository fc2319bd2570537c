import PyProof.Rows.All
import Wide.All
import OpenK.AllK
import Wide.FinOn
import HandS.ForMost
import HandS.ForExc
import HandS.AnyAll
import HandS.EndTab
import HandS.ExcIs
import HandS.ExcField
import HandS.ExcInit
import HandS.IsInst
import HandS.Conv
import HandS.Replace
import HandS.Flow
import HandS.Walk
import HandS.Evl
import KE.KExcIs
import HandS.EndOwn
import HandS.CallRecv
import HandS.Style
import HandS.SortKw
import KE.DataMinMax
import PySem.Challenge.RW_mastword_k13_what_must_be_freed
set_option Elab.async false
set_option linter.all false
set_option maxRecDepth 100000
set_option maxHeartbeats 2000000
namespace Mw
open PySem PySem.Spec PyProof.Rows L2
/-! ### what is kept: every tracked thing but the tables of code objects, which stay tables -/
def isT : HO → Bool
  | .tbl _ => true
  | _ => false
structure Kp (H H' : Hp) : Prop where
  same : ∀ a o, isT o = false → H a = some o → H' a = some o
  tab : ∀ a, GxR.TabG H a → GxR.TabG H' a
  free : ∀ a, H' a = none → H a = none
theorem Kp.refl (H : Hp) : Kp H H := ⟨fun _ _ _ h => h, fun _ h => h, fun _ h => h⟩
theorem Kp.trans {H H1 H2 : Hp} (a : Kp H H1) (b : Kp H1 H2) : Kp H H2 :=
  ⟨fun x o t h => b.same x o t (a.same x o t h), fun x h => b.tab x (a.tab x h), fun x h => a.free x (b.free x h)⟩
theorem Kp.mut {H H' : Hp} {p : Addr} {o : HO} (e : Kp H H') (h : H p = none) : Kp H (upd H' p o) := by
  refine ⟨fun a u t ha => ?_, fun a ⟨ps, ha, ht⟩ => ?_, fun a ha => ?_⟩
  · rw [upd_ne (ne_of_none ha h)]
    exact e.same a u t ha
  · obtain ⟨ps', h1, h2⟩ := e.tab a ⟨ps, ha, ht⟩
    exact ⟨ps', by rw [upd_ne (ne_of_none ha h)]; exact h1, h2⟩
  · by_cases q : a = p
    · rw [q]
      exact h
    · rw [upd_ne q] at ha
      exact e.free a ha
theorem Kp.new {H : Hp} {p : Addr} {o : HO} (h : H p = none) : Kp H (upd H p o) := (Kp.refl H).mut h
theorem Kp.rd {H H' : Hp} {a : Addr} {u : HO} (e : Kp H H') (t : isT u = false) (h : Rd H a u) : Rd H' a u := by
  rcases h with h | ⟨o, h⟩
  · exact Or.inl (e.same a _ t h)
  · exact Or.inr ⟨o, e.same a _ rfl h⟩
theorem Kp.sqL {K : PySem.W.Frag} {H H' : Hp} {a : Addr} {xs : List V} (e : Kp H H') (h : SqL K H a xs) : SqL K H' a xs := by
  rcases h with h | h
  · exact Or.inl (e.rd rfl h)
  · exact Or.inr h
theorem Kp.sqT {K : PySem.W.Frag} {H H' : Hp} {a : Addr} {xs : List V} (e : Kp H H') (h : SqT K H a xs) : SqT K H' a xs := by
  rcases h with h | h
  · exact Or.inl (e.rd rfl h)
  · exact Or.inr h
mutual
theorem Kp.dp {K : PySem.W.Frag} {H H' : Hp} (e : Kp H H') : ∀ {d : PyData} {v : V}, Dp K H v d → Dp K H' v d
  | _, _, .non => .non
  | _, _, .bl b => .bl b
  | _, _, .int i => .int i
  | _, _, .str x => .str x
  | _, _, .lst h a => .lst (e.sqL h) (Kp.dpAll e a)
  | _, _, .tup h a => .tup (e.sqT h) (Kp.dpAll e a)
theorem Kp.dpAll {K : PySem.W.Frag} {H H' : Hp} (e : Kp H H') : ∀ {ds : List PyData} {vs : List V}, DpAll K H vs ds → DpAll K H' vs ds
  | _, _, .nil => .nil
  | _, _, .cons h t => .cons (Kp.dp e h) (Kp.dpAll e t)
end
theorem DpAll.len {K : PySem.W.Frag} {H : Hp} : ∀ {vs : List V} {ds : List PyData}, DpAll K H vs ds → vs.length = ds.length
  | _, _, .nil => rfl
  | _, _, .cons _ t => congrArg (· + 1) (DpAll.len t)
theorem DpAll.get {K : PySem.W.Frag} {H : Hp} : ∀ {vs : List V} {ds : List PyData} {i : Nat} {d : PyData}, DpAll K H vs ds → ds[i]? = some d → ∃ v, vs[i]? = some v ∧ Dp K H v d
  | _, _, i, d, .nil, h => by simp at h
  | _, _, 0, d, .cons a _, h => by
    have e := Option.some.inj h
    subst e
    exact ⟨_, rfl, a⟩
  | _, _, i + 1, d, .cons _ t, h => DpAll.get (i := i) t h
theorem DpAll.app {K : PySem.W.Frag} {H : Hp} : ∀ {vs ws : List V} {ds es : List PyData}, DpAll K H vs ds → DpAll K H ws es → DpAll K H (vs ++ ws) (ds ++ es)
  | _, _, _, _, .nil, b => b
  | _, _, _, _, .cons a t, b => .cons a (DpAll.app t b)
/-- data without lists -/
inductive Nl : PyData → Prop
  | non : Nl .none
  | bl (b : Bool) : Nl (.bool b)
  | int (i : Int) : Nl (.int i)
  | str (x : Str) : Nl (.str x)
  | tup {ds : List PyData} : (∀ d ∈ ds, Nl d) → Nl (.tuple ds)
/-! a list may change: what has no list in it stays -/
mutual
theorem Dp.mut {K : PySem.W.Frag} {H : Hp} {p : Addr} {o : HO} {zs : List V} (hp : H p = some (.lst zs)) : ∀ {d : PyData} {v : V}, Nl d → Dp K H v d → Dp K (upd H p o) v d
  | _, _, _, .non => .non
  | _, _, _, .bl b => .bl b
  | _, _, _, .int i => .int i
  | _, _, _, .str x => .str x
  | _, _, n, .lst _ _ => nomatch n
  | _, _, n, .tup h a => by
    cases n with
    | tup n =>
      refine .tup ?_ (DpAll.mut hp n a)
      rcases h with (h | ⟨ob, h⟩) | h
      · exact .inl (.inl (by rw [upd_ne (ne_of h hp (by intro z; cases z))]; exact h))
      · exact .inl (.inr ⟨ob, by rw [upd_ne (ne_of h hp (by intro z; cases z))]; exact h⟩)
      · exact .inr h
theorem DpAll.mut {K : PySem.W.Frag} {H : Hp} {p : Addr} {o : HO} {zs : List V} (hp : H p = some (.lst zs)) : ∀ {ds : List PyData} {vs : List V}, (∀ d ∈ ds, Nl d) → DpAll K H vs ds → DpAll K (upd H p o) vs ds
  | _, _, _, .nil => .nil
  | _, _, n, .cons h t => .cons (Dp.mut hp (n _ List.mem_cons_self) h) (DpAll.mut hp (fun d hd => n d (List.mem_cons_of_mem _ hd)) t)
end
theorem DpAll.snoc {K : PySem.W.Frag} {H : Hp} {vs : List V} {ds : List PyData} {v : V} {d : PyData} (a : DpAll K H vs ds) (h : Dp K H v d) : DpAll K H (vs ++ [v]) (ds ++ [d]) := DpAll.app a (.cons h .nil)
theorem DpAll.dropLast {K : PySem.W.Frag} {H : Hp} : ∀ {vs : List V} {ds : List PyData}, DpAll K H vs ds → DpAll K H vs.dropLast ds.dropLast
  | _, _, .nil => .nil
  | _, _, .cons _ .nil => .nil
  | _, _, .cons h (.cons h2 t) => .cons h (DpAll.dropLast (.cons h2 t))
theorem dp_ints {K : PySem.W.Frag} {H : Hp} : ∀ ns : List Int, DpAll K H (ns.map V.int) (ns.map PyData.int)
  | [] => .nil
  | n :: r => .cons (.int n) (dp_ints r)
theorem dp_strs {K : PySem.W.Frag} {H : Hp} : ∀ ns : List Str, DpAll K H (ns.map V.str) (ns.map PyData.str)
  | [] => .nil
  | n :: r => .cons (.str n) (dp_strs r)
/-- a list of ints, a list of texts as data -/
def dI (ns : List Int) : PyData := .list (ns.map PyData.int)
def dS (ns : List Str) : PyData := .list (ns.map PyData.str)
theorem dp_dI {K : PySem.W.Frag} {H : Hp} {a : Addr} {ns : List Int} (h : SqL K H a (ns.map V.int)) : Dp K H (.ref a) (dI ns) := .lst h (dp_ints ns)
theorem dpAll_ints {K : PySem.W.Frag} {H : Hp} : ∀ {ns : List Int} {vs : List V}, DpAll K H vs (ns.map PyData.int) → vs = ns.map V.int
  | [], _, .nil => rfl
  | n :: r, _, .cons h t => by
    cases h
    rw [dpAll_ints t]
    rfl
theorem dp_of_dI {K : PySem.W.Frag} {H : Hp} {v : V} {ns : List Int} (h : Dp K H v (dI ns)) : ∃ a, v = .ref a ∧ SqL K H a (ns.map V.int) := by
  cases h with
  | lst h t =>
    rw [dpAll_ints t] at h
    exact ⟨_, rfl, h⟩
/-! ### small words -/
theorem at_int {ns : List Int} {j : Nat} (h : j < ns.length) : atI (ns.map V.int) (j : Int) = some (.int ns[j]) := atI_nat (by rw [List.getElem?_map, List.getElem?_eq_getElem h]; rfl)
theorem at_intZ {ns : List Int} {z : Int} (h0 : 0 ≤ z) (h : z.toNat < ns.length) : atI (ns.map V.int) z = some (.int ns[z.toNat]) := by
  have e := at_int h
  rw [Int.toNat_of_nonneg h0] at e
  exact e
theorem szl {n : Nat} (h : n ≤ 100000) : n ≤ sizeLine := Nat.le_trans h (by decide)
theorem szt {n : Nat} (h : n < 100000) : n < sizeLine := Nat.lt_of_lt_of_le h (by decide)
theorem iteB {b : Bool} {A B : Prop} (h1 : b = true → A) (h2 : b = false → B) : if b = true then A else B := by
  cases b with
  | true => rw [if_pos rfl]; exact h1 rfl
  | false => rw [if_neg Bool.false_ne_true]; exact h2 rfl
theorem iteD {c : Prop} [Decidable c] {A B : Prop} (h1 : c → A) (h2 : ¬ c → B) : if decide c = true then A else B :=
  iteB (fun h => h1 (of_decide_eq_true h)) (fun h => h2 (of_decide_eq_false h))
theorem iteN {c : Prop} [Decidable c] {A B : Prop} (h1 : ¬ c → A) (h2 : c → B) : if (!decide c) = true then A else B :=
  iteB (fun h => h1 (fun z => by rw [decide_eq_true z] at h; cases h)) (fun h => h2 (by
    by_cases z : c
    · exact z
    · rw [decide_eq_false z] at h; cases h))
theorem iteTo {b : Bool} {A B : Prop} (e : b = true) (h : A) : if b = true then A else B := by rw [if_pos e]; exact h
theorem iteFo {b : Bool} {A B : Prop} (e : b = false) (h : B) : if b = true then A else B := by rw [e, if_neg Bool.false_ne_true]; exact h
/-! ### rules with the written part by its own name (inside a comprehension) -/
section
variable {X : Cx} (K : PySem.W.Frag)
theorem ix_listK (h : X.K = K) : IxR X (rIxL K) := h ▸ ix_list
theorem ix_tupK (h : X.K = K) : IxR X (rIxT K) := h ▸ ix_tup
theorem ix_seqK (h : X.K = K) : IxR X (rIx K) := h ▸ ix_seq
def rLenSq : List V → Hp → VK → Prop := fun xs H Q => ∃ p ys, xs = [.ref p] ∧ (SqL K H p ys ∨ SqT K H p ys) ∧ Q (.int ys.length) H
theorem call_lenSK (h : X.K = K) : CallR X (.builtin "len") (rLenSq K) := h ▸ call_len_seq
def rLenV : List V → Hp → VK → Prop := fun xs H Q => ∃ x n, xs = [x] ∧ LenV K x H n ∧ Q (.int n) H
theorem call_lenK (h : X.K = K) : CallR X (.builtin "len") (rLenV K) := h ▸ call_len
theorem op_inK (h : X.K = K) : OpR X (compareOp .In) (rIn K false) := h ▸ op_in_seq
theorem op_notInK (h : X.K = K) : OpR X (compareOp .NotIn) (rIn K true) := h ▸ op_notIn_seq
theorem op_eqDK (h : X.K = K) (hu : X.A.units + 64 < cLine) : OpR X (compareOp .Eq) (rEqD K) := h ▸ op_eqD hu
theorem op_neDK (h : X.K = K) (hu : X.A.units + 64 < cLine) : OpR X (compareOp .NotEq) (rNeD K) := h ▸ op_neD hu
theorem call_isiKK (h : X.K = K) : CallR X (.builtin "isinstance") (rIsi K) := h ▸ call_isi
end
section
variable {X : Cx} (K : PySem.W.Frag)
theorem pgK {e : Expr} {n : Nat} {t : TGs} (h : X.K = K) (p : PG X e (gTup X.K n t)) : PG X e (gTup K n t) := h ▸ p
/-- isinstance(e, C), e what the suite has caught (without or with a dict of its own) -/
def rIsX (cls : Value) (d : Option Addr) (a : Addr) : List V → Hp → VK → Prop := fun xs H Q => ∃ (D : Addr) (c : V) (cv : Value) (b : Bool), cls = .ref D ∧ (d = none ∨ ∃ dd fs, d = some dd ∧ H dd = some (.xd fs)) ∧ ExcC K D ∧ xs = [.ref a, c] ∧ ClsV c cv ∧ PySem.W.kitOne K (.ref D) cv = some b ∧ Q (.bl b) H
theorem call_isX {a : Addr} {oe : Obj} {pn : List (Addr × Obj)} {cls : Value} {d : Option Addr} (h : X.K = K) (hz : Zc cls d oe) (hf : ∃ vs, oe.data = .fields vs) : CallR (X.suite a ((a, oe) :: pn)) (.builtin "isinstance") (rIsX K cls d a) := by
  subst h
  intro pins s σ H xs us Q I r h'
  obtain ⟨D, c, cv, b, rfl, hd, C, rfl, hc, hk, q⟩ := h'
  cases r with | cons rx rr =>
  cases rr with | cons rt rr =>
  cases rr
  cases rx
  have ec := hc.eq rt
  subst ec
  obtain ⟨hget, _⟩ := I.pin (a, oe) (List.mem_append_left _ List.mem_cons_self)
  obtain ⟨vs, hv⟩ := hf
  have hcl : (PySem.W.clsIn X.K D).isSome = true := by
    obtain ⟨cd, hc, _⟩ := PySem.W.any_some C.hd
    rw [hc]
    first | rfl | done
  have nc : PySem.W.notCls oe = true := by
    unfold PySem.W.notCls
    rw [hv]
  rcases hd with rfl | ⟨dd, fs, rfl, hdd⟩
  · have J : PySem.W.InstAt s.heap a oe D none := ⟨hget, hz.1, nc, by rw [hz.2]; trivial⟩
    exact PySem.W.kia_one (PySem.W.kitx_exc hcl C.hg C.hk C.hs C.ha C.hn C.ht C.hm) I.kIn J hk (fun z => nomatch z) fun tk => ⟨.bl b, H, I.kept (t' := tk) fun _ _ z => z, rfl, q⟩
  · obtain ⟨mA, hns, hr⟩ := I.hok dd _ hdd
    obtain ⟨od, ho, hl⟩ := lookIn_ns hns
    have J : PySem.W.InstAt s.heap a oe D (some od) := ⟨hget, hz.1, nc, by rw [hz.2]; exact ho⟩
    exact PySem.W.kia_one (PySem.W.kitx_exc hcl C.hg C.hk C.hs C.ha C.hn C.ht C.hm) I.kIn J hk (fun z => nomatch z) fun tk => ⟨.bl b, H, I.kept (t' := tk) fun _ _ z => z, rfl, q⟩
end
/-! ### isinstance of an own error, by what the written part says of its class -/
theorem kit_sub {K : PySem.W.Frag} {t : Value} {C : Addr} (ic : PySem.W.isClsIn K C = true) (tC : PySem.W.typeIn K (.ref C) = some (.type "type")) (h : PySem.W.subIn K t (.ref C) = some true) : PySem.W.kitOne K t (.ref C) = some true := by
  unfold PySem.W.kitOne
  by_cases e : (t == .ref C) = true
  · rw [if_pos e]
  · rw [if_neg e]
    have h2 : ((PySem.W.clsIn K C).isSome && PySem.W.typeIn K (.ref C) == some (.type "type")) = true := by
      have q : (PySem.W.clsIn K C).isSome = true := ic
      rw [q, tC]
      rfl
    show (if ((PySem.W.clsIn K C).isSome && PySem.W.typeIn K (.ref C) == some (.type "type")) = true then PySem.W.subIn K t (.ref C) else none) = some true
    rw [if_pos h2]
    exact h
theorem kit_not {K : PySem.W.Frag} {t : Value} {C : Addr} (ic : PySem.W.isClsIn K C = true) (tC : PySem.W.typeIn K (.ref C) = some (.type "type")) (h : PySem.W.subIn K t (.ref C) = some false) (hs : PySem.W.subIn K t t = some true) : PySem.W.kitOne K t (.ref C) = some false := by
  unfold PySem.W.kitOne
  have e : ¬ (t == .ref C) = true := fun e => by
    have z : t = .ref C := by simpa using e
    rw [z] at h hs
    rw [h] at hs
    cases hs
  rw [if_neg e]
  have h2 : ((PySem.W.clsIn K C).isSome && PySem.W.typeIn K (.ref C) == some (.type "type")) = true := by
    have q : (PySem.W.clsIn K C).isSome = true := ic
    rw [q, tC]
    rfl
  show (if ((PySem.W.clsIn K C).isSome && PySem.W.typeIn K (.ref C) == some (.type "type")) = true then PySem.W.subIn K t (.ref C) else none) = some false
  rw [if_pos h2]
  exact h
theorem meta_ve : PySem.W.kitMeta "ValueError" = true := by decide +kernel
theorem kit_ve {K : PySem.W.Frag} {C : Addr} (h : PySem.W.subIn K (.ref C) (.type "ValueError") = some true) : PySem.W.kitOne K (.ref C) (.type "ValueError") = some true := by
  unfold PySem.W.kitOne
  rw [if_neg (by intro z; cases z)]
  show (if PySem.W.kitMeta "ValueError" = true then PySem.W.subIn K (.ref C) (.type "ValueError") else none) = some true
  rw [if_pos meta_ve]
  exact h
theorem at_mod (z : Str) {m : Int} {n : Nat} (hn : 0 < n) (hl : z.cps.toList.length = n) : ∃ c, atI z.cps.toList (m % (n : Int)) = some c := by
  have h0 : 0 ≤ m % (n : Int) := Int.emod_nonneg _ (by omega)
  have h1 : m % (n : Int) < (n : Int) := Int.emod_lt_of_pos _ (by omega)
  have hj : (m % (n : Int)).toNat < z.cps.toList.length := by omega
  refine ⟨z.cps.toList[(m % (n : Int)).toNat], ?_⟩
  have e := atI_nat (List.getElem?_eq_getElem hj)
  rw [Int.toNat_of_nonneg h0] at e
  exact e
theorem cutV_map {lo hi : Option Int} {ns : List Int} : ∃ ms : List Int, cutV (ns.map V.int) lo hi = ms.map V.int ∧ (∀ m ∈ ms, m ∈ ns) ∧ ms.length ≤ ns.length := by
  unfold cutV
  rw [List.length_map]
  refine ⟨(ns.drop _).take _, by rw [List.map_take, List.map_drop], fun m h => List.mem_of_mem_drop (List.mem_of_mem_take h), ?_⟩
  rw [List.length_take, List.length_drop]
  omega
theorem mem_ints {ns : List Int} {i : Nat} {x : V} (h : (ns.map V.int)[i]? = some x) : ∃ z, z ∈ ns ∧ x = .int z ∧ ns[i]? = some z := by
  rw [List.getElem?_map] at h
  cases e : ns[i]? with
  | none =>
    rw [e] at h
    cases h
  | some z =>
    rw [e] at h
    exact ⟨z, List.mem_of_getElem? e, (Option.some.inj h).symm, rfl⟩
theorem mem_strs {ns : List Str} {i : Nat} {x : V} (h : (ns.map V.str)[i]? = some x) : ∃ z, z ∈ ns ∧ x = .str z ∧ ns[i]? = some z := by
  rw [List.getElem?_map] at h
  cases e : ns[i]? with
  | none =>
    rw [e] at h
    cases h
  | some z =>
    rw [e] at h
    exact ⟨z, List.mem_of_getElem? e, (Option.some.inj h).symm, rfl⟩
theorem take_snoc {α : Type} {l : List α} {i : Nat} {z : α} (h : l[i]? = some z) : l.take (i + 1) = l.take i ++ [z] := by
  rw [List.take_succ, h]
  rfl
/-! ### min(list of ints, default=..) -/
theorem foldl_min : ∀ (ns : List Int) (n : Int), (ns.foldl min n = n ∨ ns.foldl min n ∈ ns) ∧ ns.foldl min n ≤ n ∧ ∀ y ∈ ns, ns.foldl min n ≤ y
  | [], n => ⟨.inl rfl, Int.le_refl _, by simp⟩
  | k :: r, n => by
    obtain ⟨h1, h2, h3⟩ := foldl_min r (min n k)
    rw [List.foldl_cons]
    refine ⟨?_, by omega, fun y hy => ?_⟩
    · rcases h1 with h1 | h1
      · by_cases c : n ≤ k
        · exact .inl (h1.trans (by omega))
        · exact .inr (by rw [h1, show min n k = k by omega]; exact List.mem_cons_self)
      · exact .inr (List.mem_cons_of_mem _ h1)
    · rcases List.mem_cons.mp hy with rfl | hy
      · omega
      · exact h3 y hy
def rMinDf (K : PySem.W.Frag) : List V → List V → Hp → VK → Prop := fun vs zs H Q => ∃ (a : Addr) (ns : List Int) (d : V), vs = [V.ref a] ∧ zs = [d] ∧ SqL K H a (ns.map V.int) ∧ (ns = [] → Q d H) ∧ ∀ m, m ∈ ns → (∀ y, y ∈ ns → m ≤ y) → Q (.int m) H
section
variable {X : Cx}
theorem alike_ints (ns : List Int) : PySem.W.AlikeAll (ns.map PyData.int) := by
  refine ⟨fun x hx y hy => ?_, fun x hx => ?_⟩
  · obtain ⟨a, _, rfl⟩ := List.mem_map.mp hx
    obtain ⟨b, _, rfl⟩ := List.mem_map.mp hy
    rfl
  · obtain ⟨a, _, rfl⟩ := List.mem_map.mp hx
    intro z
    cases z
theorem dep_intsM : ∀ ns : List Int, PyData.depthAll (ns.map PyData.int) ≤ 1
  | [] => by simp [PyData.depthAll]
  | n :: r => by
    have h := dep_intsM r
    simp only [List.map_cons, PyData.depthAll, PyData.depth]
    omega
theorem cr_minDf (hc : X.calm = true) (hu : X.A.units + 64 < cLine) : CallRK X (.builtin "min") ["default"] (rMinDf X.K) := by
  intro pins s σ H xs zs us ws Q I r1 r2 h
  obtain ⟨a, ns, d, rfl, rfl, hs, h0, h1⟩ := h
  obtain ⟨its, rv, hl, _⟩ := I.list hs
  rw [Vals.ref1 r1]
  obtain ⟨u, rfl, ru⟩ := vals1 r2
  show wpAny _ _ (call (.builtin "min") [.ref a] [(Str.ofString "default", u)]) _ _ _
  refine PySem.W.min_list_default (I.ok.hd hc) hl.isList (IntsAre.reads _ rv.ints) (alike_ints ns) (by have := dep_intsM ns; omega) (fun e h' tk hk => ⟨d, H, I.kept hk, ru, h0 (List.map_eq_nil_iff.mp e)⟩) fun y ys i v h' tk bs e hv hr hk => ?_
  cases ns with
  | nil => cases e
  | cons n r =>
    rw [List.map_cons] at e
    obtain ⟨rfl, rfl⟩ := List.cons.inj e
    rw [PySem.W.minD_ints] at hr
    cases hr
    obtain ⟨g1, g2, g3⟩ := foldl_min r n
    refine ⟨.int _, H, I.kept hk, ⟨_, rfl⟩, h1 _ ?_ fun y hy => ?_⟩
    · rcases g1 with g1 | g1
      · rw [g1]
        exact List.mem_cons_self
      · exact List.mem_cons_of_mem _ g1
    · rcases List.mem_cons.mp hy with rfl | hy
      · exact g2
      · exact g3 y hy
end

def top (i : Nat) : Stmt := PySem.Challenge.pw_mastword_k13_what_must_be_freed.main.body.getD i (.Pass ⟨0, 0, 0, 0⟩)
abbrev s_p_freed : Stmt := top 2
theorem sc_p_freed : FnScope ["shown", "waits", "asleep", "fogs", "rear", "places", "wake", "place", "lift"] ["shown", "waits", "asleep", "fogs"] (defScope s_p_freed) := ⟨rfl, rfl, rfl, by decide +kernel, rfl, by decide +kernel, by decide +kernel⟩
abbrev s_p_rearmost : Stmt := top 3
theorem sc_p_rearmost : FnScope ["shown", "waits", "signing", "place", "sign"] ["shown", "waits"] (defScope s_p_rearmost) := ⟨rfl, rfl, rfl, by decide +kernel, rfl, by decide +kernel, by decide +kernel⟩
abbrev s_l_cell : Stmt := top 5
theorem sc_l_cell : FnScope ["_law_script", "_law_at"] ["_law_script", "_law_at"] (defScope s_l_cell) := ⟨rfl, rfl, rfl, by decide +kernel, rfl, by decide +kernel, by decide +kernel⟩
abbrev s_l_row : Stmt := top 6
theorem sc_l_row : FnScope ["_law_cell_here", "_law_many", "_law_size", "_law_row_here", "_law_rest", "_law_k", "_law_seed", "_law_mixed"] ["_law_cell_here", "_law_many", "_law_size"] (defScope s_l_row) := ⟨rfl, rfl, rfl, by decide +kernel, rfl, by decide +kernel, by decide +kernel⟩
abbrev s_l_like : Stmt := top 7
theorem sc_l_like : FnScope ["_law_found", "_law_due_here", "_law_k"] ["_law_found", "_law_due_here"] (defScope s_l_like) := ⟨rfl, rfl, rfl, by decide +kernel, rfl, by decide +kernel, by decide +kernel⟩
abbrev s_l_shown : Stmt := top 8
theorem sc_l_shown : FnScope ["_law_script", "_law_at", "_law_pick", "_law_many", "_law_nums", "_law_shown_here", "_law_asleep", "_law_fogs", "_law_place", "_law_num"] ["_law_script", "_law_at"] (defScope s_l_shown) := ⟨rfl, rfl, rfl, by decide +kernel, rfl, by decide +kernel, by decide +kernel⟩
abbrev s_l_due : Stmt := top 9
theorem sc_l_due : FnScope ["_law_shown_here", "_law_waits", "_law_asleep", "_law_fogs", "_law_first", "_law_signs", "_law_place"] ["_law_shown_here", "_law_waits", "_law_asleep", "_law_fogs"] (defScope s_l_due) := ⟨rfl, rfl, rfl, by decide +kernel, rfl, by decide +kernel, by decide +kernel⟩
abbrev s_law : Stmt := top 10
theorem sc_law : FnScope ["_law_script", "_law_at", "_law_shown_here", "_law_waits", "_law_asleep", "_law_fogs", "_law_due_here", "_law_handed", "_law_kept", "_law_one", "_law_found"] ["_law_script"] (defScope s_law) := ⟨rfl, rfl, rfl, by decide +kernel, rfl, by decide +kernel, by decide +kernel⟩
structure Txt (K : PySem.W.Frag) (mg : Str → Option Value) where
  f_p_freed : Addr
  d_p_freed : FuncData
  F_p_freed : Fun K "freed" "freed" s_p_freed f_p_freed d_p_freed
  b_p_freed : Binds K d_p_freed ["shown", "waits", "asleep", "fogs"] []
  g_p_freed : mg "freed" = some (.ref f_p_freed)
  f_p_rearmost : Addr
  d_p_rearmost : FuncData
  F_p_rearmost : Fun K "rearmost" "rearmost" s_p_rearmost f_p_rearmost d_p_rearmost
  b_p_rearmost : Binds K d_p_rearmost ["shown", "waits"] []
  g_p_rearmost : mg "rearmost" = some (.ref f_p_rearmost)
  f_l_cell : Addr
  d_l_cell : FuncData
  F_l_cell : Fun K "_law_cell" "_law_cell" s_l_cell f_l_cell d_l_cell
  b_l_cell : Binds K d_l_cell ["_law_script", "_law_at"] []
  g_l_cell : mg "_law_cell" = some (.ref f_l_cell)
  f_l_row : Addr
  d_l_row : FuncData
  F_l_row : Fun K "_law_row" "_law_row" s_l_row f_l_row d_l_row
  b_l_row : Binds K d_l_row ["_law_cell_here", "_law_many", "_law_size"] []
  g_l_row : mg "_law_row" = some (.ref f_l_row)
  f_l_like : Addr
  d_l_like : FuncData
  F_l_like : Fun K "_law_like" "_law_like" s_l_like f_l_like d_l_like
  b_l_like : Binds K d_l_like ["_law_found", "_law_due_here"] []
  g_l_like : mg "_law_like" = some (.ref f_l_like)
  f_l_shown : Addr
  d_l_shown : FuncData
  F_l_shown : Fun K "_law_shown" "_law_shown" s_l_shown f_l_shown d_l_shown
  b_l_shown : Binds K d_l_shown ["_law_script", "_law_at"] []
  g_l_shown : mg "_law_shown" = some (.ref f_l_shown)
  f_l_due : Addr
  d_l_due : FuncData
  F_l_due : Fun K "_law_due" "_law_due" s_l_due f_l_due d_l_due
  b_l_due : Binds K d_l_due ["_law_shown_here", "_law_waits", "_law_asleep", "_law_fogs"] []
  g_l_due : mg "_law_due" = some (.ref f_l_due)
  u_REST : Value
  c_REST : mg "REST" = some u_REST
  r_REST : RelV (.int 0) u_REST
  m_len : mg "len" = none
  m_range : mg "range" = none
  m_max : mg "max" = none
  m_min : mg "min" = none
  m_enumerate : mg "enumerate" = none
  m_isinstance : mg "isinstance" = none
  m_bool : mg "bool" = none
  m_int : mg "int" = none
  m_str : mg "str" = none
  m_all : mg "all" = none
  m_list : mg "list" = none
  m_tuple : mg "tuple" = none
section
variable {P : Program} {w : World} {K : PySem.W.Frag} {mg : Str → Option Value} {base : Heap}
/-! ### _law_cell: an int of the script -/
def cellV (ns : List Int) (j : Nat) : Int :=
  if j < ns.length then ns.getD j 0 else if ns.length = 0 then 29 * (j : Int) + 5 else ns.getD (j % ns.length) 0 % 1000003 + 103 * (j : Int)
def sp_l_cell (K : PySem.W.Frag) : Sp := fun vs H Q _ => ∃ (l : Addr) (ns : List Int) (j : Nat), vs = [.ref l, .int j] ∧ SqL K H l (ns.map V.int) ∧ j ≤ 100000 ∧ Q (.int (cellV ns j)) H
theorem getD_at {ns : List Int} {j : Nat} (h : j < ns.length) : atI (ns.map V.int) (j : Int) = some (.int (ns.getD j 0)) := by
  rw [at_int h, List.getD_eq_getElem?_getD, List.getElem?_eq_getElem h]
  rfl
theorem ok_l_cell (T : Txt K mg) : FnOk P w K mg base CX0 1 T.f_l_cell T.d_l_cell ["_law_script", "_law_at"] (sp_l_cell K) := by
  refine T.F_l_cell.ok sc_l_cell (fun vs H Q E h => ?_) (fun cdv A outer s H vs Q E hr h => ?_)
  · obtain ⟨l, ns, j, rfl, _⟩ := h
    rfl
  · obtain ⟨l, ns, j, rfl, hS, hj, k⟩ := h
    have hlen : ((ns.map V.int).length : Int) = (ns.length : Int) := by rw [List.length_map]
    refine ⟨_, (pss_cons (ps_if (pt_cmpR op_lt (pv 1) (pe_callB call_len_seq (by rfl) T.m_len PySem.boot_len (pa_cons (pv 0) pa_nil)) (nomark _))
      (pss_one (ps_ret (pe_ix ix_list (pv 0) (pv 1) (fun _ _ => rfl))))
      pss_nil)
      (pss_cons (ps_if (pt_cmpR op_eq (pe_callB call_len_seq (by rfl) T.m_len PySem.boot_len (pa_cons (pv 0) pa_nil)) pe_int (nomark _))
      (pss_one (ps_ret (pe_op op_add (pe_op op_mul pe_int (pv 1)) pe_int)))
      pss_nil)
      (pss_one (ps_ret (pe_op op_add (pe_op op_mod (pe_ix ix_list (pv 0) (pe_op op_mod (pv 1) (pe_callB call_len_seq (by rfl) T.m_len PySem.boot_len (pa_cons (pv 0) pa_nil))) (fun _ _ => rfl)) pe_int) (pe_op op_mul pe_int (pv 1))))))), ?_⟩
    refine ⟨_, rfl, _, rfl, l, _, rfl, .inl hS, _, _, rfl, rfl, _, rfl, iteD (fun c => ?_) (fun c => ?_)⟩
    · rw [hlen] at c
      refine ⟨_, rfl, _, rfl, l, _, _, _, rfl, rfl, hS, getD_at (show j < ns.length by omega), ?_⟩
      have e : cellV ns j = ns.getD j 0 := if_pos (by omega)
      rw [e] at k
      exact k
    · rw [hlen] at c
      refine ⟨_, rfl, l, _, rfl, .inl hS, rfl, _, rfl, iteD (fun c2 => ?_) (fun c2 => ?_)⟩
      · have c3 : (ns.length : Int) = 0 := by
          have z := V.int.inj c2
          rw [hlen] at z
          exact z
        have e : cellV ns j = 29 * (j : Int) + 5 := by
          unfold cellV
          rw [if_neg (by omega), if_pos (by omega)]
        rw [e] at k
        exact ⟨_, rfl, _, _, rfl, rfl, .inl ⟨by decide, by decide⟩, _, _, rfl, rfl, k⟩
      · have c3 : ns.length ≠ 0 := fun z => c2 (by rw [hlen, z]; rfl)
        have hm : j % ns.length < ns.length := Nat.mod_lt _ (by omega)
        have e : cellV ns j = ns.getD (j % ns.length) 0 % 1000003 + 103 * (j : Int) := by
          unfold cellV
          rw [if_neg (by omega), if_neg c3]
        rw [e] at k
        have ea : atI (ns.map V.int) ((j : Int) % ((ns.map V.int).length : Int)) = some (.int (ns.getD (j % ns.length) 0)) := by
          rw [hlen, ← Int.natCast_emod]
          exact getD_at hm
        exact ⟨_, rfl, _, rfl, _, rfl, l, _, rfl, .inl hS, _, _, rfl, rfl, (by show (0 : Int) < ((ns.map V.int).length : Int); rw [hlen]; omega), l, _, _, _, rfl, rfl, hS, ea, _, _, rfl, rfl, (by show (0 : Int) < 1000003; decide), _, rfl, _, _, rfl, rfl, .inl ⟨by decide, by decide⟩, _, _, rfl, rfl, k⟩
/-! ### _law_like of one datum with itself -/
inductive Dn : Nat → PyData → Prop
  | non (n : Nat) : Dn (n + 1) .none
  | bl (n : Nat) (b : Bool) : Dn (n + 1) (.bool b)
  | int (n : Nat) (i : Int) : Dn (n + 1) (.int i)
  | str (n : Nat) (x : Str) : Dn (n + 1) (.str x)
  | lst {n : Nat} {ds : List PyData} : (∀ d ∈ ds, Dn n d) → ds.length ≤ 10000 → Dn (n + 1) (.list ds)
  | tup {n : Nat} {ds : List PyData} : (∀ d ∈ ds, Dn n d) → ds.length ≤ 10000 → Dn (n + 1) (.tuple ds)
def tyN : PyData → String
  | .none => "NoneType" | .bool _ => "bool" | .int _ => "int" | .str _ => "str" | .list _ => "list" | .tuple _ => "tuple" | .dict _ => "dict"
theorem ty_of {K : PySem.W.Frag} {H : Hp} {v : V} {d : PyData} (h : Dp K H v d) : TyX K H v (.type (tyN d)) := by
  cases h with
  | non => exact .base .non
  | bl b => exact .base (.bl b)
  | int i => exact .base (.int i)
  | str x => exact .base (.str x)
  | lst h _ =>
    rcases h with (h | ⟨o, h⟩) | ⟨o, its, n, e, c, _⟩
    · exact .base (.lst h)
    · exact .base (.frz h)
    · exact .kList e c
  | tup h _ =>
    rcases h with (h | ⟨o, h⟩) | ⟨o, its, n, e, c, _⟩
    · exact .base (.tup h)
    · exact .fTuple h
    · exact .kTuple e c
def sp_l_like (K : PySem.W.Frag) (n : Nat) : Sp := fun vs H Q _ => ∃ (u v : V) (d : PyData), vs = [u, v] ∧ Dp K H u d ∧ Dp K H v d ∧ Dn n d ∧ ∀ H', Kp H H' → Q (.bl true) H'
theorem fn_none {P : Program} {w : World} {K : PySem.W.Frag} {mg : Str → Option Value} {base : Heap} {f : Addr} {fd : FuncData} {ps : List Str} {sp : Sp} {k : Nat} (h : ∀ vs H Q E, ¬ sp vs H Q E) : FnOk P w K mg base CX0 k f fd ps sp :=
  ⟨fun vs H Q E q => (h vs H Q E q).elim, fun _ _ _ H _ _ vs Q E _ _ _ _ q => (h vs H Q E q).elim⟩
theorem bl_all {n : Nat} : ((List.replicate n true).map V.bl) = List.replicate n (V.bl true) := List.map_replicate
theorem all_rep (n : Nat) : (List.replicate n true).all id = true := by
  rw [List.all_eq_true]
  intro x hx
  rw [List.eq_of_mem_replicate hx]
  rfl
theorem k_bb : kitB "bool" "bool" = some true := by decide +kernel
theorem k_bi : kitB "bool" "int" = some true := by decide +kernel
theorem k_bs : kitB "bool" "str" = some false := by decide +kernel
theorem k_bl : kitB "bool" "list" = some false := by decide +kernel
theorem k_bt : kitB "bool" "tuple" = some false := by decide +kernel
theorem k_ib : kitB "int" "bool" = some false := by decide +kernel
theorem k_ii : kitB "int" "int" = some true := by decide +kernel
theorem k_is : kitB "int" "str" = some false := by decide +kernel
theorem k_il : kitB "int" "list" = some false := by decide +kernel
theorem k_it : kitB "int" "tuple" = some false := by decide +kernel
theorem k_sb : kitB "str" "bool" = some false := by decide +kernel
theorem k_si : kitB "str" "int" = some false := by decide +kernel
theorem k_ss : kitB "str" "str" = some true := by decide +kernel
theorem k_sl : kitB "str" "list" = some false := by decide +kernel
theorem k_st : kitB "str" "tuple" = some false := by decide +kernel
theorem k_lb : kitB "list" "bool" = some false := by decide +kernel
theorem k_li : kitB "list" "int" = some false := by decide +kernel
theorem k_ls : kitB "list" "str" = some false := by decide +kernel
theorem k_ll : kitB "list" "list" = some true := by decide +kernel
theorem k_lt : kitB "list" "tuple" = some false := by decide +kernel
theorem k_tb : kitB "tuple" "bool" = some false := by decide +kernel
theorem k_ti : kitB "tuple" "int" = some false := by decide +kernel
theorem k_ts : kitB "tuple" "str" = some false := by decide +kernel
theorem k_tl : kitB "tuple" "list" = some false := by decide +kernel
theorem k_tt : kitB "tuple" "tuple" = some true := by decide +kernel
theorem dec_self {x : V} : decide (x = x) = true := decide_eq_true rfl
theorem ok_l_like (T : Txt K mg) : ∀ n : Nat, FnOk P w K mg base CX0 n T.f_l_like T.d_l_like ["_law_found", "_law_due_here"] (sp_l_like K n)
  | 0 => fn_none fun vs H Q E ⟨u, v, d, _, _, _, h, _⟩ => nomatch h
  | n + 1 => by
    have IH := ok_l_like T n
    refine T.F_l_like.ok sc_l_like (fun vs H Q E h => ?_) (fun cdv A outer s H vs Q E hr h => ?_)
    · obtain ⟨u, v, d, rfl, _⟩ := h
      rfl
    · obtain ⟨u, v, d, rfl, hu, hv, hn, k⟩ := h
      have tu := ty_of hu
      have tv := ty_of hv
      refine ⟨_, (pss_cons (ps_if (pt_cmpR op_isN (pv 1) pe_non (nomark _))
      (pss_one (ps_ret (pe_cmpR op_isN (pv 0) pe_non (nomark _))))
      pss_nil)
      (pss_cons (ps_if (pt_val (pe_callB call_isi (by rfl) T.m_isinstance (by decide +kernel) (pa_cons (pv 1) (pa_cons (pe_bltn (v := .ty "bool") (by rfl) T.m_bool (by decide +kernel) rfl) pa_nil))))
      (pss_one (ps_ret (pe_and (pe_callB call_isi (by rfl) T.m_isinstance (by decide +kernel) (pa_cons (pv 0) (pa_cons (pe_bltn (v := .ty "bool") (by rfl) T.m_bool (by decide +kernel) rfl) pa_nil))) (pe_one (pe_cmpR op_eq (pv 0) (pv 1) (nomark _))))))
      pss_nil)
      (pss_cons (ps_if (pt_val (pe_callB call_isi (by rfl) T.m_isinstance (by decide +kernel) (pa_cons (pv 1) (pa_cons (pe_bltn (v := .ty "int") (by rfl) T.m_int (by decide +kernel) rfl) pa_nil))))
      (pss_one (ps_ret (pe_and (pe_callB call_isi (by rfl) T.m_isinstance (by decide +kernel) (pa_cons (pv 0) (pa_cons (pe_bltn (v := .ty "int") (by rfl) T.m_int (by decide +kernel) rfl) pa_nil))) (pe_and (pe_not (pe_callB call_isi (by rfl) T.m_isinstance (by decide +kernel) (pa_cons (pv 0) (pa_cons (pe_bltn (v := .ty "bool") (by rfl) T.m_bool (by decide +kernel) rfl) pa_nil)))) (pe_one (pe_cmpR op_eq (pv 0) (pv 1) (nomark _)))))))
      pss_nil)
      (pss_cons (ps_if (pt_val (pe_callB call_isi (by rfl) T.m_isinstance (by decide +kernel) (pa_cons (pv 1) (pa_cons (pe_bltn (v := .ty "str") (by rfl) T.m_str (by decide +kernel) rfl) pa_nil))))
      (pss_one (ps_ret (pe_and (pe_callB call_isi (by rfl) T.m_isinstance (by decide +kernel) (pa_cons (pv 0) (pa_cons (pe_bltn (v := .ty "str") (by rfl) T.m_str (by decide +kernel) rfl) pa_nil))) (pe_one (pe_cmpR op_eq (pv 0) (pv 1) (nomark _))))))
      pss_nil)
      (pss_cons (ps_if (PW.pt (pw_or (pt_cmpR op_ne (pe_callB call_isi (by rfl) T.m_isinstance (by decide +kernel) (pa_cons (pv 1) (pa_cons (pe_bltn (v := .ty "list") (by rfl) T.m_list (by decide +kernel) rfl) pa_nil))) (pe_callB call_isi (by rfl) T.m_isinstance (by decide +kernel) (pa_cons (pv 0) (pa_cons (pe_bltn (v := .ty "list") (by rfl) T.m_list (by decide +kernel) rfl) pa_nil))) (nomark _)) (pw_or1 (pt_cmpR op_ne (pe_callB call_isi (by rfl) T.m_isinstance (by decide +kernel) (pa_cons (pv 1) (pa_cons (pe_bltn (v := .ty "tuple") (by rfl) T.m_tuple (by decide +kernel) rfl) pa_nil))) (pe_callB call_isi (by rfl) T.m_isinstance (by decide +kernel) (pa_cons (pv 0) (pa_cons (pe_bltn (v := .ty "tuple") (by rfl) T.m_tuple (by decide +kernel) rfl) pa_nil))) (nomark _)))))
      (pss_one (ps_ret pe_bl))
      pss_nil)
      (pss_one (ps_ret (pe_and (pe_cmpR op_eq (pe_callB call_len (by rfl) T.m_len PySem.boot_len (pa_cons (pv 0) pa_nil)) (pe_callB call_len (by rfl) T.m_len PySem.boot_len (pa_cons (pv 1) pa_nil)) (nomark _)) (pe_one (pe_callB (cr_all rfl) (by rfl) T.m_all (by decide +kernel) (pa_cons (pe_lc (own := [("_law_k", 2)]) (g := gName 2) (tt := tYes) (by rfl) sc_l_like.nd (pi_range1 (by rfl) T.m_range (pa_cons (pe_callB call_len (by rfl) T.m_len PySem.boot_len (pa_cons (pv 1) pa_nil)) pa_nil)) (blkOk_by (own := [("_law_k", 2)]) (N := ["_law_found", "_law_due_here", "_law_k"]) (sc := defScope s_l_like) (by decide +kernel)) (fun _ _ _ _ _ => (pg_name (i := 2) sc_l_like.nd rfl (by first | exact Or.inl rfl | exact Or.inr rfl))) (fun _ _ _ _ _ => pts_nil) (fun _ _ _ _ _ => (pe_call IH hr rfl T.g_l_like T.F_l_like.kp T.b_l_like .nil pass0 (pa_cons (pe_ix (ix_seqK K rfl) (pv 0) (pv 2) (fun _ _ => rfl)) (pa_cons (pe_ix (ix_seqK K rfl) (pv 1) (pv 2) (fun _ _ => rfl)) pa_nil))))) pa_nil))))))))))), ?_⟩
      cases hn with
      | non n =>
        cases hu
        cases hv
        refine ⟨_, rfl, rfl, _, rfl, iteTo dec_self ?_⟩
        exact ⟨_, rfl, rfl, k _ (.refl _)⟩
      | bl n b =>
        cases hu
        cases hv
        refine ⟨_, rfl, rfl, _, rfl, iteFo rfl ?_⟩
        refine ⟨_, rfl, _, _, _, _, true, rfl, .ty _, tv, kit_ty k_bb, _, rfl, iteTo rfl ?_⟩
        refine ⟨_, rfl, _, _, _, _, true, rfl, .ty _, tu, kit_ty k_bb, _, rfl, iteTo rfl ?_⟩
        refine ⟨_, rfl, _, rfl, rfl, ?_⟩
        rw [dec_self]
        exact k _ (.refl _)
      | int n i =>
        cases hu
        cases hv
        refine ⟨_, rfl, rfl, _, rfl, iteFo rfl ?_⟩
        refine ⟨_, rfl, _, _, _, _, false, rfl, .ty _, tv, kit_ty k_ib, _, rfl, iteFo rfl ?_⟩
        refine ⟨_, rfl, _, _, _, _, true, rfl, .ty _, tv, kit_ty k_ii, _, rfl, iteTo rfl ?_⟩
        refine ⟨_, rfl, _, _, _, _, true, rfl, .ty _, tu, kit_ty k_ii, _, rfl, iteTo rfl ?_⟩
        refine ⟨_, rfl, _, _, _, _, false, rfl, .ty _, tu, kit_ty k_ib, _, rfl, _, rfl, iteTo rfl ?_⟩
        refine ⟨_, rfl, _, rfl, rfl, ?_⟩
        rw [dec_self]
        exact k _ (.refl _)
      | str n x =>
        cases hu
        cases hv
        refine ⟨_, rfl, rfl, _, rfl, iteFo rfl ?_⟩
        refine ⟨_, rfl, _, _, _, _, false, rfl, .ty _, tv, kit_ty k_sb, _, rfl, iteFo rfl ?_⟩
        refine ⟨_, rfl, _, _, _, _, false, rfl, .ty _, tv, kit_ty k_si, _, rfl, iteFo rfl ?_⟩
        refine ⟨_, rfl, _, _, _, _, true, rfl, .ty _, tv, kit_ty k_ss, _, rfl, iteTo rfl ?_⟩
        refine ⟨_, rfl, _, _, _, _, true, rfl, .ty _, tu, kit_ty k_ss, _, rfl, iteTo rfl ?_⟩
        refine ⟨_, rfl, _, rfl, rfl, ?_⟩
        rw [dec_self]
        exact k _ (.refl _)
      | lst hd hl =>
        rename_i ds
        cases hu with | lst hsu hau =>
        cases hv with | lst hsv hav =>
        rename_i a xs b ys
        have lx := DpAll.len hau
        have ly := DpAll.len hav
        refine ⟨_, rfl, rfl, _, rfl, iteFo rfl ?_⟩
        refine ⟨_, rfl, _, _, _, _, false, rfl, .ty _, tv, kit_ty k_lb, _, rfl, iteFo rfl ?_⟩
        refine ⟨_, rfl, _, _, _, _, false, rfl, .ty _, tv, kit_ty k_li, _, rfl, iteFo rfl ?_⟩
        refine ⟨_, rfl, _, _, _, _, false, rfl, .ty _, tv, kit_ty k_ls, _, rfl, iteFo rfl ?_⟩
        refine ⟨_, rfl, _, _, _, _, true, rfl, .ty _, tv, kit_ty k_ll, _, rfl, _, _, _, _, true, rfl, .ty _, tu, kit_ty k_ll, rfl, _, rfl, iteFo rfl ?_⟩
        refine ⟨_, rfl, _, _, _, _, false, rfl, .ty _, tv, kit_ty k_lt, _, rfl, _, _, _, _, false, rfl, .ty _, tu, kit_ty k_lt, rfl, _, rfl, iteFo rfl ?_⟩
        refine ⟨_, rfl, _, _, rfl, .inl ⟨_, hsu, rfl⟩, _, rfl, _, _, rfl, .inl ⟨_, hsv, rfl⟩, rfl, _, rfl, iteTo (decide_eq_true (congrArg (fun z : Nat => V.int (z : Int)) (lx.trans ly.symm))) ?_⟩
        refine ⟨_, rfl, _, _, rfl, .inl ⟨_, hsv, rfl⟩, _, rfl, by omega, by omega, fun D hD => ?_⟩
        rw [Int.toNat_natCast]
        refine lc_range (lo := 0) (n := ys.length) (fun i H' => Kp H H' ∧ H' D = some (.lst (List.replicate i (V.bl true)))) ⟨Kp.new hD, upd_same⟩ (fun i H' hi ⟨kp, hDl⟩ => ?_) (fun H' ⟨kp, hDl⟩ => ?_)
        · have e0 : (0 : Int) + (i : Int) = (i : Int) := Int.zero_add _
          obtain ⟨d, hdi⟩ : ∃ d, ds[i]? = some d := ⟨_, List.getElem?_eq_getElem (by omega)⟩
          obtain ⟨x, hx, dx⟩ := DpAll.get hau hdi
          obtain ⟨y, hy, dy⟩ := DpAll.get hav hdi
          refine ⟨rfl, ?_⟩
          refine ⟨_, rfl, _, rfl, .inl ⟨_, _, _, x, rfl, rfl, kp.sqL hsu, by rw [e0]; exact atI_nat hx, _, rfl, _, rfl, .inl ⟨_, _, _, y, rfl, rfl, kp.sqL hsv, by rw [e0]; exact atI_nat hy, ?_⟩⟩⟩
          refine ⟨x, y, d, rfl, kp.dp dx, kp.dp dy, hd d (List.mem_of_getElem? hdi), fun H2 k2 => ⟨_, k2.same _ _ rfl hDl, szt (by rw [List.length_replicate]; omega), ?_⟩⟩
          exact ⟨(kp.trans k2).mut hD, by rw [upd_same, List.replicate_succ']⟩
        · refine ⟨D, List.replicate ys.length true, rfl, .inl (.inl (by rw [bl_all]; exact hDl)), ?_⟩
          rw [all_rep]
          exact k _ kp
      | tup hd hl =>
        rename_i ds
        cases hu with | tup hsu hau =>
        cases hv with | tup hsv hav =>
        rename_i a xs b ys
        have lx := DpAll.len hau
        have ly := DpAll.len hav
        refine ⟨_, rfl, rfl, _, rfl, iteFo rfl ?_⟩
        refine ⟨_, rfl, _, _, _, _, false, rfl, .ty _, tv, kit_ty k_tb, _, rfl, iteFo rfl ?_⟩
        refine ⟨_, rfl, _, _, _, _, false, rfl, .ty _, tv, kit_ty k_ti, _, rfl, iteFo rfl ?_⟩
        refine ⟨_, rfl, _, _, _, _, false, rfl, .ty _, tv, kit_ty k_ts, _, rfl, iteFo rfl ?_⟩
        refine ⟨_, rfl, _, _, _, _, false, rfl, .ty _, tv, kit_ty k_tl, _, rfl, _, _, _, _, false, rfl, .ty _, tu, kit_ty k_tl, rfl, _, rfl, iteFo rfl ?_⟩
        refine ⟨_, rfl, _, _, _, _, true, rfl, .ty _, tv, kit_ty k_tt, _, rfl, _, _, _, _, true, rfl, .ty _, tu, kit_ty k_tt, rfl, _, rfl, iteFo rfl ?_⟩
        refine ⟨_, rfl, _, _, rfl, .inr ⟨_, hsu, rfl⟩, _, rfl, _, _, rfl, .inr ⟨_, hsv, rfl⟩, rfl, _, rfl, iteTo (decide_eq_true (congrArg (fun z : Nat => V.int (z : Int)) (lx.trans ly.symm))) ?_⟩
        refine ⟨_, rfl, _, _, rfl, .inr ⟨_, hsv, rfl⟩, _, rfl, by omega, by omega, fun D hD => ?_⟩
        rw [Int.toNat_natCast]
        refine lc_range (lo := 0) (n := ys.length) (fun i H' => Kp H H' ∧ H' D = some (.lst (List.replicate i (V.bl true)))) ⟨Kp.new hD, upd_same⟩ (fun i H' hi ⟨kp, hDl⟩ => ?_) (fun H' ⟨kp, hDl⟩ => ?_)
        · have e0 : (0 : Int) + (i : Int) = (i : Int) := Int.zero_add _
          obtain ⟨d, hdi⟩ : ∃ d, ds[i]? = some d := ⟨_, List.getElem?_eq_getElem (by omega)⟩
          obtain ⟨x, hx, dx⟩ := DpAll.get hau hdi
          obtain ⟨y, hy, dy⟩ := DpAll.get hav hdi
          refine ⟨rfl, ?_⟩
          refine ⟨_, rfl, _, rfl, .inr (.inl ⟨_, _, _, x, rfl, rfl, kp.sqT hsu, by rw [e0]; exact atI_nat hx, _, rfl, _, rfl, .inr (.inl ⟨_, _, _, y, rfl, rfl, kp.sqT hsv, by rw [e0]; exact atI_nat hy, ?_⟩)⟩)⟩
          refine ⟨x, y, d, rfl, kp.dp dx, kp.dp dy, hd d (List.mem_of_getElem? hdi), fun H2 k2 => ⟨_, k2.same _ _ rfl hDl, szt (by rw [List.length_replicate]; omega), ?_⟩⟩
          exact ⟨(kp.trans k2).mut hD, by rw [upd_same, List.replicate_succ']⟩
        · refine ⟨D, List.replicate ys.length true, rfl, .inl (.inl (by rw [bl_all]; exact hDl)), ?_⟩
          rw [all_rep]
          exact k _ kp
/-! ### _law_row: so many ints from nought to below a size -/
def Drawn0 (many size : Int) (xs : List Int) : Prop := (xs.length : Int) = many ∧ ∀ x ∈ xs, 0 ≤ x ∧ x < size
def sp_l_row : Sp := fun vs H Q _ => ∃ (c many size : Int), vs = [.int c, .int many, .int size] ∧ 0 ≤ many ∧ many ≤ 1000 ∧ 0 < size ∧ size < 1073741824 ∧
  ∀ (xs : List Int) (p : Addr) (H' : Hp), H p = none → Kp H H' → H' p = some (.lst (xs.map V.int)) → Drawn0 many size xs → Q (.ref p) H'
theorem snoc_in {size z : Int} {xs : List Int} (hs : 0 < size) (h : ∀ x ∈ xs, 0 ≤ x ∧ x < size) : ∀ x ∈ xs ++ [z % size], 0 ≤ x ∧ x < size := by
  intro x hx
  rcases List.mem_append.mp hx with hx | hx
  · exact h x hx
  · rw [List.mem_singleton.mp hx]
    exact ⟨Int.emod_nonneg _ (by omega), Int.emod_lt_of_pos _ hs⟩
theorem ok_l_row (T : Txt K mg) : FnOk P w K mg base CX0 1 T.f_l_row T.d_l_row ["_law_cell_here", "_law_many", "_law_size"] sp_l_row := by
  refine T.F_l_row.ok sc_l_row (fun vs H Q E h => ?_) (fun cdv A outer s H vs Q E hr h => ?_)
  · obtain ⟨c, many, size, rfl, _⟩ := h
    rfl
  · obtain ⟨c, many, size, rfl, hm0, hm1, hs0, hs1, k⟩ := h
    refine ⟨_, (pss_cons (ps_set (i := 3) sc_l_row.nd rfl (by first | exact Or.inl rfl | exact Or.inr rfl) (pe_lst pa_nil))
      (pss_cons (ps_if (pt_cmpR op_ge (pv 0) (pe_op op_pow pe_int pe_int) (nomark _))
      (pss_cons (ps_set (i := 4) sc_l_row.nd rfl (by first | exact Or.inl rfl | exact Or.inr rfl) (pe_op op_sub (pv 0) (pe_op op_pow pe_int pe_int)))
      (pss_cons (ps_for PassesOwn.never rfl (pi_range1 (by rfl) T.m_range (pa_cons (pv 1) pa_nil)) (pg_name (i := 5) sc_l_row.nd rfl (by first | exact Or.inl rfl | exact Or.inr rfl))
      (pss_cons (ps_expr (pe_bm PySem.F.plainAttrs_list PySem.F.slot_list_append PySem.F.type_list_append mt_append (pv 3) (pa_cons (pe_op op_mod (pv 4) (pv 2)) pa_nil)))
      (pss_one (ps_set (i := 4) sc_l_row.nd rfl (by first | exact Or.inl rfl | exact Or.inr rfl) (pe_op op_fdiv (pv 4) (pv 2))))))
      (pss_one (ps_ret (pv 3)))))
      pss_nil)
      (pss_cons (ps_set (i := 6) sc_l_row.nd rfl (by first | exact Or.inl rfl | exact Or.inr rfl) (pe_op op_mod (pv 0) pe_int))
      (pss_cons (ps_for PassesOwn.never rfl (pi_range1 (by rfl) T.m_range (pa_cons (pv 1) pa_nil)) (pg_name (i := 5) sc_l_row.nd rfl (by first | exact Or.inl rfl | exact Or.inr rfl))
      (pss_cons (ps_set (i := 6) sc_l_row.nd rfl (by first | exact Or.inl rfl | exact Or.inr rfl) (pe_op op_mod (pe_op op_add (pe_op op_add (pe_op op_mul (pv 6) pe_int) pe_int) (pv 5)) pe_int))
      (pss_cons (ps_set (i := 7) sc_l_row.nd rfl (by first | exact Or.inl rfl | exact Or.inr rfl) (pe_op op_mod (pe_op op_fdiv (pe_op op_mul (pv 6) (pe_op op_add (pe_op op_mod (pv 6) pe_int) pe_int)) pe_int) pe_int))
      (pss_one (ps_expr (pe_bm PySem.F.plainAttrs_list PySem.F.slot_list_append PySem.F.type_list_append mt_append (pv 3) (pa_cons (pe_op op_mod (pv 7) (pv 2)) pa_nil)))))))
      (pss_one (ps_ret (pv 3))))))), ?_⟩
    refine ⟨Nat.zero_le _, fun p np => ?_⟩
    generalize h_H1 : upd H p _ = H1
    have k_H1 : Kp H H1 := by rw [← h_H1]; exact .new np
    have q_H1 := (congrFun h_H1 p).symm.trans upd_same
    clear h_H1
    refine ⟨_, rfl, _, _, rfl, rfl, ⟨by decide, by decide, by decide⟩, _, _, rfl, rfl, _, rfl, iteD (fun c1 => ?_) (fun c1 => ?_)⟩
    · refine ⟨_, rfl, _, _, rfl, rfl, ⟨by decide, by decide, by decide⟩, _, _, rfl, rfl, ?_⟩
      refine ⟨_, rfl, many, rfl, by omega, by omega, ?_⟩
      refine for_range (lo := 0) (n := many.toNat) (fun i σ H' => ∃ (xs : List Int) (r : Int) (y : Option V), σ = [some (.int c), some (.int many), some (.int size), some (.ref p), some (.int r), y, none, none] ∧ Kp H H' ∧ H' p = some (.lst (xs.map V.int)) ∧ xs.length = i ∧ ∀ x ∈ xs, 0 ≤ x ∧ x < size)
        ⟨[], _, none, rfl, k_H1, q_H1, rfl, by simp⟩ ?_ ?_
      · rintro i σ H' hi ⟨xs, r, y, rfl, kp, hp, hl, hb⟩
        refine ⟨_, rfl, .inl ⟨rfl, _, SqL.of hp⟩, _, rfl, _, rfl, _, _, rfl, rfl, hs0, p, _, _, rfl, rfl, hp, szt (by rw [List.length_map]; omega), ?_⟩
        refine ⟨_, rfl, _, rfl, _, _, rfl, rfl, ⟨hs0, hs1⟩, ?_⟩
        refine ⟨xs ++ [r % size], _, _, rfl, kp.mut np, ?_, by rw [List.length_append, hl]; rfl, snoc_in hs0 hb⟩
        rw [upd_same, List.map_append]
        rfl
      · rintro σ H' ⟨xs, r, y, rfl, kp, hp, hl, hb⟩
        exact ⟨_, rfl, k xs p H' np kp hp ⟨by omega, hb⟩⟩
    · refine ⟨_, rfl, _, _, rfl, rfl, (by show (0 : Int) < 2147483647; decide), ?_⟩
      refine ⟨_, rfl, many, rfl, by omega, by omega, ?_⟩
      refine for_range (lo := 0) (n := many.toNat) (fun i σ H' => ∃ (xs : List Int) (r : Int) (y y2 : Option V), σ = [some (.int c), some (.int many), some (.int size), some (.ref p), none, y, some (.int r), y2] ∧ Kp H H' ∧ H' p = some (.lst (xs.map V.int)) ∧ xs.length = i ∧ ∀ x ∈ xs, 0 ≤ x ∧ x < size)
        ⟨[], _, none, none, rfl, k_H1, q_H1, rfl, by simp⟩ ?_ ?_
      · rintro i σ H' hi ⟨xs, r, y, y2, rfl, kp, hp, hl, hb⟩
        refine ⟨_, rfl, _, _, rfl, rfl, .inr ⟨by decide, by decide⟩, _, _, rfl, rfl, _, rfl, _, _, rfl, rfl, _, _, rfl, rfl, (by show (0 : Int) < 2147483647; decide), ?_⟩
        generalize hr2 : (fun (i j : Int) => V.int (i % j)) _ _ = sv
        obtain ⟨r2, rfl⟩ : ∃ r2 : Int, sv = .int r2 := ⟨_, hr2.symm⟩
        clear hr2
        have b0 : 0 ≤ r2 % 65521 := Int.emod_nonneg _ (by decide)
        have b1 : r2 % 65521 < 65521 := Int.emod_lt_of_pos _ (by decide)
        refine ⟨_, rfl, _, rfl, _, _, rfl, rfl, (by show (0 : Int) < 65521; decide), _, _, rfl, rfl, _, _, rfl, rfl, .inr ⟨by omega, by omega⟩, _, _, rfl, rfl, ⟨by decide, by decide⟩, _, _, rfl, rfl, (by show (0 : Int) < 1000003; decide), ?_⟩
        refine ⟨_, rfl, .inl ⟨rfl, _, SqL.of hp⟩, _, rfl, _, rfl, _, _, rfl, rfl, hs0, p, _, _, rfl, rfl, hp, szt (by rw [List.length_map]; omega), ?_⟩
        refine ⟨xs ++ [r2 * (r2 % 65521 + 3) / 1009 % 1000003 % size], r2, _, _, rfl, kp.mut np, ?_, by rw [List.length_append, hl]; rfl, snoc_in hs0 hb⟩
        rw [upd_same, List.map_append]
        rfl
      · rintro σ H' ⟨xs, r, y, y2, rfl, kp, hp, hl, hb⟩
        exact ⟨_, rfl, k xs p H' np kp hp ⟨by omega, hb⟩⟩
/-! ### data of few levels can be compared -/
theorem lay_all {ds : List PyData} (h : ∀ d ∈ ds, PyData.canLay0 d = true) : PyData.canLayAll0 ds = true := by
  induction ds with
  | nil => simp [PyData.canLayAll0]
  | cons d r ih => simp [PyData.canLayAll0, h d List.mem_cons_self, ih fun x hx => h x (List.mem_cons_of_mem _ hx)]
theorem dep_all {ds : List PyData} {n : Nat} (h : ∀ d ∈ ds, PyData.depth d ≤ n) : PyData.depthAll ds ≤ n := by
  induction ds with
  | nil => simp [PyData.depthAll]
  | cons d r ih =>
    have h1 := h d List.mem_cons_self
    have h2 := ih fun x hx => h x (List.mem_cons_of_mem _ hx)
    simp only [PyData.depthAll]
    omega
/-- the same without texts -/
inductive Dm : Nat → PyData → Prop
  | non (n : Nat) : Dm (n + 1) .none
  | bl (n : Nat) (b : Bool) : Dm (n + 1) (.bool b)
  | int (n : Nat) (i : Int) : Dm (n + 1) (.int i)
  | lst {n : Nat} {ds : List PyData} : (∀ d ∈ ds, Dm n d) → ds.length ≤ 10000 → Dm (n + 1) (.list ds)
  | tup {n : Nat} {ds : List PyData} : (∀ d ∈ ds, Dm n d) → ds.length ≤ 10000 → Dm (n + 1) (.tuple ds)
theorem Dm.dn {n : Nat} {d : PyData} (h : Dm n d) : Dn n d := by
  induction h with
  | non n => exact .non _
  | bl n b => exact .bl _ _
  | int n i => exact .int _ _
  | lst h1 h2 ih => exact .lst ih h2
  | tup h1 h2 ih => exact .tup ih h2
theorem Dm.lay {n : Nat} {d : PyData} (h : Dm n d) : PyData.canLay0 d = true ∧ PyData.depth d ≤ n := by
  induction h with
  | non n => exact ⟨by simp [PyData.canLay0], by simp [PyData.depth]⟩
  | bl n b => exact ⟨by simp [PyData.canLay0], by simp [PyData.depth]⟩
  | int n i => exact ⟨by simp [PyData.canLay0], by simp [PyData.depth]⟩
  | lst h1 h2 ih =>
    refine ⟨by simp only [PyData.canLay0]; exact lay_all fun d hd => (ih d hd).1, ?_⟩
    have := dep_all fun d hd => (ih d hd).2
    simp only [PyData.depth]
    omega
  | tup h1 h2 ih =>
    refine ⟨by simp only [PyData.canLay0]; exact lay_all fun d hd => (ih d hd).1, ?_⟩
    have := dep_all fun d hd => (ih d hd).2
    simp only [PyData.depth]
    omega
theorem Dm.shaped {n : Nat} {d : PyData} (h : Dm n d) (hn : n ≤ 64) : SeqAt.shaped d = true := by
  have ⟨h1, h2⟩ := h.lay
  show (PyData.canLay0 d && decide (PyData.depth d ≤ 64)) = true
  rw [h1, decide_eq_true (by omega)]
  rfl
theorem Dm.same {n : Nat} {d : PyData} (h : Dm n d) (hn : n ≤ 64) : PyData.eqv d d = true := SeqAt.eqv_refl _ (SeqAt.canLay_of_shaped (h.shaped hn))
theorem dm_dI {n : Nat} {ns : List Int} (h : ns.length ≤ 10000) : Dm (n + 2) (dI ns) := .lst (fun d hd => by obtain ⟨z, _, rfl⟩ := List.mem_map.mp hd; exact .int _ _) (by rw [List.length_map]; exact h)
/-! ### places that a test picks -/
def fil (f : Nat → Bool) (n : Nat) : List Int := ((List.range n).filter f).map (fun (x : Nat) => (x : Int))
theorem fil_yes {f : Nat → Bool} {n : Nat} (h : f n = true) : fil f (n + 1) = fil f n ++ [(n : Int)] := by
  unfold fil
  rw [List.range_succ, List.filter_append, List.map_append]
  simp [h]
theorem fil_no {f : Nat → Bool} {n : Nat} (h : f n = false) : fil f (n + 1) = fil f n := by
  unfold fil
  rw [List.range_succ, List.filter_append, List.map_append]
  simp [h]
theorem fil_len (f : Nat → Bool) (n : Nat) : (fil f n).length ≤ n := by
  unfold fil
  rw [List.length_map]
  exact Nat.le_trans (List.length_filter_le _ _) (by rw [List.length_range]; exact Nat.le_refl _)
theorem fil_mem {f : Nat → Bool} {n : Nat} {x : Int} : x ∈ fil f n ↔ ∃ p : Nat, x = (p : Int) ∧ p < n ∧ f p = true := by
  unfold fil
  simp only [List.mem_map, List.mem_filter, List.mem_range]
  constructor
  · rintro ⟨p, ⟨h1, h2⟩, rfl⟩
    exact ⟨p, rfl, h1, h2⟩
  · rintro ⟨p, rfl, h1, h2⟩
    exact ⟨p, ⟨h1, h2⟩, rfl⟩
/-! ### _law_shown: arms, whether a sign waits, sleepers, fogs -/
structure Arms (sh : List Int) (n : Nat) : Prop where
  len : sh.length = n
  lo : 2 ≤ n
  hi : n ≤ 12
  ok : ∀ x ∈ sh, 0 ≤ x ∧ x ≤ 94
def sp_l_shown (K : PySem.W.Frag) : Sp := fun vs H Q _ => ∃ (a : Addr) (ns : List Int) (j : Nat), vs = [.ref a, .int (j : Int)] ∧ SqL K H a (ns.map V.int) ∧ j ≤ 1000 ∧
  ∀ (n : Nat) (sh : List Int) (wt : Bool) (fA fB : Nat → Bool) (t p1 p2 p3 : Addr) (H' : Hp), Kp H H' → H' t = some (.tup [.ref p1, .bl wt, .ref p2, .ref p3]) → H p1 = none → H' p1 = some (.lst (sh.map V.int)) →
    H' p2 = some (.lst ((fil fA n).map V.int)) → H' p3 = some (.lst ((fil fB n).map V.int)) → (∀ p, fB p = true → p + 1 < n) → Arms sh n → H p2 = none → H p3 = none → Q (.ref t) H'
theorem four (a z : Int) (h : 0 ≤ a ∧ a ≤ 94) : ∃ v : Int, atI [V.int 0, V.int 0, V.int a, V.int 7] (z % 4) = some (.int v) ∧ 0 ≤ v ∧ v ≤ 94 := by
  have h0 : 0 ≤ z % 4 := Int.emod_nonneg _ (by decide)
  have h1 : z % 4 < 4 := Int.emod_lt_of_pos _ (by decide)
  generalize z % 4 = m at h0 h1
  have hm : m = 0 ∨ m = 1 ∨ m = 2 ∨ m = 3 := by omega
  rcases hm with rfl | rfl | rfl | rfl
  · exact ⟨0, rfl, by decide, by decide⟩
  · exact ⟨0, rfl, by decide, by decide⟩
  · exact ⟨a, rfl, h.1, h.2⟩
  · exact ⟨7, rfl, by decide, by decide⟩
theorem ok_l_shown (T : Txt K mg) : FnOk P w K mg base CX0 2 T.f_l_shown T.d_l_shown ["_law_script", "_law_at"] (sp_l_shown K) := by
  refine T.F_l_shown.ok sc_l_shown (fun vs H Q E h => ?_) (fun cdv A outer s H vs Q E hr h => ?_)
  · obtain ⟨a, ns, j, rfl, _⟩ := h
    rfl
  · obtain ⟨a, ns, j, rfl, hS, hj, k⟩ := h
    refine ⟨_, (pss_cons (ps_set (i := 2) sc_l_shown.nd rfl (by first | exact Or.inl rfl | exact Or.inr rfl) (pe_call (ok_l_cell T) (hr.mono (by decide)) rfl T.g_l_cell T.F_l_cell.kp T.b_l_cell .nil pass0 (pa_cons (pv 0) (pa_cons (pv 1) pa_nil))))
      (pss_cons (ps_set (i := 3) sc_l_shown.nd rfl (by first | exact Or.inl rfl | exact Or.inr rfl) (pe_op op_add pe_int (pe_op op_mod (pv 2) pe_int)))
      (pss_cons (ps_set (i := 4) sc_l_shown.nd rfl (by first | exact Or.inl rfl | exact Or.inr rfl) (pe_call (ok_l_row T) (hr.mono (by decide)) rfl T.g_l_row T.F_l_row.kp T.b_l_row .nil pass0 (pa_cons (pe_call (ok_l_cell T) (hr.mono (by decide)) rfl T.g_l_cell T.F_l_cell.kp T.b_l_cell .nil pass0 (pa_cons (pv 0) (pa_cons (pe_op op_add (pv 1) pe_int) pa_nil))) (pa_cons (pe_op op_mul pe_int (pv 3)) (pa_cons (pe_op op_mul pe_int pe_int) pa_nil)))))
      (pss_cons (ps_set (i := 5) sc_l_shown.nd rfl (by first | exact Or.inl rfl | exact Or.inr rfl) (pe_lst pa_nil))
      (pss_cons (ps_set (i := 6) sc_l_shown.nd rfl (by first | exact Or.inl rfl | exact Or.inr rfl) (pe_lst pa_nil))
      (pss_cons (ps_set (i := 7) sc_l_shown.nd rfl (by first | exact Or.inl rfl | exact Or.inr rfl) (pe_lst pa_nil))
      (pss_cons (ps_for PassesOwn.never rfl (pi_range1 (by rfl) T.m_range (pa_cons (pv 3) pa_nil)) (pg_name (i := 8) sc_l_shown.nd rfl (by first | exact Or.inl rfl | exact Or.inr rfl))
      (pss_cons (ps_set (i := 9) sc_l_shown.nd rfl (by first | exact Or.inl rfl | exact Or.inr rfl) (pe_ix ix_list (pv 4) (pe_op op_mul pe_int (pv 8)) (fun _ _ => rfl)))
      (pss_cons (ps_expr (pe_bm PySem.F.plainAttrs_list PySem.F.slot_list_append PySem.F.type_list_append mt_append (pv 5) (pa_cons (pe_ix ix_tup (pe_tup (pa_cons pe_int (pa_cons pe_int (pa_cons (pe_op op_add pe_int (pe_op op_mod (pv 9) pe_int)) (pa_cons pe_int pa_nil))))) (pe_op op_mod (pe_op op_fdiv (pv 9) pe_int) pe_int) (fun _ _ => rfl)) pa_nil)))
      (Evl.pss_cut (ps_if (pt_cmpR op_eq (pe_op op_mod (pe_ix ix_list (pv 4) (pe_op op_add (pe_op op_mul pe_int (pv 8)) pe_int) (fun _ _ => rfl)) (pe_op op_add pe_int (pe_op op_mod (pe_op op_fdiv (pv 2) pe_int) pe_int))) pe_int (nomark _))
      (pss_one (ps_expr (pe_bm PySem.F.plainAttrs_list PySem.F.slot_list_append PySem.F.type_list_append mt_append (pv 6) (pa_cons (pv 8) pa_nil))))
      pss_nil)
      (pss_one (ps_if (PW.pt (pw_and (pt_cmpR op_eq (pe_op op_mod (pe_ix ix_list (pv 4) (pe_op op_add (pe_op op_mul pe_int (pv 8)) pe_int) (fun _ _ => rfl)) (pe_op op_add pe_int (pe_op op_mod (pe_op op_fdiv (pv 2) pe_int) pe_int))) pe_int (nomark _)) (pw_and1 (pt_cmpR op_lt (pv 8) (pe_op op_sub (pv 3) pe_int) (nomark _)))))
      (pss_one (ps_expr (pe_bm PySem.F.plainAttrs_list PySem.F.slot_list_append PySem.F.type_list_append mt_append (pv 7) (pa_cons (pv 8) pa_nil))))
      pss_nil))))))
      (pss_one (ps_ret (pe_tup (pa_cons (pv 5) (pa_cons (pe_cmpR op_eq (pe_op op_mod (pe_op op_fdiv (pv 2) pe_int) pe_int) pe_int (nomark _)) (pa_cons (pv 6) (pa_cons (pv 7) pa_nil)))))))))))))), ?_⟩
    refine ⟨_, rfl, _, rfl, a, ns, j, rfl, hS, by omega, ?_⟩
    generalize cellV ns j = pick
    have m0 : 0 ≤ pick % 11 := Int.emod_nonneg _ (by decide)
    have m1 : pick % 11 < 11 := Int.emod_lt_of_pos _ (by decide)
    refine ⟨_, rfl, _, _, rfl, rfl, (by show (0 : Int) < 11; decide), _, _, rfl, rfl, ?_⟩
    obtain ⟨n, hn⟩ : ∃ n : Nat, (2 : Int) + pick % 11 = (n : Int) := ⟨((2 : Int) + pick % 11).toNat, by omega⟩
    refine ⟨_, rfl, _, rfl, _, _, rfl, rfl, a, ns, j + 1, rfl, hS, by omega, ?_⟩
    refine ⟨_, rfl, _, _, rfl, rfl, .inl ⟨by decide, by decide⟩, _, _, rfl, rfl, .inl ⟨by decide, by decide⟩, _, _, _, rfl, by omega, by omega, by decide, by decide, fun nums p4 H1 n4 k1 q1 ⟨hl, hb⟩ => ?_⟩
    refine ⟨Nat.zero_le _, fun p5 n5 => ?_⟩
    generalize h_H2 : upd H1 p5 _ = H2
    have k_H2 : Kp H1 H2 := by rw [← h_H2]; exact .new n5
    have q_H2 := (congrFun h_H2 p5).symm.trans upd_same
    clear h_H2
    refine ⟨Nat.zero_le _, fun p6 n6 => ?_⟩
    generalize h_H3 : upd H2 p6 _ = H3
    have k_H3 : Kp H2 H3 := by rw [← h_H3]; exact .new n6
    have q_H3 := (congrFun h_H3 p6).symm.trans upd_same
    clear h_H3
    refine ⟨Nat.zero_le _, fun p7 n7 => ?_⟩
    generalize h_H4 : upd H3 p7 _ = H4
    have k_H4 : Kp H3 H4 := by rw [← h_H4]; exact .new n7
    have q_H4 := (congrFun h_H4 p7).symm.trans upd_same
    clear h_H4
    have ne56 : p5 ≠ p6 := ne_of_none q_H2 n6
    have ne57 : p5 ≠ p7 := ne_of_none (k_H3.same _ _ rfl q_H2) n7
    have ne67 : p6 ≠ p7 := ne_of_none q_H3 n7
    have ne45 : p4 ≠ p5 := ne_of_none q1 n5
    have ne46 : p4 ≠ p6 := ne_of_none (k_H2.same _ _ rfl q1) n6
    have ne47 : p4 ≠ p7 := ne_of_none (k_H3.same _ _ rfl (k_H2.same _ _ rfl q1)) n7
    have f5 := k1.free _ n5
    have f6 := k1.free _ (k_H2.free _ n6)
    have f7 := k1.free _ (k_H2.free _ (k_H3.free _ n7))
    have k4 := ((k1.trans k_H2).trans k_H3).trans k_H4
    obtain ⟨da, hda⟩ : ∃ da : Int, (2 : Int) + pick / 11 % 9 = da := ⟨_, rfl⟩
    obtain ⟨db, hdb⟩ : ∃ db : Int, (2 : Int) + pick / 99 % 9 = db := ⟨_, rfl⟩
    have hda0 : 0 < da := by have := Int.emod_nonneg (pick / 11) (show (9 : Int) ≠ 0 by decide); omega
    have hdb0 : 0 < db := by have := Int.emod_nonneg (pick / 99) (show (9 : Int) ≠ 0 by decide); omega
    let fA : Nat → Bool := fun p => decide (nums.getD (3 * p + 1) 0 % da = 1)
    let fB : Nat → Bool := fun p => decide (nums.getD (3 * p + 2) 0 % db = 1) && decide (p + 1 < n)
    have hln : nums.length = 3 * n := by omega
    refine ⟨_, rfl, _, rfl, by omega, by omega, ?_⟩
    refine for_range (lo := 0) (n := ((2 : Int) + pick % 11).toNat) (fun i σ H' => ∃ (sh : List Int) (y y2 : Option V), σ = [some (.ref a), some (.int (j : Int)), some (.int pick), some (.int (2 + pick % 11)), some (.ref p4), some (.ref p5), some (.ref p6), some (.ref p7), y, y2] ∧ Kp H H' ∧ H' p4 = some (.lst (nums.map V.int)) ∧ H' p5 = some (.lst (sh.map V.int)) ∧ H' p6 = some (.lst ((fil fA i).map V.int)) ∧ H' p7 = some (.lst ((fil fB i).map V.int)) ∧ sh.length = i ∧ ∀ x ∈ sh, 0 ≤ x ∧ x ≤ 94)
        ⟨[], none, none, rfl, k4, k_H4.same _ _ rfl (k_H3.same _ _ rfl (k_H2.same _ _ rfl q1)), k_H4.same _ _ rfl (k_H3.same _ _ rfl q_H2), k_H4.same _ _ rfl q_H3, q_H4, rfl, by simp⟩ ?_ ?_
    · rintro i σ H' hi ⟨sh, y, y2, rfl, kp, h4, h5, h6, h7, hsl, hsb⟩
      have ez : (0 : Int) + (i : Int) = (i : Int) := Int.zero_add _
      rw [ez]
      have e0 : atI (nums.map V.int) (3 * (i : Int)) = some (.int (nums.getD (3 * i) 0)) := by
        have := getD_at (ns := nums) (j := 3 * i) (by omega)
        rw [← this]
        congr 1
      have e1 : atI (nums.map V.int) (3 * (i : Int) + 1) = some (.int (nums.getD (3 * i + 1) 0)) := by
        have := getD_at (ns := nums) (j := 3 * i + 1) (by omega)
        rw [← this]
        congr 1
      have e2 : atI (nums.map V.int) (3 * (i : Int) + 2) = some (.int (nums.getD (3 * i + 2) 0)) := by
        have := getD_at (ns := nums) (j := 3 * i + 2) (by omega)
        rw [← this]
        congr 1
      refine ⟨_, rfl, _, rfl, _, _, rfl, rfl, .inl ⟨by decide, by decide⟩, p4, _, _, _, rfl, rfl, .inl (.inl h4), e0, ?_⟩
      generalize nums.getD (3 * i) 0 = num
      have b0 : 0 ≤ num % 94 := Int.emod_nonneg _ (by decide)
      have b1 : num % 94 < 94 := Int.emod_lt_of_pos _ (by decide)
      obtain ⟨v, hv, v0, v1⟩ := four (1 + num % 94) (num / 94) ⟨by omega, by omega⟩
      refine ⟨_, rfl, .inl ⟨rfl, _, SqL.of h5⟩, _, rfl, _, _, rfl, rfl, (by show (0 : Int) < 94; decide), _, _, rfl, rfl, szl (by show 4 ≤ 100000; decide), fun t nt => ?_⟩
      generalize h_H5 : upd H' t _ = H5
      have k_H5 : Kp H' H5 := by rw [← h_H5]; exact .new nt
      have q_H5 := (congrFun h_H5 t).symm.trans upd_same
      clear h_H5
      refine ⟨_, rfl, _, _, rfl, rfl, ⟨by decide, by decide⟩, _, _, rfl, rfl, (by show (0 : Int) < 4; decide), t, _, _, _, rfl, rfl, .inl (.inl q_H5), hv, p5, _, _, rfl, rfl, k_H5.same _ _ rfl h5, szt (by rw [List.length_map]; omega), ?_⟩
      have kp5 : Kp H (upd H5 p5 (.lst (sh.map V.int ++ [.int v]))) := (kp.trans k_H5).mut f5
      have g4 : (upd H5 p5 (.lst (sh.map V.int ++ [.int v]))) p4 = some (.lst (nums.map V.int)) := by rw [upd_ne ne45]; exact k_H5.same _ _ rfl h4
      have g5 : (upd H5 p5 (.lst (sh.map V.int ++ [.int v]))) p5 = some (.lst ((sh ++ [v]).map V.int)) := by rw [upd_same, List.map_append]; rfl
      have g6 : (upd H5 p5 (.lst (sh.map V.int ++ [.int v]))) p6 = some (.lst ((fil fA i).map V.int)) := by rw [upd_ne ne56.symm]; exact k_H5.same _ _ rfl h6
      have g7 : (upd H5 p5 (.lst (sh.map V.int ++ [.int v]))) p7 = some (.lst ((fil fB i).map V.int)) := by rw [upd_ne ne57.symm]; exact k_H5.same _ _ rfl h7
      generalize upd H5 p5 (.lst (sh.map V.int ++ [.int v])) = H6 at kp5 g4 g5 g6 g7
      let Mid : L2.St → Hp → Prop := fun σ' H'' => σ' = [some (.ref a), some (.int (j : Int)), some (.int pick), some (.int (2 + pick % 11)), some (.ref p4), some (.ref p5), some (.ref p6), some (.ref p7), some (.int (i : Int)), some (.int num)] ∧ Kp H H'' ∧ H'' p4 = some (.lst (nums.map V.int)) ∧ H'' p5 = some (.lst ((sh ++ [v]).map V.int)) ∧ H'' p6 = some (.lst ((fil fA (i + 1)).map V.int)) ∧ H'' p7 = some (.lst ((fil fB i).map V.int))
      refine ⟨Mid, ?_, ?_⟩
      · refine ⟨_, rfl, _, rfl, _, _, rfl, rfl, .inl ⟨by decide, by decide⟩, _, _, rfl, rfl, p4, _, _, _, rfl, rfl, .inl (.inl g4), e1, _, rfl, _, _, rfl, rfl, ⟨by decide, by decide⟩, _, _, rfl, rfl, (by show (0 : Int) < 9; decide), _, _, rfl, rfl, _, _, rfl, rfl, (by rw [hda]; exact hda0), rfl, _, rfl, iteD (fun c => ?_) (fun c => ?_)⟩
        · have c := V.int.inj c
          have hf : fA i = true := decide_eq_true (by rw [← hda]; exact c)
          refine ⟨_, rfl, .inl ⟨rfl, _, SqL.of g6⟩, _, rfl, p6, _, _, rfl, rfl, g6, szt (by rw [List.length_map]; have := fil_len fA i; omega), ?_⟩
          refine ⟨rfl, kp5.mut f6, by rw [upd_ne ne46]; exact g4, by rw [upd_ne ne56]; exact g5, ?_, by rw [upd_ne ne67.symm]; exact g7⟩
          rw [upd_same, fil_yes hf, List.map_append]
          rfl
        · have hf : fA i = false := decide_eq_false (fun z => c (by rw [hda]; exact congrArg V.int z))
          exact ⟨rfl, kp5, g4, g5, by rw [fil_no hf]; exact g6, g7⟩
      rintro σ' H'' ⟨rfl, kp6, r4, r5, r6, r7⟩
      have fin : ∀ H3 : Hp, Kp H H3 → H3 p4 = some (.lst (nums.map V.int)) → H3 p5 = some (.lst ((sh ++ [v]).map V.int)) → H3 p6 = some (.lst ((fil fA (i + 1)).map V.int)) → H3 p7 = some (.lst ((fil fB (i + 1)).map V.int)) →
          ∃ (sh : List Int) (y y2 : Option V), [some (.ref a), some (.int (j : Int)), some (.int pick), some (.int (2 + pick % 11)), some (.ref p4), some (.ref p5), some (.ref p6), some (.ref p7), some (.int (i : Int)), some (.int num)] = [some (.ref a), some (.int (j : Int)), some (.int pick), some (.int (2 + pick % 11)), some (.ref p4), some (.ref p5), some (.ref p6), some (.ref p7), y, y2] ∧ Kp H H3 ∧ H3 p4 = some (.lst (nums.map V.int)) ∧ H3 p5 = some (.lst (sh.map V.int)) ∧ H3 p6 = some (.lst ((fil fA (i + 1)).map V.int)) ∧ H3 p7 = some (.lst ((fil fB (i + 1)).map V.int)) ∧ sh.length = i + 1 ∧ ∀ x ∈ sh, 0 ≤ x ∧ x ≤ 94 := by
        intro H3 a1 a2 a3 a4 a5
        refine ⟨sh ++ [v], _, _, rfl, a1, a2, a3, a4, a5, by rw [List.length_append, hsl]; rfl, fun x hx => ?_⟩
        rcases List.mem_append.mp hx with hx | hx
        · exact hsb x hx
        · rw [List.mem_singleton.mp hx]
          exact ⟨v0, v1⟩
      refine ⟨_, rfl, _, rfl, _, _, rfl, rfl, .inl ⟨by decide, by decide⟩, _, _, rfl, rfl, p4, _, _, _, rfl, rfl, .inl (.inl r4), e2, _, rfl, _, _, rfl, rfl, ⟨by decide, by decide⟩, _, _, rfl, rfl, (by show (0 : Int) < 9; decide), _, _, rfl, rfl, _, _, rfl, rfl, (by rw [hdb]; exact hdb0), rfl, _, rfl, iteD (fun c => ?_) (fun c => ?_)⟩
      · have c := V.int.inj c
        have c' : nums.getD (3 * i + 2) 0 % db = 1 := by rw [← hdb]; exact c
        refine ⟨_, rfl, _, rfl, _, _, rfl, rfl, _, _, rfl, rfl, _, rfl, iteD (fun c2 => ?_) (fun c2 => ?_)⟩
        · have hf : fB i = true := by
            show (decide _ && decide _) = true
            rw [decide_eq_true c', decide_eq_true (show i + 1 < n by omega)]
            rfl
          refine ⟨_, rfl, .inl ⟨rfl, _, SqL.of r7⟩, _, rfl, p7, _, _, rfl, rfl, r7, szt (by rw [List.length_map]; have := fil_len fB i; omega), ?_⟩
          refine fin _ (kp6.mut f7) (by rw [upd_ne ne47]; exact r4) (by rw [upd_ne ne57]; exact r5) (by rw [upd_ne ne67]; exact r6) ?_
          rw [upd_same, fil_yes hf, List.map_append]
          rfl
        · have hf : fB i = false := by
            show (decide _ && decide _) = false
            rw [decide_eq_false (show ¬ i + 1 < n by omega), Bool.and_false]
          exact fin _ kp6 r4 r5 r6 (by rw [fil_no hf]; exact r7)
      · have hf : fB i = false := by
          show (decide _ && decide _) = false
          rw [decide_eq_false (fun z : nums.getD (3 * i + 2) 0 % db = 1 => c (by rw [hdb]; exact congrArg V.int z)), Bool.false_and]
        exact fin _ kp6 r4 r5 r6 (by rw [fil_no hf]; exact r7)
    · rintro σ H' ⟨sh, y, y2, rfl, kp, h4, h5, h6, h7, hsl, hsb⟩
      have hN : ((2 : Int) + pick % 11).toNat = n := by omega
      rw [hN] at h6 h7 hsl
      refine ⟨_, rfl, _, rfl, _, _, rfl, rfl, ⟨by decide, by decide⟩, _, _, rfl, rfl, (by show (0 : Int) < 2; decide), rfl, _, rfl, _, rfl, szl (by show 4 ≤ 100000; decide), fun t nt => ?_⟩
      generalize h_H5 : upd H' t _ = H5
      have k_H5 : Kp H' H5 := by rw [← h_H5]; exact .new nt
      have q_H5 := (congrFun h_H5 t).symm.trans upd_same
      clear h_H5
      refine k n sh _ fA fB t p5 p6 p7 H5 (kp.trans k_H5) q_H5 f5 (k_H5.same _ _ rfl h5) (k_H5.same _ _ rfl h6) (k_H5.same _ _ rfl h7) (fun p hp => ?_) ⟨hsl, by omega, by omega, hsb⟩ f6 f7
      have hp : (decide _ && decide (p + 1 < n)) = true := hp
      rw [Bool.and_eq_true] at hp
      exact of_decide_eq_true hp.2
/-! ### what must be freed -/
def rs (sh : List Int) (i : Nat) : Bool := decide (V.int (sh.getD i 0) = V.int 0)
def inL (z : Int) (xs : List Int) : Bool := inV (.int z) (xs.map V.int)
theorem inL_iff {z : Int} {xs : List Int} : inL z xs = true ↔ z ∈ xs := by
  unfold inL inV
  rw [List.any_eq_true]
  constructor
  · rintro ⟨y, hy, e⟩
    obtain ⟨x, hx, rfl⟩ := List.mem_map.mp hy
    have e : (x == z) = true := e
    rw [beq_iff_eq] at e
    rw [← e]
    exact hx
  · intro h
    exact ⟨.int z, List.mem_map.mpr ⟨z, h, rfl⟩, by show (z == z) = true; exact beq_self_eq_true z⟩
theorem flat_ints (xs : List Int) : (xs.map V.int).all flatV = true := by
  rw [List.all_eq_true]
  intro x hx
  obtain ⟨z, _, rfl⟩ := List.mem_map.mp hx
  rfl
def sgB (sh : List Int) (p : Nat) : Bool := !rs sh p
def rearN (sh : List Int) (wt : Bool) : Nat := if wt = true then 0 else ((List.range sh.length).filter (sgB sh)).headD sh.length
theorem fil_sorted (f : Nat → Bool) (n : Nat) : (fil f n).Pairwise (· < ·) := by
  unfold fil
  rw [List.pairwise_map]
  exact (List.Pairwise.filter f List.pairwise_lt_range).imp fun h => by omega
theorem fil_head {f : Nat → Bool} {n : Nat} {m : Int} (h1 : m ∈ fil f n) (h2 : ∀ y ∈ fil f n, m ≤ y) : m = ((((List.range n).filter f).headD n : Nat) : Int) := by
  have hs := fil_sorted f n
  unfold fil at *
  cases e : (List.range n).filter f with
  | nil => rw [e] at h1; simp at h1
  | cons x r =>
    rw [e] at h1 h2 hs
    rw [List.map_cons] at h1 h2 hs
    show m = (x : Int)
    have g := h2 (x : Int) List.mem_cons_self
    rcases List.mem_cons.mp h1 with z | z
    · exact z
    · have := (List.pairwise_cons.mp hs).1 m z
      omega
theorem rear_le (sh : List Int) (wt : Bool) : rearN sh wt ≤ sh.length := by
  unfold rearN
  split
  · omega
  · cases e : (List.range sh.length).filter (sgB sh) with
    | nil => exact Nat.le_refl _
    | cons x r =>
      have : x ∈ (List.range sh.length).filter (sgB sh) := by rw [e]; exact List.mem_cons_self
      simp only [List.mem_filter, List.mem_range] at this
      show x ≤ _
      omega
def wkB (r : Nat) (f : Nat → Bool) (p : Nat) : Bool := decide (r ≤ p) && f p
def lfB (r : Nat) (f : Nat → Bool) (p : Nat) : Bool := decide (r ≤ p + 1) && f p
theorem fil_none {f : Nat → Bool} {n : Nat} (h : ∀ p, p < n → f p = false) : fil f n = [] := by
  unfold fil
  rw [List.map_eq_nil_iff, List.filter_eq_nil_iff]
  intro p hp
  rw [h p (List.mem_range.mp hp)]
  exact Bool.false_ne_true
theorem at_nat {sh : List Int} {p : Nat} (h : p < sh.length) : (sh.map V.int)[p]? = some (.int (sh.getD p 0)) := by
  rw [List.getElem?_map, List.getD_eq_getElem?_getD, List.getElem?_eq_getElem h]
  rfl
def sp_p_rearmost (K : PySem.W.Frag) : Sp := fun vs H Q _ => ∃ (a : Addr) (sh : List Int) (wt : Bool), vs = [.ref a, .bl wt] ∧ SqL K H a (sh.map V.int) ∧ sh.length ≤ 1000 ∧ ∀ H', Kp H H' → Q (.int (rearN sh wt : Int)) H'
theorem ok_p_rearmost (T : Txt K mg) : FnOk P w K mg base CX0 1 T.f_p_rearmost T.d_p_rearmost ["shown", "waits"] (sp_p_rearmost K) := by
  refine T.F_p_rearmost.ok sc_p_rearmost (fun vs H Q E h => ?_) (fun cdv A outer s H vs Q E hr h => ?_)
  · obtain ⟨a, sh, wt, rfl, _⟩ := h
    rfl
  · obtain ⟨a, sh, wt, rfl, hS, hl, k⟩ := h
    refine ⟨_, (pss_cons (ps_if (pt_val (pv 1))
      (pss_one (ps_ret pe_int))
      pss_nil)
      (pss_cons (ps_setLc (i := 2) (own := [("place", 3), ("sign", 4)]) (by rfl) sc_p_rearmost.nd rfl rfl (sw_true rfl rfl rfl (by decide +kernel)) (pi_enum (by rfl) T.m_enumerate (pa_cons (pv 0) pa_nil)) (blkOk_by (own := [("place", 3), ("sign", 4)]) (N := ["shown", "waits", "signing", "place", "sign"]) (sc := defScope s_p_rearmost) (by decide +kernel)) (fun _ _ _ _ _ => (pgK K rfl (pg_tup (n := 2) rfl (pgs_cons (pg_name (i := 3) sc_p_rearmost.nd rfl (by first | exact Or.inl rfl | exact Or.inr rfl)) (pgs_cons (pg_name (i := 4) sc_p_rearmost.nd rfl (by first | exact Or.inl rfl | exact Or.inr rfl)) pgs_nil))))) (fun _ _ _ _ _ => (pts_one (pt_cmpR op_ne (pv 4) (pe_glob rfl T.c_REST T.r_REST) (nomark _)))) (fun _ _ _ _ _ => (pv 3)))
      (pss_one (ps_ret (pe_callBK (cr_minDf rfl hr.units) (by rfl) T.m_min (by decide +kernel) (pa_cons (pv 2) pa_nil) (pk_cons (pe_callB call_len_seq (by rfl) T.m_len PySem.boot_len (pa_cons (pv 0) pa_nil)) pk_nil)))))), ?_⟩
    cases wt with
    | true => exact ⟨_, rfl, _, rfl, iteTo rfl (k _ (.refl _))⟩
    | false =>
      refine ⟨_, rfl, _, rfl, iteFo rfl ?_⟩
      refine ⟨_, rfl, a, _, rfl, hS, fun D hD => ?_⟩
      refine lc_it (walk_enum (K := K) (a := a) (xs := sh.map V.int)) (fun i H' => Kp H H' ∧ H' D = some (.lst ((fil (sgB sh) i).map V.int))) ⟨Kp.new hD, upd_same⟩ (fun i H' _ ⟨kp, _⟩ => kp.sqL hS) ?_ ?_
      · rintro i x H' H'' hi ⟨kp, hDl⟩ ⟨t, i', v, rfl, nt, rfl, ei, ev⟩
        cases Option.some.inj ei
        rw [List.length_map] at hi
        have ev : (sh.map V.int)[i]? = some v := ev
        rw [at_nat hi] at ev
        cases Option.some.inj ev
        generalize h_H2 : upd H' t _ = H2
        have k_H2 : Kp H' H2 := by rw [← h_H2]; exact .new nt
        have q_H2 := (congrFun h_H2 t).symm.trans upd_same
        clear h_H2
        have hD2 := k_H2.same _ _ rfl hDl
        have hfl := fil_len (sgB sh) i
        refine ⟨t, _, rfl, .inl (.inl q_H2), rfl, _, _, rfl, _, _, rfl, rfl, rfl, ?_⟩
        refine ⟨_, rfl, rfl, _, rfl, iteB (fun c => ?_) (fun c => ?_)⟩
        · have c : sgB sh i = true := c
          refine ⟨_, rfl, _, hD2, szt (by rw [List.length_map]; omega), (kp.trans k_H2).mut hD, ?_⟩
          rw [upd_same, fil_yes c, List.map_append]
          rfl
        · have c : sgB sh i = false := c
          exact ⟨kp.trans k_H2, by rw [fil_no c]; exact hD2⟩
      · rintro H1 ⟨k1, hD1⟩
        rw [List.length_map] at hD1
        refine ⟨_, rfl, _, rfl, a, _, rfl, .inl (k1.sqL hS), D, _, _, rfl, rfl, .inl (.inl hD1), fun e => ?_, fun m h1 h2 => ?_⟩
        · have z := k _ k1
          unfold rearN at z
          rw [if_neg Bool.false_ne_true] at z
          have e2 : (List.range sh.length).filter (sgB sh) = [] := by unfold fil at e; exact List.map_eq_nil_iff.mp e
          rw [e2] at z
          rw [List.length_map]
          exact z
        · have z := k _ k1
          unfold rearN at z
          rw [if_neg Bool.false_ne_true] at z
          rw [fil_head h1 h2]
          exact z
def sp_p_freed (K : PySem.W.Frag) : Sp := fun vs H Q _ => ∃ (a s f : Addr) (sh asl fg : List Int) (wt : Bool) (fA fB : Nat → Bool), vs = [.ref a, .bl wt, .ref s, .ref f] ∧ SqL K H a (sh.map V.int) ∧ SqL K H s (asl.map V.int) ∧ SqL K H f (fg.map V.int) ∧ 1 ≤ sh.length ∧ sh.length ≤ 1000 ∧
  (∀ p, p < sh.length → inL (p : Int) asl = fA p) ∧ (∀ p, p < sh.length → inL (p : Int) fg = fB p) ∧ (∀ p, fB p = true → p + 1 < sh.length) ∧
  ∀ (t p1 p2 : Addr) (H' : Hp), Kp H H' → H' t = some (.tup [.ref p1, .ref p2]) → H p1 = none → H p2 = none → p1 ≠ p2 → H' p1 = some (.lst ((fil (wkB (rearN sh wt) fA) sh.length).map V.int)) → H' p2 = some (.lst ((fil (lfB (rearN sh wt) fB) sh.length).map V.int)) → Q (.ref t) H'
theorem ok_p_freed (T : Txt K mg) : FnOk P w K mg base CX0 2 T.f_p_freed T.d_p_freed ["shown", "waits", "asleep", "fogs"] (sp_p_freed K) := by
  refine T.F_p_freed.ok sc_p_freed (fun vs H Q E h => ?_) (fun cdv A outer s H vs Q E hr h => ?_)
  · obtain ⟨a, s, f, sh, asl, fg, wt, fA, fB, rfl, _⟩ := h
    rfl
  · obtain ⟨a, s, f, sh, asl, fg, wt, fA, fB, rfl, hS, hA, hF, hl1, hl, iA, iB, hB, k⟩ := h
    have hlen : ((sh.map V.int).length : Int) = (sh.length : Int) := by rw [List.length_map]
    refine ⟨_, (pss_cons (ps_set (i := 4) sc_p_freed.nd rfl (by first | exact Or.inl rfl | exact Or.inr rfl) (pe_call (ok_p_rearmost T) (hr.mono (by decide)) rfl T.g_p_rearmost T.F_p_rearmost.kp T.b_p_rearmost .nil pass0 (pa_cons (pv 0) (pa_cons (pv 1) pa_nil))))
      (pss_cons (ps_set (i := 5) sc_p_freed.nd rfl (by first | exact Or.inl rfl | exact Or.inr rfl) (pe_callB call_len_seq (by rfl) T.m_len PySem.boot_len (pa_cons (pv 0) pa_nil)))
      (pss_cons (ps_setLc (i := 6) (own := [("place", 7)]) (g := gName 7) (by rfl) sc_p_freed.nd rfl rfl (sw_true rfl rfl rfl (by decide +kernel)) (pi_range2 (by rfl) T.m_range (pa_cons (pv 4) (pa_cons (pv 5) pa_nil))) (blkOk_by (own := [("place", 7)]) (N := ["shown", "waits", "asleep", "fogs", "rear", "places", "wake", "place", "lift"]) (sc := defScope s_p_freed) (by decide +kernel)) (fun _ _ _ _ _ => (pg_name (i := 7) sc_p_freed.nd rfl (by first | exact Or.inl rfl | exact Or.inr rfl))) (fun _ _ _ _ _ => (pts_one (pt_cmpR (op_inK K rfl) (pv 7) (pv 2) rfl))) (fun _ _ _ _ _ => (pv 7)))
      (pss_cons (ps_setLc (i := 8) (own := [("place", 7)]) (g := gName 7) (by rfl) sc_p_freed.nd rfl rfl (sw_true rfl rfl rfl (by decide +kernel)) (pi_range2 (by rfl) T.m_range (pa_cons (pe_callB (call_max2 rfl) (by rfl) T.m_max (by decide +kernel) (pa_cons (pe_op op_sub (pv 4) pe_int) (pa_cons pe_int pa_nil))) (pa_cons (pe_op op_sub (pv 5) pe_int) pa_nil))) (blkOk_by (own := [("place", 7)]) (N := ["shown", "waits", "asleep", "fogs", "rear", "places", "wake", "place", "lift"]) (sc := defScope s_p_freed) (by decide +kernel)) (fun _ _ _ _ _ => (pg_name (i := 7) sc_p_freed.nd rfl (by first | exact Or.inl rfl | exact Or.inr rfl))) (fun _ _ _ _ _ => (pts_one (pt_cmpR (op_inK K rfl) (pv 7) (pv 3) rfl))) (fun _ _ _ _ _ => (pv 7)))
      (pss_one (ps_ret (pe_tup (pa_cons (pv 6) (pa_cons (pv 8) pa_nil))))))))), ?_⟩
    refine ⟨_, rfl, _, rfl, a, sh, wt, rfl, hS, hl, fun H1 k1 => ?_⟩
    have hrl := rear_le sh wt
    generalize rearN sh wt = rr at hrl k
    refine ⟨_, rfl, a, _, rfl, .inl (k1.sqL hS), ?_⟩
    refine ⟨_, rfl, _, rfl, _, _, rfl, ⟨by omega, by omega, by rw [hlen]; omega, by rw [hlen]; omega⟩, fun D hD => ?_⟩
    rw [show (((sh.map V.int).length : Int) - (rr : Int)).toNat = sh.length - rr by rw [hlen]; omega]
    refine lc_range (lo := (rr : Int)) (n := sh.length - rr) (fun i H' => Kp H1 H' ∧ H' D = some (.lst ((fil (wkB rr fA) (rr + i)).map V.int))) ⟨Kp.new hD, ?_⟩ (fun i H' hi ⟨kp, hDl⟩ => ?_) (fun H2 ⟨k2, hD2⟩ => ?_)
    · rw [upd_same, fil_none (fun p hp => by unfold wkB; rw [decide_eq_false (by omega)]; rfl)]
      rfl
    · have ez : (rr : Int) + (i : Int) = ((rr + i : Nat) : Int) := by omega
      rw [ez]
      have hfl := fil_len (wkB rr fA) (rr + i)
      have hw : wkB rr fA (rr + i) = fA (rr + i) := by unfold wkB; rw [decide_eq_true (by omega)]; rfl
      refine ⟨rfl, ?_⟩
      refine ⟨_, rfl, _, rfl, s, _, rfl, .inl ((k1.trans kp).sqL hA), rfl, flat_ints asl, _, rfl, iteB (fun c => ?_) (fun c => ?_)⟩
      · have c : inL ((rr + i : Nat) : Int) asl = true := c
        rw [iA _ (by omega), ← hw] at c
        refine ⟨_, rfl, _, hDl, szt (by rw [List.length_map]; omega), kp.mut hD, ?_⟩
        rw [upd_same, show rr + (i + 1) = rr + i + 1 by omega, fil_yes c, List.map_append]
        rfl
      · have c : inL ((rr + i : Nat) : Int) asl = false := c
        rw [iA _ (by omega), ← hw] at c
        exact ⟨kp, by rw [show rr + (i + 1) = rr + i + 1 by omega, fil_no c]; exact hDl⟩
    rw [show rr + (sh.length - rr) = sh.length by omega] at hD2
    have fD := k1.free _ hD
    have k02 := k1.trans k2
    have hm : (if (rr : Int) - 1 < 0 then (0 : Int) else (rr : Int) - 1) = ((rr - 1 : Nat) : Int) := by split <;> omega
    refine ⟨_, rfl, _, _, rfl, rfl, _, _, rfl, _, rfl, _, _, rfl, rfl, _, _, rfl, ⟨?_, ?_, by rw [hlen]; omega, by rw [hlen]; omega⟩, fun E2 hE => ?_⟩
    · show -(2 ^ 62) ≤ (if (rr : Int) - 1 < 0 then (0 : Int) else (rr : Int) - 1)
      rw [hm]
      omega
    · show (if (rr : Int) - 1 < 0 then (0 : Int) else (rr : Int) - 1) < 2 ^ 62
      rw [hm]
      omega
    rw [show (((sh.map V.int).length : Int) - 1 - (if (rr : Int) - 1 < 0 then (0 : Int) else (rr : Int) - 1)).toNat = sh.length - 1 - (rr - 1) by rw [hm, hlen]; omega, hm]
    refine lc_range (lo := ((rr - 1 : Nat) : Int)) (n := sh.length - 1 - (rr - 1)) (fun i H' => Kp H2 H' ∧ H' E2 = some (.lst ((fil (lfB rr fB) (rr - 1 + i)).map V.int))) ⟨Kp.new hE, ?_⟩ (fun i H' hi ⟨kp, hDl⟩ => ?_) (fun H3 ⟨k3, hE3⟩ => ?_)
    · rw [upd_same, fil_none (fun p hp => by unfold lfB; rw [decide_eq_false (by omega)]; rfl)]
      rfl
    · have ez : ((rr - 1 : Nat) : Int) + (i : Int) = ((rr - 1 + i : Nat) : Int) := by omega
      rw [ez]
      have hfl := fil_len (lfB rr fB) (rr - 1 + i)
      have hw : lfB rr fB (rr - 1 + i) = fB (rr - 1 + i) := by unfold lfB; rw [decide_eq_true (by omega)]; rfl
      refine ⟨rfl, ?_⟩
      refine ⟨_, rfl, _, rfl, f, _, rfl, .inl ((k02.trans kp).sqL hF), rfl, flat_ints fg, _, rfl, iteB (fun c => ?_) (fun c => ?_)⟩
      · have c : inL ((rr - 1 + i : Nat) : Int) fg = true := c
        rw [iB _ (by omega), ← hw] at c
        refine ⟨_, rfl, _, hDl, szt (by rw [List.length_map]; omega), kp.mut hE, ?_⟩
        rw [upd_same, show rr - 1 + (i + 1) = rr - 1 + i + 1 by omega, fil_yes c, List.map_append]
        rfl
      · have c : inL ((rr - 1 + i : Nat) : Int) fg = false := c
        rw [iB _ (by omega), ← hw] at c
        exact ⟨kp, by rw [show rr - 1 + (i + 1) = rr - 1 + i + 1 by omega, fil_no c]; exact hDl⟩
    have hlast : lfB rr fB (sh.length - 1) = false := by
      unfold lfB
      cases hb : fB (sh.length - 1) with
      | false => exact Bool.and_false _
      | true =>
        have := hB _ hb
        omega
    have hE3' : H3 E2 = some (.lst ((fil (lfB rr fB) sh.length).map V.int)) := by
      rw [hE3, show rr - 1 + (sh.length - 1 - (rr - 1)) = sh.length - 1 by omega]
      conv => rhs; rw [show sh.length = sh.length - 1 + 1 by omega]
      rw [fil_no hlast]
    refine ⟨_, rfl, _, rfl, szl (by show 2 ≤ 100000; decide), fun t nt => ?_⟩
    generalize h_H4 : upd H3 t _ = H4
    have k_H4 : Kp H3 H4 := by rw [← h_H4]; exact .new nt
    have q_H4 := (congrFun h_H4 t).symm.trans upd_same
    clear h_H4
    exact k t D E2 H4 ((k02.trans k3).trans k_H4) q_H4 fD (k02.free _ hE) (ne_of_none hD2 hE) ((k3.trans k_H4).same _ _ rfl hD2) (k_H4.same _ _ rfl hE3')
section
variable {X : Cx} (K : PySem.W.Frag)
theorem call_listK (h : X.K = K) : CallR X (.type "list") (fun xs H Q => ∃ p ys, xs = [.ref p] ∧ (SqL K H p ys ∨ SqT K H p ys) ∧ ∀ l, H l = none → Q (.ref l) (upd H l (.lst ys))) := h ▸ call_list_of
end
/-! ### the law's own -/
theorem wk_filter (f : Nat → Bool) (n r : Nat) : (fil f n).filter (fun z => decide (z ≥ (r : Int))) = fil (wkB r f) n := by
  unfold fil
  rw [List.filter_map, List.filter_filter]
  congr 1
  refine List.filter_congr fun p _ => ?_
  unfold wkB
  show (decide ((p : Int) ≥ (r : Int)) && f p) = _
  congr 1
  exact decide_eq_decide.mpr (by omega)
theorem lf_filter (f : Nat → Bool) (n r : Nat) : (fil f n).filter (fun z => decide (z ≥ (r : Int) - 1)) = fil (lfB r f) n := by
  unfold fil
  rw [List.filter_map, List.filter_filter]
  congr 1
  refine List.filter_congr fun p _ => ?_
  unfold lfB
  show (decide ((p : Int) ≥ (r : Int) - 1) && f p) = _
  congr 1
  exact decide_eq_decide.mpr (by omega)
theorem filt_yes {p : Int → Bool} {l : List Int} {i : Nat} {z : Int} (h : l[i]? = some z) (c : p z = true) : (l.take (i + 1)).filter p = (l.take i).filter p ++ [z] := by
  rw [take_snoc h, List.filter_append]
  simp [c]
theorem filt_no {p : Int → Bool} {l : List Int} {i : Nat} {z : Int} (h : l[i]? = some z) (c : p z = false) : (l.take (i + 1)).filter p = (l.take i).filter p := by
  rw [take_snoc h, List.filter_append]
  simp [c]
theorem filt_len {p : Int → Bool} {l : List Int} {i : Nat} : ((l.take i).filter p).length ≤ l.length := Nat.le_trans (List.length_filter_le _ _) (by rw [List.length_take]; omega)
theorem pos_rs {sh : List Int} {i : Nat} (hb : ∀ x ∈ sh, 0 ≤ x ∧ x ≤ 94) (hi : i < sh.length) : (sh.getD i 0 > 0) ↔ sgB sh i = true := by
  unfold sgB rs
  rw [Bool.not_eq_true', decide_eq_false_iff_not]
  have hm : sh.getD i 0 ∈ sh := by
    rw [List.getD_eq_getElem?_getD, List.getElem?_eq_getElem hi]
    exact List.getElem_mem hi
  have := hb _ hm
  constructor
  · intro h e
    have := V.int.inj e
    omega
  · intro h
    have : sh.getD i 0 ≠ 0 := fun e => h (by rw [e])
    omega
def sp_l_due (K : PySem.W.Frag) : Sp := fun vs H Q _ => ∃ (a s f : Addr) (sh : List Int) (n : Nat) (wt : Bool) (fA fB : Nat → Bool), vs = [.ref a, .bl wt, .ref s, .ref f] ∧ SqL K H a (sh.map V.int) ∧ SqL K H s ((fil fA n).map V.int) ∧ SqL K H f ((fil fB n).map V.int) ∧ Arms sh n ∧ (∀ p, fB p = true → p + 1 < n) ∧
  ∀ (t p1 p2 : Addr) (H' : Hp), Kp H H' → H' t = some (.tup [.ref p1, .ref p2]) → H' p1 = some (.lst ((fil (wkB (rearN sh wt) fA) n).map V.int)) → H' p2 = some (.lst ((fil (lfB (rearN sh wt) fB) n).map V.int)) → Q (.ref t) H'
theorem ok_l_due (T : Txt K mg) : FnOk P w K mg base CX0 1 T.f_l_due T.d_l_due ["_law_shown_here", "_law_waits", "_law_asleep", "_law_fogs"] (sp_l_due K) := by
  refine T.F_l_due.ok sc_l_due (fun vs H Q E h => ?_) (fun cdv A outer s H vs Q E hr h => ?_)
  · obtain ⟨a, s, f, sh, n, wt, fA, fB, rfl, _⟩ := h
    rfl
  · obtain ⟨a, s, f, sh, n, wt, fA, fB, rfl, hS, hA, hF, ha, hB, k⟩ := h
    have hl := ha.len
    have hhi := ha.hi
    subst hl
    have hfa := fil_len fA sh.length
    have hfb := fil_len fB sh.length
    refine ⟨_, (pss_cons (ps_set (i := 4) sc_l_due.nd rfl (by first | exact Or.inl rfl | exact Or.inr rfl) pe_int)
      (Evl.pss_cut (ps_if (pt_not (pt_val (pv 1)))
      (pss_cons (ps_setLc (i := 5) (own := [("_law_place", 6)]) (g := gName 6) (by rfl) sc_l_due.nd rfl rfl (sw_true rfl rfl rfl (by decide +kernel)) (pi_range1 (by rfl) T.m_range (pa_cons (pe_callB call_len_seq (by rfl) T.m_len PySem.boot_len (pa_cons (pv 0) pa_nil)) pa_nil)) (blkOk_by (own := [("_law_place", 6)]) (N := ["_law_shown_here", "_law_waits", "_law_asleep", "_law_fogs", "_law_first", "_law_signs", "_law_place"]) (sc := defScope s_l_due) (by decide +kernel)) (fun _ _ _ _ _ => (pg_name (i := 6) sc_l_due.nd rfl (by first | exact Or.inl rfl | exact Or.inr rfl))) (fun _ _ _ _ _ => (pts_one (pt_cmpR op_gt (pe_ix (ix_listK K rfl) (pv 0) (pv 6) (fun _ _ => rfl)) pe_int (nomark _)))) (fun _ _ _ _ _ => (pv 6)))
      (pss_cons (ps_if (pt_cmpR op_eq (pe_callB call_len_seq (by rfl) T.m_len PySem.boot_len (pa_cons (pv 5) pa_nil)) pe_int (nomark _))
      (pss_one (ps_ret (pe_tup (pa_cons (pe_lst pa_nil) (pa_cons (pe_lst pa_nil) pa_nil)))))
      pss_nil)
      (pss_one (ps_set (i := 4) sc_l_due.nd rfl (by first | exact Or.inl rfl | exact Or.inr rfl) (pe_ix ix_list (pv 5) pe_int (fun _ _ => rfl))))))
      pss_nil)
      (pss_one (ps_ret (pe_tup (pa_cons (pe_lc (own := [("_law_place", 6)]) (g := gName 6) (by rfl) sc_l_due.nd (pi_list (pv 2)) (blkOk_by (own := [("_law_place", 6)]) (N := ["_law_shown_here", "_law_waits", "_law_asleep", "_law_fogs", "_law_first", "_law_signs", "_law_place"]) (sc := defScope s_l_due) (by decide +kernel)) (fun _ _ _ _ _ => (pg_name (i := 6) sc_l_due.nd rfl (by first | exact Or.inl rfl | exact Or.inr rfl))) (fun _ _ _ _ _ => (pts_one (pt_cmpR op_ge (pv 6) (pv 4) (nomark _)))) (fun _ _ _ _ _ => (pv 6))) (pa_cons (pe_lc (own := [("_law_place", 6)]) (g := gName 6) (by rfl) sc_l_due.nd (pi_list (pv 3)) (blkOk_by (own := [("_law_place", 6)]) (N := ["_law_shown_here", "_law_waits", "_law_asleep", "_law_fogs", "_law_first", "_law_signs", "_law_place"]) (sc := defScope s_l_due) (by decide +kernel)) (fun _ _ _ _ _ => (pg_name (i := 6) sc_l_due.nd rfl (by first | exact Or.inl rfl | exact Or.inr rfl))) (fun _ _ _ _ _ => (pts_one (pt_cmpR op_ge (pv 6) (pe_op op_sub (pv 4) pe_int) (nomark _)))) (fun _ _ _ _ _ => (pv 6))) pa_nil))))))), ?_⟩
    refine ⟨fun σ' H' => ∃ (y5 : Option V), σ' = [some (.ref a), some (.bl wt), some (.ref s), some (.ref f), some (.int (rearN sh wt : Int)), y5, none] ∧ Kp H H', ?_, ?_⟩
    · cases wt with
      | true => exact ⟨_, rfl, _, rfl, iteFo rfl ⟨none, rfl, .refl _⟩⟩
      | false =>
        refine ⟨_, rfl, _, rfl, iteTo rfl ?_⟩
        refine ⟨_, rfl, a, _, rfl, .inl hS, _, rfl, by omega, by rw [List.length_map]; omega, fun D hD => ?_⟩
        rw [Int.toNat_natCast, List.length_map]
        refine lc_range (lo := 0) (n := sh.length) (fun i H' => Kp H H' ∧ H' D = some (.lst ((fil (sgB sh) i).map V.int))) ⟨Kp.new hD, upd_same⟩ (fun i H' hi ⟨kp, hDl⟩ => ?_) (fun H1 ⟨k1, hD1⟩ => ?_)
        · have ez : (0 : Int) + (i : Int) = (i : Int) := Int.zero_add _
          rw [ez]
          refine ⟨rfl, ?_⟩
          refine ⟨_, rfl, _, rfl, a, _, _, _, rfl, rfl, kp.sqL hS, getD_at hi, _, _, rfl, rfl, _, rfl, iteD (fun c => ?_) (fun c => ?_)⟩
          · have c := (pos_rs ha.ok hi).mp c
            refine ⟨_, rfl, _, hDl, szt (by rw [List.length_map]; have := fil_len (sgB sh) i; omega), kp.mut hD, ?_⟩
            rw [upd_same, fil_yes c, List.map_append]
            rfl
          · have c : sgB sh i = false := by
              cases e : sgB sh i with
              | false => rfl
              | true => exact (c ((pos_rs ha.ok hi).mpr e)).elim
            exact ⟨kp, by rw [fil_no c]; exact hDl⟩
        have er : rearN sh false = ((List.range sh.length).filter (sgB sh)).headD sh.length := by unfold rearN; rw [if_neg Bool.false_ne_true]
        refine ⟨_, rfl, D, _, rfl, .inl (.inl (.inl hD1)), rfl, _, rfl, iteD (fun c => ?_) (fun c => ?_)⟩
        · have c := V.int.inj c
          rw [List.length_map] at c
          have e0 : fil (sgB sh) sh.length = [] := List.length_eq_zero_iff.mp (by omega)
          have e1 : (List.range sh.length).filter (sgB sh) = [] := by unfold fil at e0; exact List.map_eq_nil_iff.mp e0
          rw [e1] at er
          have er : rearN sh false = sh.length := er
          refine ⟨Nat.zero_le _, fun p1 n1 => ?_⟩
          generalize h_H2 : upd H1 p1 _ = H2
          have k_H2 : Kp H1 H2 := by rw [← h_H2]; exact .new n1
          have q_H2 := (congrFun h_H2 p1).symm.trans upd_same
          clear h_H2
          refine ⟨Nat.zero_le _, fun p2 n2 => ?_⟩
          generalize h_H3 : upd H2 p2 _ = H3
          have k_H3 : Kp H2 H3 := by rw [← h_H3]; exact .new n2
          have q_H3 := (congrFun h_H3 p2).symm.trans upd_same
          clear h_H3
          refine ⟨szl (by show 2 ≤ 100000; decide), fun t nt => ?_⟩
          generalize h_H4 : upd H3 t _ = H4
          have k_H4 : Kp H3 H4 := by rw [← h_H4]; exact .new nt
          have q_H4 := (congrFun h_H4 t).symm.trans upd_same
          clear h_H4
          refine k t p1 p2 H4 (((k1.trans k_H2).trans k_H3).trans k_H4) q_H4 ?_ ?_
          · rw [fil_none (fun p hp => by unfold wkB; rw [er, decide_eq_false (by omega)]; rfl)]
            exact (k_H3.trans k_H4).same _ _ rfl q_H2
          · rw [fil_none (fun p hp => by
              unfold lfB
              rw [er]
              cases hb : fB p with
              | false => exact Bool.and_false _
              | true => rw [decide_eq_false (by have := hB p hb; omega)]; rfl)]
            exact k_H4.same _ _ rfl q_H3
        · have hne : fil (sgB sh) sh.length ≠ [] := fun e => c (by rw [e]; rfl)
          cases e1 : (List.range sh.length).filter (sgB sh) with
          | nil => exact (hne (by unfold fil; rw [e1]; rfl)).elim
          | cons x r =>
            rw [e1] at er
            have er : rearN sh false = x := er
            have e2 : fil (sgB sh) sh.length = (x : Int) :: r.map (fun (y : Nat) => (y : Int)) := by unfold fil; rw [e1]; rfl
            rw [e2] at hD1
            refine ⟨_, rfl, D, _, _, _, rfl, rfl, .inl (.inl hD1), atI_nat (j := 0) rfl, ?_⟩
            rw [er]
            exact ⟨_, rfl, k1⟩
    rintro σ' H1 ⟨y5, rfl, k1⟩
    generalize rearN sh wt = rr at k
    refine ⟨_, rfl, s, rfl, ⟨_, k1.sqL hA⟩, fun D hD => ?_⟩
    refine lc_list (K := K) (a := s) (xs := (fil fA sh.length).map V.int) (fun i H' => Kp H1 H' ∧ H' D = some (.lst ((((fil fA sh.length).take i).filter (fun z => decide (z ≥ (rr : Int)))).map V.int))) ⟨Kp.new hD, upd_same⟩ (fun i H' _ ⟨kp, _⟩ => (k1.trans kp).sqL hA) ?_ ?_
    · rintro i x H' hi ⟨kp, hDl⟩
      obtain ⟨z, _, rfl, hz⟩ := mem_ints hi
      have hfl := filt_len (p := fun z => decide (z ≥ (rr : Int))) (l := fil fA sh.length) (i := i)
      refine ⟨rfl, ?_⟩
      refine ⟨_, rfl, _, rfl, _, _, rfl, rfl, _, rfl, iteD (fun c => ?_) (fun c => ?_)⟩
      · refine ⟨_, rfl, _, hDl, szt (by rw [List.length_map]; omega), kp.mut hD, ?_⟩
        rw [upd_same, filt_yes hz (decide_eq_true c), List.map_append]
        rfl
      · exact ⟨kp, by rw [filt_no hz (decide_eq_false c)]; exact hDl⟩
    rintro H2 ⟨k2, hD2⟩
    rw [List.length_map, List.take_length, wk_filter] at hD2
    refine ⟨_, rfl, f, rfl, ⟨_, (k1.trans k2).sqL hF⟩, fun E2 hE => ?_⟩
    refine lc_list (K := K) (a := f) (xs := (fil fB sh.length).map V.int) (fun i H' => Kp H2 H' ∧ H' E2 = some (.lst ((((fil fB sh.length).take i).filter (fun z => decide (z ≥ (rr : Int) - 1))).map V.int))) ⟨Kp.new hE, upd_same⟩ (fun i H' _ ⟨kp, _⟩ => ((k1.trans k2).trans kp).sqL hF) ?_ ?_
    · rintro i x H' hi ⟨kp, hDl⟩
      obtain ⟨z, _, rfl, hz⟩ := mem_ints hi
      have hfl := filt_len (p := fun z => decide (z ≥ (rr : Int) - 1)) (l := fil fB sh.length) (i := i)
      refine ⟨rfl, ?_⟩
      refine ⟨_, rfl, _, rfl, _, _, rfl, rfl, _, _, rfl, rfl, _, rfl, iteD (fun c => ?_) (fun c => ?_)⟩
      · refine ⟨_, rfl, _, hDl, szt (by rw [List.length_map]; omega), kp.mut hE, ?_⟩
        rw [upd_same, filt_yes hz (decide_eq_true c), List.map_append]
        rfl
      · exact ⟨kp, by rw [filt_no hz (decide_eq_false c)]; exact hDl⟩
    rintro H3 ⟨k3, hE3⟩
    rw [List.length_map, List.take_length, lf_filter] at hE3
    refine ⟨szl (by show 2 ≤ 100000; decide), fun t nt => ?_⟩
    generalize h_H4 : upd H3 t _ = H4
    have k_H4 : Kp H3 H4 := by rw [← h_H4]; exact .new nt
    have q_H4 := (congrFun h_H4 t).symm.trans upd_same
    clear h_H4
    exact k t D E2 H4 (((k1.trans k2).trans k3).trans k_H4) q_H4 ((k3.trans k_H4).same _ _ rfl hD2) (k_H4.same _ _ rfl hE3)
/-! ### law -/
def sp_law (K : PySem.W.Frag) : Sp := fun vs H Q _ => ∃ (a : Addr) (ns : List Int), vs = [.ref a] ∧ SqL K H a (ns.map V.int) ∧ ns.length ≤ 63 ∧ ∀ H', Q (.bl true) H'
theorem in_fil {f : Nat → Bool} {n p : Nat} {xs : List Int} (h : ∀ z, z ∈ xs ↔ z ∈ fil f n) (hp : p < n) : inL (p : Int) xs = f p := by
  rw [Bool.eq_iff_iff, inL_iff, h, fil_mem]
  constructor
  · rintro ⟨q, e, _, hq⟩
    have : p = q := by omega
    rw [this]
    exact hq
  · intro hf
    exact ⟨p, rfl, hp, hf⟩
theorem cut_rest (ns : List Int) : cutV (ns.map V.int) (some 1) none = (ns.drop 1).map V.int := by
  unfold cutV
  rw [HT.sIx_none, List.length_map]
  have e : HT.sIx ns.length 0 (some 1) = min 1 ns.length := HT.sIx_nat ns.length 0 1
  rw [e]
  cases ns with
  | nil => rfl
  | cons w r =>
    rw [show min 1 (w :: r).length = 1 by rw [List.length_cons]; omega]
    rw [List.map_drop]
    exact List.take_of_length_le (by rw [List.length_drop, List.length_map]; omega)
theorem cut_first (ns : List Int) : cutV (ns.map V.int) none (some 1) = (ns.take 1).map V.int := by
  unfold cutV
  rw [HT.sIx_none, List.length_map]
  have e : HT.sIx ns.length ns.length (some 1) = min 1 ns.length := HT.sIx_nat ns.length ns.length 1
  rw [e, List.drop_zero, Nat.sub_zero, List.map_take]
  cases ns with
  | nil => rfl
  | cons w r => rw [show min 1 (w :: r).length = 1 by rw [List.length_cons]; omega]
theorem mem_turned (z : Int) (ns : List Int) : z ∈ ns.drop 1 ++ ns.take 1 ↔ z ∈ ns := by
  cases ns with
  | nil => simp
  | cons w r => simp [or_comm]
theorem dm_two {x y : List Int} (hx : x.length ≤ 100) (hy : y.length ≤ 100) : Dm 4 (.tuple [dI x, dI y]) := by
  refine .tup (fun d hd => ?_) (by show 2 ≤ 10000; decide)
  simp only [List.mem_cons, List.not_mem_nil, or_false] at hd
  rcases hd with rfl | rfl
  · exact dm_dI (by omega)
  · exact dm_dI (by omega)
theorem dp_two {K : PySem.W.Frag} {H : Hp} {t p1 p2 : Addr} {x y : List Int} (h : H t = some (.tup [.ref p1, .ref p2])) (h1 : H p1 = some (.lst (x.map V.int))) (h2 : H p2 = some (.lst (y.map V.int))) : Dp K H (.ref t) (.tuple [dI x, dI y]) :=
  .tup (.inl (.inl h)) (.cons (dp_dI (.inl (.inl h1))) (.cons (dp_dI (.inl (.inl h2))) .nil))
theorem ok_law (T : Txt K mg) {f : Addr} {fd : FuncData} (F : Fun K "law" "law" s_law f fd) : FnOk P w K mg base CX0 8 f fd ["_law_script"] (sp_law K) := by
  refine F.ok sc_law (fun vs H Q E h => ?_) (fun cdv A outer s H vs Q E hr h => ?_)
  · obtain ⟨a, ns, rfl, _⟩ := h
    rfl
  · obtain ⟨a, ns, rfl, hS, hlen, k⟩ := h
    refine ⟨_, (pss_cons (ps_for PassesOwn.never rfl (pi_tup (pe_tup (pa_cons pe_int (pa_cons pe_int (pa_cons pe_int pa_nil))))) (pg_name (i := 1) sc_law.nd rfl (by first | exact Or.inl rfl | exact Or.inr rfl))
      (pss_cons (ps_asg (pe_call (ok_l_shown T) (hr.mono (by decide)) rfl T.g_l_shown T.F_l_shown.kp T.b_l_shown .nil pass0 (pa_cons (pv 0) (pa_cons (pv 1) pa_nil))) (pg_tup (n := 4) rfl (pgs_cons (pg_name (i := 2) sc_law.nd rfl (by first | exact Or.inl rfl | exact Or.inr rfl)) (pgs_cons (pg_name (i := 3) sc_law.nd rfl (by first | exact Or.inl rfl | exact Or.inr rfl)) (pgs_cons (pg_name (i := 4) sc_law.nd rfl (by first | exact Or.inl rfl | exact Or.inr rfl)) (pgs_cons (pg_name (i := 5) sc_law.nd rfl (by first | exact Or.inl rfl | exact Or.inr rfl)) pgs_nil))))))
      (pss_cons (ps_set (i := 6) sc_law.nd rfl (by first | exact Or.inl rfl | exact Or.inr rfl) (pe_call (ok_l_due T) (hr.mono (by decide)) rfl T.g_l_due T.F_l_due.kp T.b_l_due .nil pass0 (pa_cons (pv 2) (pa_cons (pv 3) (pa_cons (pv 4) (pa_cons (pv 5) pa_nil))))))
      (pss_cons (ps_set (i := 7) sc_law.nd rfl (by first | exact Or.inl rfl | exact Or.inr rfl) (pe_lst (pa_cons (pe_callTy call_list_of (by rfl) T.m_list (by decide +kernel) (pa_cons (pv 2) pa_nil)) (pa_cons (pe_revL (pv 4)) (pa_cons (pe_op op_cat (pe_slice sl_list (pv 5) (po_some pe_int) po_none) (pe_slice sl_list (pv 5) po_none (po_some pe_int))) pa_nil)))))
      (pss_cons (ps_setLc (i := 8) (own := [("_law_one", 9)]) (g := gName 9) (tt := tYes) (by rfl) sc_law.nd rfl rfl (sw_true rfl rfl rfl (by decide +kernel)) (pi_list (pv 7)) (blkOk_by (own := [("_law_one", 9)]) (N := ["_law_script", "_law_at", "_law_shown_here", "_law_waits", "_law_asleep", "_law_fogs", "_law_due_here", "_law_handed", "_law_kept", "_law_one", "_law_found"]) (sc := defScope s_law) (by decide +kernel)) (fun _ _ _ _ _ => (pg_name (i := 9) sc_law.nd rfl (by first | exact Or.inl rfl | exact Or.inr rfl))) (fun _ _ _ _ _ => pts_nil) (fun _ _ _ _ _ => (pe_callTy (call_listK K rfl) (by rfl) T.m_list (by decide +kernel) (pa_cons (pv 9) pa_nil))))
      (pss_cons (ps_set (i := 10) sc_law.nd rfl (by first | exact Or.inl rfl | exact Or.inr rfl) (pe_call (ok_p_freed T) (hr.mono (by decide)) rfl T.g_p_freed T.F_p_freed.kp T.b_p_freed .nil pass0 (pa_cons (pe_ix ix_list (pv 7) pe_int (fun _ _ => rfl)) (pa_cons (pv 3) (pa_cons (pe_ix ix_list (pv 7) pe_int (fun _ _ => rfl)) (pa_cons (pe_ix ix_list (pv 7) pe_int (fun _ _ => rfl)) pa_nil))))))
      (pss_cons (ps_if (PW.pt (pw_or (pt_not (pt_val (pe_call (ok_l_like T 4) (hr.mono (by decide)) rfl T.g_l_like T.F_l_like.kp T.b_l_like .nil pass0 (pa_cons (pv 10) (pa_cons (pv 6) pa_nil))))) (pw_or1 (pt_cmpR (op_neD hr.units) (pv 7) (pv 8) (nomark _)))))
      (pss_one (ps_ret pe_bl))
      pss_nil)
      (pss_cons (ps_expr (pe_bm PySem.F.plainAttrs_list PySem.F.slot_list_append PySem.F.type_list_append mt_append (pe_ix ix_tup (pv 10) pe_int (fun _ _ => rfl)) (pa_cons pe_int pa_nil)))
      (pss_cons (ps_expr (pe_bm PySem.F.plainAttrs_list PySem.F.slot_list_append PySem.F.type_list_append mt_append (pe_ix ix_tup (pv 10) pe_int (fun _ _ => rfl)) (pa_cons pe_int pa_nil)))
      (pss_one (ps_if (pt_not (pt_val (pe_call (ok_l_like T 4) (hr.mono (by decide)) rfl T.g_l_like T.F_l_like.kp T.b_l_like .nil pass0 (pa_cons (pe_call (ok_p_freed T) (hr.mono (by decide)) rfl T.g_p_freed T.F_p_freed.kp T.b_p_freed .nil pass0 (pa_cons (pe_ix ix_list (pv 7) pe_int (fun _ _ => rfl)) (pa_cons (pv 3) (pa_cons (pe_ix ix_list (pv 7) pe_int (fun _ _ => rfl)) (pa_cons (pe_ix ix_list (pv 7) pe_int (fun _ _ => rfl)) pa_nil))))) (pa_cons (pv 6) pa_nil)))))
      (pss_one (ps_ret pe_bl))
      pss_nil)))))))))))
      (pss_one (ps_ret (pe_call (ok_l_like T 4) (hr.mono (by decide)) rfl T.g_l_like T.F_l_like.kp T.b_l_like .nil pass0 (pa_cons (pe_call (ok_p_freed T) (hr.mono (by decide)) rfl T.g_p_freed T.F_p_freed.kp T.b_p_freed .nil pass0 (pa_cons (pe_lst (pa_cons pe_int (pa_cons pe_int (pa_cons pe_int pa_nil)))) (pa_cons pe_bl (pa_cons (pe_lst (pa_cons pe_int pa_nil)) (pa_cons (pe_lst (pa_cons pe_int (pa_cons pe_int pa_nil))) pa_nil))))) (pa_cons (pe_tup (pa_cons (pe_lst pa_nil) (pa_cons (pe_lst pa_nil) pa_nil))) pa_nil)))))), ?_⟩
    refine ⟨szl (by show 3 ≤ 100000; decide), fun p0 n0 => ?_⟩
    generalize h_H0 : upd H p0 _ = H0
    have k_H0 : Kp H H0 := by rw [← h_H0]; exact .new n0
    have q_H0 := (congrFun h_H0 p0).symm.trans upd_same
    clear h_H0
    refine ⟨p0, rfl, ⟨_, .inl (.inl q_H0)⟩, for_tup (K := K) (a := p0) (xs := [V.int 0, V.int 2, V.int 0]) (fun i σ H' => ∃ (y1 y2 y3 y4 y5 y6 y7 y8 y10 : Option V), σ = [some (.ref a), y1, y2, y3, y4, y5, y6, y7, y8, none, y10] ∧ Kp H0 H')
      ⟨none, none, none, none, none, none, none, none, none, rfl, .refl _⟩ (fun i σ H' _ ⟨_, _, _, _, _, _, _, _, _, _, kp⟩ => kp.sqT (.inl (.inl q_H0))) ?_ ?_⟩
    · rintro i x σ H' hi ⟨y1, y2, y3, y4, y5, y6, y7, y8, y10, rfl, kp⟩
      obtain ⟨j, rfl, hj⟩ : ∃ j : Nat, x = .int (j : Int) ∧ j ≤ 1000 := by
        have hm := List.mem_of_getElem? hi
        simp only [List.mem_cons, List.not_mem_nil, or_false] at hm
        rcases hm with rfl | rfl | rfl
        · exact ⟨0, rfl, by decide⟩
        · exact ⟨2, rfl, by decide⟩
        · exact ⟨0, rfl, by decide⟩
      refine ⟨_, rfl, _, rfl, a, ns, j, rfl, (k_H0.trans kp).sqL hS, hj, fun n sh wt fA fB t p1 p2 p3 H1 k1 qt f1 q1 q2 q3 hB ha f2 f3 => ?_⟩
      have hl := ha.len
      have hhi := ha.hi
      have hlo := ha.lo
      subst hl
      have hfa := fil_len fA sh.length
      have hfb := fil_len fB sh.length
      refine ⟨t, _, rfl, .inl (.inl qt), rfl, _, _, rfl, _, _, rfl, _, _, rfl, _, _, rfl, rfl, ?_⟩
      refine ⟨_, rfl, _, rfl, _, rfl, _, rfl, p1, p2, p3, sh, sh.length, wt, fA, fB, rfl, .inl (.inl q1), .inl (.inl q2), .inl (.inl q3), ha, hB, fun td d1 d2 H2 k2 qd qd1 qd2 => ?_⟩
      have hw1 := fil_len (wkB (rearN sh wt) fA) sh.length
      have hw2 := fil_len (lfB (rearN sh wt) fB) sh.length
      refine ⟨_, rfl, p1, _, rfl, .inl (.inl (.inl (k2.same _ _ rfl q1))), fun p4 n4 => ?_⟩
      generalize h_H3 : upd H2 p4 _ = H3
      have k_H3 : Kp H2 H3 := by rw [← h_H3]; exact .new n4
      have q_H3 := (congrFun h_H3 p4).symm.trans upd_same
      clear h_H3
      refine ⟨_, rfl, p2, _, rfl, .inl (.inl (k_H3.same _ _ rfl (k2.same _ _ rfl q2))), fun p5 n5 => ?_⟩
      generalize h_H4 : upd H3 p5 _ = H4
      have k_H4 : Kp H3 H4 := by rw [← h_H4]; exact .new n5
      have q_H4 := (congrFun h_H4 p5).symm.trans upd_same
      clear h_H4
      have q3' := (k_H3.trans k_H4).same _ _ rfl (k2.same _ _ rfl q3)
      refine ⟨_, rfl, _, rfl, p3, _, rfl, .inl (.inl q3'), fun u1 nu1 => ?_⟩
      generalize h_H5 : upd H4 u1 _ = H5
      have k_H5 : Kp H4 H5 := by rw [← h_H5]; exact .new nu1
      have q_H5 := (congrFun h_H5 u1).symm.trans upd_same
      clear h_H5
      refine ⟨_, rfl, _, rfl, p3, _, rfl, .inl (.inl (k_H5.same _ _ rfl q3')), fun u2 nu2 => ?_⟩
      generalize h_H6 : upd H5 u2 _ = H6
      have k_H6 : Kp H5 H6 := by rw [← h_H6]; exact .new nu2
      have q_H6 := (congrFun h_H6 u2).symm.trans upd_same
      clear h_H6
      rw [cut_rest] at q_H5
      rw [cut_first] at q_H6
      refine ⟨u1, u2, _, _, rfl, rfl, k_H6.same _ _ rfl q_H5, q_H6, szl (by rw [List.length_map, List.length_map, List.length_drop, List.length_take]; omega), fun p6 n6 => ?_⟩
      generalize h_H7 : upd H6 p6 _ = H7
      have k_H7 : Kp H6 H7 := by rw [← h_H7]; exact .new n6
      have q_H7 := (congrFun h_H7 p6).symm.trans upd_same
      clear h_H7
      rw [← List.map_append] at q_H7
      rw [← List.map_reverse] at q_H4
      refine ⟨szl (by show 3 ≤ 100000; decide), fun p7 n7 => ?_⟩
      generalize h_H8 : upd H7 p7 _ = H8
      have k_H8 : Kp H7 H8 := by rw [← h_H8]; exact .new n7
      have q_H8 := (congrFun h_H8 p7).symm.trans upd_same
      clear h_H8
      have k48 := ((k_H5.trans k_H6).trans k_H7).trans k_H8
      have k28 := (k_H3.trans k_H4).trans k48
      have r4 := (k_H4.trans k48).same _ _ rfl q_H3
      have r5 := k48.same _ _ rfl q_H4
      have r6 := k_H8.same _ _ rfl q_H7
      obtain ⟨asr, hasr⟩ : ∃ asr : List Int, (fil fA sh.length).reverse = asr := ⟨_, rfl⟩
      obtain ⟨fgr, hfgr⟩ : ∃ fgr : List Int, (fil fB sh.length).drop 1 ++ (fil fB sh.length).take 1 = fgr := ⟨_, rfl⟩
      have iA : ∀ p, p < sh.length → inL (p : Int) asr = fA p := fun p hp => in_fil (fun z => by rw [← hasr, List.mem_reverse]) hp
      have iB : ∀ p, p < sh.length → inL (p : Int) fgr = fB p := fun p hp => in_fil (fun z => by rw [← hfgr, mem_turned]) hp
      have la : asr.length ≤ 100 := by rw [← hasr, List.length_reverse]; omega
      have lb : fgr.length ≤ 100 := by rw [← hfgr, List.length_append, List.length_drop, List.length_take]; omega
      rw [hasr] at r5
      rw [hfgr] at r6
      let rows : List (List Int) := [sh, asr, fgr]
      have src : ∀ (j : Nat) (x : V), [V.ref p4, V.ref p5, V.ref p6][j]? = some x → ∃ p, x = .ref p ∧ H8 p = some (.lst ((rows.getD j []).map V.int)) := by
        intro j x hx
        rcases j with _ | _ | _ | j
        · cases Option.some.inj hx
          exact ⟨p4, rfl, r4⟩
        · cases Option.some.inj hx
          exact ⟨p5, rfl, r5⟩
        · cases Option.some.inj hx
          exact ⟨p6, rfl, r6⟩
        · simp at hx
      refine ⟨_, rfl, p7, rfl, ⟨_, .inl (.inl q_H8)⟩, fun D hD => ?_⟩
      refine lc_list (K := K) (a := p7) (xs := [V.ref p4, V.ref p5, V.ref p6]) (fun i H' => ∃ us : List Addr, us.length = i ∧ Kp H8 H' ∧ H' D = some (.lst (us.map V.ref)) ∧ ∀ (j : Nat) (u : Addr), us[j]? = some u → u ≠ D ∧ H' u = some (.lst ((rows.getD j []).map V.int))) ⟨[], rfl, Kp.new hD, upd_same, by simp⟩ (fun i H' _ ⟨_, _, kp, _⟩ => kp.sqL (.inl (.inl q_H8))) ?_ ?_
      · rintro i x H' hi ⟨us, hul, kq, hDl, hus⟩
        obtain ⟨p, rfl, hp⟩ := src i x hi
        have hi3 : i < 3 := (List.getElem?_eq_some_iff.mp hi).1
        refine ⟨rfl, ?_⟩
        refine ⟨_, rfl, p, _, rfl, .inl (.inl (.inl (kq.same _ _ rfl hp))), fun u nu => ?_⟩
        generalize h_H9 : upd H' u _ = H9
        have k_H9 : Kp H' H9 := by rw [← h_H9]; exact .new nu
        have q_H9 := (congrFun h_H9 u).symm.trans upd_same
        clear h_H9
        have hD9 := k_H9.same _ _ rfl hDl
        have neu : u ≠ D := (ne_of_none hDl nu).symm
        refine ⟨_, hD9, szt (by rw [List.length_map]; omega), us ++ [u], by rw [List.length_append, hul]; rfl, (kq.trans k_H9).mut hD, by rw [upd_same, List.map_append]; rfl, fun j v hv => ?_⟩
        by_cases hj : j < us.length
        · rw [List.getElem?_append_left hj] at hv
          obtain ⟨h1, h2⟩ := hus j v hv
          exact ⟨h1, by rw [upd_ne h1]; exact k_H9.same _ _ rfl h2⟩
        · have hj2 : j = us.length := by
            have z := (List.getElem?_eq_some_iff.mp hv).1
            rw [List.length_append] at z
            have : [u].length = 1 := rfl
            omega
          subst hj2
          rw [List.getElem?_append_right (Nat.le_refl _), Nat.sub_self] at hv
          cases Option.some.inj hv
          exact ⟨neu, by rw [upd_ne neu, hul]; exact q_H9⟩
      rintro H9 ⟨us, hul, k9, hD9, hus⟩
      obtain ⟨v4, v5, v6, rfl⟩ : ∃ v4 v5 v6, us = [v4, v5, v6] := by
        match us, hul with
        | [v4, v5, v6], _ => exact ⟨v4, v5, v6, rfl⟩
      have s4 := (hus 0 v4 rfl).2
      have s5 := (hus 1 v5 rfl).2
      have s6 := (hus 2 v6 rfl).2
      have g7 := k9.same _ _ rfl q_H8
      refine ⟨_, rfl, p7, _, _, _, rfl, rfl, .inl (.inl g7), rfl, _, rfl, _, rfl, p7, _, _, _, rfl, rfl, .inl (.inl g7), rfl, _, rfl, p7, _, _, _, rfl, rfl, .inl (.inl g7), rfl, p4, p5, p6, sh, asr, fgr, wt, fA, fB, rfl, .inl (.inl (k9.same _ _ rfl r4)), .inl (.inl (k9.same _ _ rfl r5)), .inl (.inl (k9.same _ _ rfl r6)), by omega, by omega, iA, iB, hB, fun tf e1 e2 H10 k10 qf ne1 ne2 ne12 qe1 qe2 => ?_⟩
      have dmt : Dm 4 (.tuple [dI (fil (wkB (rearN sh wt) fA) sh.length), dI (fil (lfB (rearN sh wt) fB) sh.length)]) := dm_two (by omega) (by omega)
      have k210 := (k28.trans k9).trans k10
      refine ⟨_, rfl, _, rfl, _, _, _, rfl, dp_two qf qe1 qe2, k210.dp (dp_two qd qd1 qd2), dmt.dn, fun H11 k11 => ⟨_, rfl, iteFo rfl ?_⟩⟩
      have dn : Dm 4 (.list [dI sh, dI asr, dI fgr]) := by
        refine .lst (fun d hd => ?_) (by show 3 ≤ 10000; decide)
        simp only [List.mem_cons, List.not_mem_nil, or_false] at hd
        rcases hd with rfl | rfl | rfl
        · exact dm_dI (by omega)
        · exact dm_dI (by omega)
        · exact dm_dI (by omega)
      have k911 := k10.trans k11
      have k811 := k9.trans k911
      refine ⟨_, rfl, _, rfl, .list [dI sh, dI asr, dI fgr], .list [dI sh, dI asr, dI fgr], .lst (.inl (.inl (k811.same _ _ rfl q_H8))) (.cons (dp_dI (.inl (.inl (k811.same _ _ rfl r4)))) (.cons (dp_dI (.inl (.inl (k811.same _ _ rfl r5)))) (.cons (dp_dI (.inl (.inl (k811.same _ _ rfl r6)))) .nil))),
          .lst (.inl (.inl (k911.same _ _ rfl hD9))) (.cons (dp_dI (.inl (.inl (k911.same _ _ rfl s4)))) (.cons (dp_dI (.inl (.inl (k911.same _ _ rfl s5)))) (.cons (dp_dI (.inl (.inl (k911.same _ _ rfl s6)))) .nil))), dn.shaped (by decide), dn.shaped (by decide), _, rfl, iteFo (by rw [dn.same (by decide)]; rfl) ?_⟩
      have qf' := k11.same _ _ rfl qf
      have qe1' := k11.same _ _ rfl qe1
      have qe2' := k11.same _ _ rfl qe2
      have net1 : tf ≠ e1 := ne_of qf' qe1' (by intro z; cases z)
      refine ⟨_, rfl, tf, _, _, _, rfl, rfl, .inl (.inl qf'), rfl, .inl ⟨rfl, _, SqL.of qe1'⟩, e1, _, _, rfl, rfl, qe1', szt (by rw [List.length_map]; omega), ?_⟩
      have kX : Kp H9 (upd H11 e1 (.lst (List.map V.int (fil (wkB (rearN sh wt) fA) sh.length) ++ [V.int 0]))) := k911.mut ne1
      have fX : (upd H11 e1 (.lst (List.map V.int (fil (wkB (rearN sh wt) fA) sh.length) ++ [V.int 0]))) tf = some (.tup [.ref e1, .ref e2]) := by rw [upd_ne net1]; exact qf'
      have eX : (upd H11 e1 (.lst (List.map V.int (fil (wkB (rearN sh wt) fA) sh.length) ++ [V.int 0]))) e2 = some (.lst ((fil (lfB (rearN sh wt) fB) sh.length).map V.int)) := by rw [upd_ne ne12.symm]; exact qe2'
      generalize upd H11 e1 (.lst (List.map V.int (fil (wkB (rearN sh wt) fA) sh.length) ++ [V.int 0])) = H12 at kX fX eX
      refine ⟨_, rfl, tf, _, _, _, rfl, rfl, .inl (.inl fX), rfl, .inl ⟨rfl, _, SqL.of eX⟩, e2, _, _, rfl, rfl, eX, szt (by rw [List.length_map]; omega), ?_⟩
      have kY : Kp H9 (upd H12 e2 (.lst (List.map V.int (fil (lfB (rearN sh wt) fB) sh.length) ++ [V.int 0]))) := kX.mut ne2
      generalize upd H12 e2 (.lst (List.map V.int (fil (lfB (rearN sh wt) fB) sh.length) ++ [V.int 0])) = H13 at kY
      have h7 := kY.same _ _ rfl g7
      have k813 := k9.trans kY
      refine ⟨_, rfl, p7, _, _, _, rfl, rfl, .inl (.inl h7), rfl, _, rfl, _, rfl, p7, _, _, _, rfl, rfl, .inl (.inl h7), rfl, _, rfl, p7, _, _, _, rfl, rfl, .inl (.inl h7), rfl, p4, p5, p6, sh, asr, fgr, wt, fA, fB, rfl, .inl (.inl (k813.same _ _ rfl r4)), .inl (.inl (k813.same _ _ rfl r5)), .inl (.inl (k813.same _ _ rfl r6)), by omega, by omega, iA, iB, hB, fun tg g1 g2 H14 k14 qg _ _ _ qg1 qg2 => ?_⟩
      have k214 := (k28.trans k813).trans k14
      refine ⟨_, rfl, _, _, _, rfl, dp_two qg qg1 qg2, k214.dp (dp_two qd qd1 qd2), dmt.dn, fun H15 k15 => ⟨_, rfl, iteFo rfl ?_⟩⟩
      exact ⟨_, _, _, _, _, _, _, _, _, rfl, (((kp.trans k1).trans k2).trans k214).trans k15⟩
    · rintro σ H' ⟨y1, y2, y3, y4, y5, y6, y7, y8, y10, rfl, kp⟩
      refine ⟨szl (by show 3 ≤ 100000; decide), fun p1 n1 => ?_⟩
      generalize h_H1 : upd H' p1 _ = H1
      have k_H1 : Kp H' H1 := by rw [← h_H1]; exact .new n1
      have q_H1 := (congrFun h_H1 p1).symm.trans upd_same
      clear h_H1
      refine ⟨szl (by show 1 ≤ 100000; decide), fun p2 n2 => ?_⟩
      generalize h_H2 : upd H1 p2 _ = H2
      have k_H2 : Kp H1 H2 := by rw [← h_H2]; exact .new n2
      have q_H2 := (congrFun h_H2 p2).symm.trans upd_same
      clear h_H2
      refine ⟨szl (by show 2 ≤ 100000; decide), fun p3 n3 => ?_⟩
      generalize h_H3 : upd H2 p3 _ = H3
      have k_H3 : Kp H2 H3 := by rw [← h_H3]; exact .new n3
      have q_H3 := (congrFun h_H3 p3).symm.trans upd_same
      clear h_H3
      refine ⟨p1, p2, p3, [0, 0, 0], [1], [0, 1], false, (fun p => decide (p = 1)), (fun p => decide (p < 2)), rfl, .inl (.inl ((k_H2.trans k_H3).same _ _ rfl q_H1)), .inl (.inl (k_H3.same _ _ rfl q_H2)), .inl (.inl q_H3), by decide, by decide, ?_, ?_, ?_, fun tg g1 g2 H4 k4 qg _ _ _ qg1 qg2 => ?_⟩
      · intro p hp
        have hp : p < 3 := hp
        have hm : p = 0 ∨ p = 1 ∨ p = 2 := by omega
        rcases hm with rfl | rfl | rfl <;> rfl
      · intro p hp
        have hp : p < 3 := hp
        have hm : p = 0 ∨ p = 1 ∨ p = 2 := by omega
        rcases hm with rfl | rfl | rfl <;> rfl
      · intro p hp
        have hp := of_decide_eq_true hp
        show p + 1 < 3
        omega
      · have e0 : rearN [0, 0, 0] false = 3 := by decide +kernel
        have e1 : fil (wkB (rearN [0, 0, 0] false) (fun p => decide (p = 1))) ([0, 0, 0] : List Int).length = [] := by rw [e0]; decide +kernel
        have e2 : fil (lfB (rearN [0, 0, 0] false) (fun p => decide (p < 2))) ([0, 0, 0] : List Int).length = [] := by rw [e0]; decide +kernel
        rw [e1] at qg1
        rw [e2] at qg2
        refine ⟨Nat.zero_le _, fun p5 n5 => ?_⟩
        generalize h_H5 : upd H4 p5 _ = H5
        have k_H5 : Kp H4 H5 := by rw [← h_H5]; exact .new n5
        have q_H5 := (congrFun h_H5 p5).symm.trans upd_same
        clear h_H5
        refine ⟨Nat.zero_le _, fun p6 n6 => ?_⟩
        generalize h_H6 : upd H5 p6 _ = H6
        have k_H6 : Kp H5 H6 := by rw [← h_H6]; exact .new n6
        have q_H6 := (congrFun h_H6 p6).symm.trans upd_same
        clear h_H6
        refine ⟨szl (by show 2 ≤ 100000; decide), fun p7 n7 => ?_⟩
        generalize h_H7 : upd H6 p7 _ = H7
        have k_H7 : Kp H6 H7 := by rw [← h_H7]; exact .new n7
        have q_H7 := (congrFun h_H7 p7).symm.trans upd_same
        clear h_H7
        have k47 := (k_H5.trans k_H6).trans k_H7
        exact ⟨_, _, _, rfl, k47.dp (dp_two qg qg1 qg2), dp_two (x := []) (y := []) q_H7 ((k_H6.trans k_H7).same _ _ rfl q_H5) (k_H7.same _ _ rfl q_H6), (dm_two (by decide) (by decide)).dn, fun H8 k8 => k _⟩
end
theorem all_mk {l : PySem.W.OpenLaw} {w : World} {K : PySem.W.Frag} {h : Heap} {mg : Str → Option Value} {fa : Addr} (X : K.In h) (G : h.Ns mainGlobals mg) (hfa : mg "law" = some (.ref fa))
    {f1 : Addr} {od1 an1 : Option Addr} {sl1 : Array (Option Value)} {oc1 kV1 dc1 pm1 cd1 ct1 : Value}
    {f2 : Addr} {od2 an2 : Option Addr} {sl2 : Array (Option Value)} {oc2 kV2 dc2 pm2 cd2 ct2 : Value}
    {f3 : Addr} {od3 an3 : Option Addr} {sl3 : Array (Option Value)} {oc3 kV3 dc3 pm3 cd3 ct3 : Value}
    {f4 : Addr} {od4 an4 : Option Addr} {sl4 : Array (Option Value)} {oc4 kV4 dc4 pm4 cd4 ct4 : Value}
    {f5 : Addr} {od5 an5 : Option Addr} {sl5 : Array (Option Value)} {oc5 kV5 dc5 pm5 cd5 ct5 : Value}
    {f6 : Addr} {od6 an6 : Option Addr} {sl6 : Array (Option Value)} {oc6 kV6 dc6 pm6 cd6 ct6 : Value}
    {f7 : Addr} {od7 an7 : Option Addr} {sl7 : Array (Option Value)} {oc7 kV7 dc7 pm7 cd7 ct7 : Value}
    {f8 : Addr} {od8 an8 : Option Addr} {sl8 : Array (Option Value)} {oc8 kV8 dc8 pm8 cd8 ct8 : Value}
    {tk_REST : Tok}
    (a1 : PySem.W.nsIn K mainGlobals "freed" = some (some (.ref f1)))
    (l1 : K.lookup f1 = some ⟨oc1, od1, .func (PySem.W.fnOf "freed" "freed" (defArgs s_p_freed) (defBody s_p_freed) (defScope s_p_freed) .none kV1 dc1 pm1 an1 cd1 ct1), sl1⟩)
    (c1 : PySem.W.codeIn K cd1 "freed" = true)
    (k1 : PySem.W.keepIn K (.ref f1) = true)
    (a2 : PySem.W.nsIn K mainGlobals "rearmost" = some (some (.ref f2)))
    (l2 : K.lookup f2 = some ⟨oc2, od2, .func (PySem.W.fnOf "rearmost" "rearmost" (defArgs s_p_rearmost) (defBody s_p_rearmost) (defScope s_p_rearmost) .none kV2 dc2 pm2 an2 cd2 ct2), sl2⟩)
    (c2 : PySem.W.codeIn K cd2 "rearmost" = true)
    (k2 : PySem.W.keepIn K (.ref f2) = true)
    (a3 : PySem.W.nsIn K mainGlobals "_law_cell" = some (some (.ref f3)))
    (l3 : K.lookup f3 = some ⟨oc3, od3, .func (PySem.W.fnOf "_law_cell" "_law_cell" (defArgs s_l_cell) (defBody s_l_cell) (defScope s_l_cell) .none kV3 dc3 pm3 an3 cd3 ct3), sl3⟩)
    (c3 : PySem.W.codeIn K cd3 "_law_cell" = true)
    (k3 : PySem.W.keepIn K (.ref f3) = true)
    (a4 : PySem.W.nsIn K mainGlobals "_law_row" = some (some (.ref f4)))
    (l4 : K.lookup f4 = some ⟨oc4, od4, .func (PySem.W.fnOf "_law_row" "_law_row" (defArgs s_l_row) (defBody s_l_row) (defScope s_l_row) .none kV4 dc4 pm4 an4 cd4 ct4), sl4⟩)
    (c4 : PySem.W.codeIn K cd4 "_law_row" = true)
    (k4 : PySem.W.keepIn K (.ref f4) = true)
    (a5 : PySem.W.nsIn K mainGlobals "_law_like" = some (some (.ref f5)))
    (l5 : K.lookup f5 = some ⟨oc5, od5, .func (PySem.W.fnOf "_law_like" "_law_like" (defArgs s_l_like) (defBody s_l_like) (defScope s_l_like) .none kV5 dc5 pm5 an5 cd5 ct5), sl5⟩)
    (c5 : PySem.W.codeIn K cd5 "_law_like" = true)
    (k5 : PySem.W.keepIn K (.ref f5) = true)
    (a6 : PySem.W.nsIn K mainGlobals "_law_shown" = some (some (.ref f6)))
    (l6 : K.lookup f6 = some ⟨oc6, od6, .func (PySem.W.fnOf "_law_shown" "_law_shown" (defArgs s_l_shown) (defBody s_l_shown) (defScope s_l_shown) .none kV6 dc6 pm6 an6 cd6 ct6), sl6⟩)
    (c6 : PySem.W.codeIn K cd6 "_law_shown" = true)
    (k6 : PySem.W.keepIn K (.ref f6) = true)
    (a7 : PySem.W.nsIn K mainGlobals "_law_due" = some (some (.ref f7)))
    (l7 : K.lookup f7 = some ⟨oc7, od7, .func (PySem.W.fnOf "_law_due" "_law_due" (defArgs s_l_due) (defBody s_l_due) (defScope s_l_due) .none kV7 dc7 pm7 an7 cd7 ct7), sl7⟩)
    (c7 : PySem.W.codeIn K cd7 "_law_due" = true)
    (k7 : PySem.W.keepIn K (.ref f7) = true)
    (a8 : PySem.W.nsIn K mainGlobals "law" = some (some (.ref f8)))
    (l8 : K.lookup f8 = some ⟨oc8, od8, .func (PySem.W.fnOf "law" "law" (defArgs s_law) (defBody s_law) (defScope s_law) .none kV8 dc8 pm8 an8 cd8 ct8), sl8⟩)
    (c8 : PySem.W.codeIn K cd8 "law" = true)
    (k8 : PySem.W.keepIn K (.ref f8) = true)
    (q_REST : PySem.W.nsIn K mainGlobals "REST" = some (some (.int 0 tk_REST)))
    (z_len : PySem.W.nsIn K mainGlobals "len" = some none)
    (z_range : PySem.W.nsIn K mainGlobals "range" = some none)
    (z_max : PySem.W.nsIn K mainGlobals "max" = some none)
    (z_min : PySem.W.nsIn K mainGlobals "min" = some none)
    (z_enumerate : PySem.W.nsIn K mainGlobals "enumerate" = some none)
    (z_isinstance : PySem.W.nsIn K mainGlobals "isinstance" = some none)
    (z_bool : PySem.W.nsIn K mainGlobals "bool" = some none)
    (z_int : PySem.W.nsIn K mainGlobals "int" = some none)
    (z_str : PySem.W.nsIn K mainGlobals "str" = some none)
    (z_all : PySem.W.nsIn K mainGlobals "all" = some none)
    (z_list : PySem.W.nsIn K mainGlobals "list" = some none)
    (z_tuple : PySem.W.nsIn K mainGlobals "tuple" = some none) :
    ∃ fd : FuncData, (∀ (s : Shared) (v : Value), BindsTo s fd ⟨[v], []⟩ [("_law_script", v)]) ∧ ∀ base : Heap, K.In base → base.Ns mainGlobals mg → FnOk l.prog w K mg base CX0 8 fa fd ["_law_script"] (sp_law K) := by
  have e := hfa.symm.trans (PySem.W.mg_of X G a8)
  cases e
  let T : Txt K mg :=
    { f_p_freed := f1,
      d_p_freed := _,
      F_p_freed := fun_mk (st := s_p_freed) l1 c1 k1,
      b_p_freed := (fun_mk (st := s_p_freed) l1 c1 k1).binds (ps := ["shown", "waits", "asleep", "fogs"]) fun _ _ _ _ _ _ us hl => match us, hl with | [_, _, _, _], _ => rfl,
      g_p_freed := PySem.W.mg_of X G a1,
      f_p_rearmost := f2,
      d_p_rearmost := _,
      F_p_rearmost := fun_mk (st := s_p_rearmost) l2 c2 k2,
      b_p_rearmost := (fun_mk (st := s_p_rearmost) l2 c2 k2).binds (ps := ["shown", "waits"]) fun _ _ _ _ _ _ us hl => match us, hl with | [_, _], _ => rfl,
      g_p_rearmost := PySem.W.mg_of X G a2,
      f_l_cell := f3,
      d_l_cell := _,
      F_l_cell := fun_mk (st := s_l_cell) l3 c3 k3,
      b_l_cell := (fun_mk (st := s_l_cell) l3 c3 k3).binds (ps := ["_law_script", "_law_at"]) fun _ _ _ _ _ _ us hl => match us, hl with | [_, _], _ => rfl,
      g_l_cell := PySem.W.mg_of X G a3,
      f_l_row := f4,
      d_l_row := _,
      F_l_row := fun_mk (st := s_l_row) l4 c4 k4,
      b_l_row := (fun_mk (st := s_l_row) l4 c4 k4).binds (ps := ["_law_cell_here", "_law_many", "_law_size"]) fun _ _ _ _ _ _ us hl => match us, hl with | [_, _, _], _ => rfl,
      g_l_row := PySem.W.mg_of X G a4,
      f_l_like := f5,
      d_l_like := _,
      F_l_like := fun_mk (st := s_l_like) l5 c5 k5,
      b_l_like := (fun_mk (st := s_l_like) l5 c5 k5).binds (ps := ["_law_found", "_law_due_here"]) fun _ _ _ _ _ _ us hl => match us, hl with | [_, _], _ => rfl,
      g_l_like := PySem.W.mg_of X G a5,
      f_l_shown := f6,
      d_l_shown := _,
      F_l_shown := fun_mk (st := s_l_shown) l6 c6 k6,
      b_l_shown := (fun_mk (st := s_l_shown) l6 c6 k6).binds (ps := ["_law_script", "_law_at"]) fun _ _ _ _ _ _ us hl => match us, hl with | [_, _], _ => rfl,
      g_l_shown := PySem.W.mg_of X G a6,
      f_l_due := f7,
      d_l_due := _,
      F_l_due := fun_mk (st := s_l_due) l7 c7 k7,
      b_l_due := (fun_mk (st := s_l_due) l7 c7 k7).binds (ps := ["_law_shown_here", "_law_waits", "_law_asleep", "_law_fogs"]) fun _ _ _ _ _ _ us hl => match us, hl with | [_, _, _, _], _ => rfl,
      g_l_due := PySem.W.mg_of X G a7,
      u_REST := _,
      c_REST := PySem.W.mg_of X G q_REST,
      r_REST := ⟨_, rfl⟩,
      m_len := PySem.W.mg_none_of X G z_len,
      m_range := PySem.W.mg_none_of X G z_range,
      m_max := PySem.W.mg_none_of X G z_max,
      m_min := PySem.W.mg_none_of X G z_min,
      m_enumerate := PySem.W.mg_none_of X G z_enumerate,
      m_isinstance := PySem.W.mg_none_of X G z_isinstance,
      m_bool := PySem.W.mg_none_of X G z_bool,
      m_int := PySem.W.mg_none_of X G z_int,
      m_str := PySem.W.mg_none_of X G z_str,
      m_all := PySem.W.mg_none_of X G z_all,
      m_list := PySem.W.mg_none_of X G z_list,
      m_tuple := PySem.W.mg_none_of X G z_tuple }
  exact ⟨PySem.W.fnOf "law" "law" (defArgs s_law) (defBody s_law) (defScope s_law) .none kV8 dc8 pm8 an8 cd8 ct8, fun s v => .of_eq rfl, fun base _ _ => ok_law T (fun_mk (st := s_law) l8 c8 k8)⟩
end Mw
open PySem PySem.W PyProof.Rows
set_option maxRecDepth 100000 in
set_option maxHeartbeats 0 in
theorem PySem.Challenge.cw_mastword_k13_what_must_be_freed_holds : PySem.Challenge.rw_mastword_k13_what_must_be_freed.Holds := by
  w_on; o_law; k_head; (case hw => w_witness2)
  k_fill
  refine L2.walk_of (l := PySem.Challenge.rw_mastword_k13_what_must_be_freed) (n := 63) (k := 8) (x := "_law_script") (CX := fun _ => L2.CX0) (sp := fun w => Mw.sp_law _) rfl (by decide) rfl ⟨rfl, by decide, by decide⟩ (fun w h Y => PySem.W.kIn_of Y) ?F (fun _ _ a ns hl _ hS => ⟨a, ns, rfl, hS, hl, fun _ => rfl⟩) (fun _ _ _ _ _ h => h)
  case F =>
    intro w mg fa h KX G hmg
    refine' Mw.all_mk KX G hmg ?a1 ?l1 ?c1 ?k1 ?a2 ?l2 ?c2 ?k2 ?a3 ?l3 ?c3 ?k3 ?a4 ?l4 ?c4 ?k4 ?a5 ?l5 ?c5 ?k5 ?a6 ?l6 ?c6 ?k6 ?a7 ?l7 ?c7 ?k7 ?a8 ?l8 ?c8 ?k8 ?q_REST ?z_len ?z_range ?z_max ?z_min ?z_enumerate ?z_isinstance ?z_bool ?z_int ?z_str ?z_all ?z_list ?z_tuple
    (case a1 => k_is)
    (case l1 => k_is)
    (case c1 => k_is)
    (case k1 => k_is)
    (case a2 => k_is)
    (case l2 => k_is)
    (case c2 => k_is)
    (case k2 => k_is)
    (case a3 => k_is)
    (case l3 => k_is)
    (case c3 => k_is)
    (case k3 => k_is)
    (case a4 => k_is)
    (case l4 => k_is)
    (case c4 => k_is)
    (case k4 => k_is)
    (case a5 => k_is)
    (case l5 => k_is)
    (case c5 => k_is)
    (case k5 => k_is)
    (case a6 => k_is)
    (case l6 => k_is)
    (case c6 => k_is)
    (case k6 => k_is)
    (case a7 => k_is)
    (case l7 => k_is)
    (case c7 => k_is)
    (case k7 => k_is)
    (case a8 => k_is)
    (case l8 => k_is)
    (case c8 => k_is)
    (case k8 => k_is)
    (case q_REST => k_is)
    (case z_len => k_is)
    (case z_range => k_is)
    (case z_max => k_is)
    (case z_min => k_is)
    (case z_enumerate => k_is)
    (case z_isinstance => k_is)
    (case z_bool => k_is)
    (case z_int => k_is)
    (case z_str => k_is)
    (case z_all => k_is)
    (case z_list => k_is)
    (case z_tuple => k_is)
