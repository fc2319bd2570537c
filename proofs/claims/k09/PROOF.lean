import PyProof.Rows.All
import Wide.All
import OpenK.AllK
import Wide.FinOn
import HandS.ForMost
import HandS.ForExc
import HandS.AnyAll
import HandS.EndTab
import HandS.ExcIs
import HandS.ExcField
import HandS.ExcInit
import HandS.IsInst
import HandS.Conv
import HandS.Replace
import HandS.Flow
import HandS.Walk
import HandS.Evl
import KE.KExcIs
import HandS.EndOwn
import HandS.CallRecv
import HandS.Style
import PySem.Challenge.RW_mastword_k09_places_of_masts
set_option Elab.async false
set_option linter.all false
set_option maxRecDepth 100000
set_option maxHeartbeats 2000000
namespace Mw
open PySem PySem.Spec PyProof.Rows L2
/-! ### what is kept: every tracked thing but the tables of code objects, which stay tables -/
def isT : HO → Bool
  | .tbl _ => true
  | _ => false
structure Kp (H H' : Hp) : Prop where
  same : ∀ a o, isT o = false → H a = some o → H' a = some o
  tab : ∀ a, GxR.TabG H a → GxR.TabG H' a
  free : ∀ a, H' a = none → H a = none
theorem Kp.refl (H : Hp) : Kp H H := ⟨fun _ _ _ h => h, fun _ h => h, fun _ h => h⟩
theorem Kp.trans {H H1 H2 : Hp} (a : Kp H H1) (b : Kp H1 H2) : Kp H H2 :=
  ⟨fun x o t h => b.same x o t (a.same x o t h), fun x h => b.tab x (a.tab x h), fun x h => a.free x (b.free x h)⟩
theorem Kp.mut {H H' : Hp} {p : Addr} {o : HO} (e : Kp H H') (h : H p = none) : Kp H (upd H' p o) := by
  refine ⟨fun a u t ha => ?_, fun a ⟨ps, ha, ht⟩ => ?_, fun a ha => ?_⟩
  · rw [upd_ne (ne_of_none ha h)]
    exact e.same a u t ha
  · obtain ⟨ps', h1, h2⟩ := e.tab a ⟨ps, ha, ht⟩
    exact ⟨ps', by rw [upd_ne (ne_of_none ha h)]; exact h1, h2⟩
  · by_cases q : a = p
    · rw [q]
      exact h
    · rw [upd_ne q] at ha
      exact e.free a ha
theorem Kp.new {H : Hp} {p : Addr} {o : HO} (h : H p = none) : Kp H (upd H p o) := (Kp.refl H).mut h
theorem Kp.rd {H H' : Hp} {a : Addr} {u : HO} (e : Kp H H') (t : isT u = false) (h : Rd H a u) : Rd H' a u := by
  rcases h with h | ⟨o, h⟩
  · exact Or.inl (e.same a _ t h)
  · exact Or.inr ⟨o, e.same a _ rfl h⟩
theorem Kp.sqL {K : PySem.W.Frag} {H H' : Hp} {a : Addr} {xs : List V} (e : Kp H H') (h : SqL K H a xs) : SqL K H' a xs := by
  rcases h with h | h
  · exact Or.inl (e.rd rfl h)
  · exact Or.inr h
theorem Kp.sqT {K : PySem.W.Frag} {H H' : Hp} {a : Addr} {xs : List V} (e : Kp H H') (h : SqT K H a xs) : SqT K H' a xs := by
  rcases h with h | h
  · exact Or.inl (e.rd rfl h)
  · exact Or.inr h
mutual
theorem Kp.dp {K : PySem.W.Frag} {H H' : Hp} (e : Kp H H') : ∀ {d : PyData} {v : V}, Dp K H v d → Dp K H' v d
  | _, _, .non => .non
  | _, _, .bl b => .bl b
  | _, _, .int i => .int i
  | _, _, .str x => .str x
  | _, _, .lst h a => .lst (e.sqL h) (Kp.dpAll e a)
  | _, _, .tup h a => .tup (e.sqT h) (Kp.dpAll e a)
theorem Kp.dpAll {K : PySem.W.Frag} {H H' : Hp} (e : Kp H H') : ∀ {ds : List PyData} {vs : List V}, DpAll K H vs ds → DpAll K H' vs ds
  | _, _, .nil => .nil
  | _, _, .cons h t => .cons (Kp.dp e h) (Kp.dpAll e t)
end
theorem DpAll.len {K : PySem.W.Frag} {H : Hp} : ∀ {vs : List V} {ds : List PyData}, DpAll K H vs ds → vs.length = ds.length
  | _, _, .nil => rfl
  | _, _, .cons _ t => congrArg (· + 1) (DpAll.len t)
theorem DpAll.get {K : PySem.W.Frag} {H : Hp} : ∀ {vs : List V} {ds : List PyData} {i : Nat} {d : PyData}, DpAll K H vs ds → ds[i]? = some d → ∃ v, vs[i]? = some v ∧ Dp K H v d
  | _, _, i, d, .nil, h => by simp at h
  | _, _, 0, d, .cons a _, h => by
    have e := Option.some.inj h
    subst e
    exact ⟨_, rfl, a⟩
  | _, _, i + 1, d, .cons _ t, h => DpAll.get (i := i) t h
theorem DpAll.app {K : PySem.W.Frag} {H : Hp} : ∀ {vs ws : List V} {ds es : List PyData}, DpAll K H vs ds → DpAll K H ws es → DpAll K H (vs ++ ws) (ds ++ es)
  | _, _, _, _, .nil, b => b
  | _, _, _, _, .cons a t, b => .cons a (DpAll.app t b)
/-- data without lists -/
inductive Nl : PyData → Prop
  | non : Nl .none
  | bl (b : Bool) : Nl (.bool b)
  | int (i : Int) : Nl (.int i)
  | str (x : Str) : Nl (.str x)
  | tup {ds : List PyData} : (∀ d ∈ ds, Nl d) → Nl (.tuple ds)
/-! a list may change: what has no list in it stays -/
mutual
theorem Dp.mut {K : PySem.W.Frag} {H : Hp} {p : Addr} {o : HO} {zs : List V} (hp : H p = some (.lst zs)) : ∀ {d : PyData} {v : V}, Nl d → Dp K H v d → Dp K (upd H p o) v d
  | _, _, _, .non => .non
  | _, _, _, .bl b => .bl b
  | _, _, _, .int i => .int i
  | _, _, _, .str x => .str x
  | _, _, n, .lst _ _ => nomatch n
  | _, _, n, .tup h a => by
    cases n with
    | tup n =>
      refine .tup ?_ (DpAll.mut hp n a)
      rcases h with (h | ⟨ob, h⟩) | h
      · exact .inl (.inl (by rw [upd_ne (ne_of h hp (by intro z; cases z))]; exact h))
      · exact .inl (.inr ⟨ob, by rw [upd_ne (ne_of h hp (by intro z; cases z))]; exact h⟩)
      · exact .inr h
theorem DpAll.mut {K : PySem.W.Frag} {H : Hp} {p : Addr} {o : HO} {zs : List V} (hp : H p = some (.lst zs)) : ∀ {ds : List PyData} {vs : List V}, (∀ d ∈ ds, Nl d) → DpAll K H vs ds → DpAll K (upd H p o) vs ds
  | _, _, _, .nil => .nil
  | _, _, n, .cons h t => .cons (Dp.mut hp (n _ List.mem_cons_self) h) (DpAll.mut hp (fun d hd => n d (List.mem_cons_of_mem _ hd)) t)
end
theorem DpAll.snoc {K : PySem.W.Frag} {H : Hp} {vs : List V} {ds : List PyData} {v : V} {d : PyData} (a : DpAll K H vs ds) (h : Dp K H v d) : DpAll K H (vs ++ [v]) (ds ++ [d]) := DpAll.app a (.cons h .nil)
theorem DpAll.dropLast {K : PySem.W.Frag} {H : Hp} : ∀ {vs : List V} {ds : List PyData}, DpAll K H vs ds → DpAll K H vs.dropLast ds.dropLast
  | _, _, .nil => .nil
  | _, _, .cons _ .nil => .nil
  | _, _, .cons h (.cons h2 t) => .cons h (DpAll.dropLast (.cons h2 t))
theorem dp_ints {K : PySem.W.Frag} {H : Hp} : ∀ ns : List Int, DpAll K H (ns.map V.int) (ns.map PyData.int)
  | [] => .nil
  | n :: r => .cons (.int n) (dp_ints r)
theorem dp_strs {K : PySem.W.Frag} {H : Hp} : ∀ ns : List Str, DpAll K H (ns.map V.str) (ns.map PyData.str)
  | [] => .nil
  | n :: r => .cons (.str n) (dp_strs r)
/-- a list of ints, a list of texts as data -/
def dI (ns : List Int) : PyData := .list (ns.map PyData.int)
def dS (ns : List Str) : PyData := .list (ns.map PyData.str)
theorem dp_dI {K : PySem.W.Frag} {H : Hp} {a : Addr} {ns : List Int} (h : SqL K H a (ns.map V.int)) : Dp K H (.ref a) (dI ns) := .lst h (dp_ints ns)
theorem dpAll_ints {K : PySem.W.Frag} {H : Hp} : ∀ {ns : List Int} {vs : List V}, DpAll K H vs (ns.map PyData.int) → vs = ns.map V.int
  | [], _, .nil => rfl
  | n :: r, _, .cons h t => by
    cases h
    rw [dpAll_ints t]
    rfl
theorem dp_of_dI {K : PySem.W.Frag} {H : Hp} {v : V} {ns : List Int} (h : Dp K H v (dI ns)) : ∃ a, v = .ref a ∧ SqL K H a (ns.map V.int) := by
  cases h with
  | lst h t =>
    rw [dpAll_ints t] at h
    exact ⟨_, rfl, h⟩
/-! ### small words -/
theorem at_int {ns : List Int} {j : Nat} (h : j < ns.length) : atI (ns.map V.int) (j : Int) = some (.int ns[j]) := atI_nat (by rw [List.getElem?_map, List.getElem?_eq_getElem h]; rfl)
theorem at_intZ {ns : List Int} {z : Int} (h0 : 0 ≤ z) (h : z.toNat < ns.length) : atI (ns.map V.int) z = some (.int ns[z.toNat]) := by
  have e := at_int h
  rw [Int.toNat_of_nonneg h0] at e
  exact e
theorem szl {n : Nat} (h : n ≤ 100000) : n ≤ sizeLine := Nat.le_trans h (by decide)
theorem szt {n : Nat} (h : n < 100000) : n < sizeLine := Nat.lt_of_lt_of_le h (by decide)
theorem iteB {b : Bool} {A B : Prop} (h1 : b = true → A) (h2 : b = false → B) : if b = true then A else B := by
  cases b with
  | true => rw [if_pos rfl]; exact h1 rfl
  | false => rw [if_neg Bool.false_ne_true]; exact h2 rfl
theorem iteD {c : Prop} [Decidable c] {A B : Prop} (h1 : c → A) (h2 : ¬ c → B) : if decide c = true then A else B :=
  iteB (fun h => h1 (of_decide_eq_true h)) (fun h => h2 (of_decide_eq_false h))
theorem iteN {c : Prop} [Decidable c] {A B : Prop} (h1 : ¬ c → A) (h2 : c → B) : if (!decide c) = true then A else B :=
  iteB (fun h => h1 (fun z => by rw [decide_eq_true z] at h; cases h)) (fun h => h2 (by
    by_cases z : c
    · exact z
    · rw [decide_eq_false z] at h; cases h))
theorem iteTo {b : Bool} {A B : Prop} (e : b = true) (h : A) : if b = true then A else B := by rw [if_pos e]; exact h
theorem iteFo {b : Bool} {A B : Prop} (e : b = false) (h : B) : if b = true then A else B := by rw [e, if_neg Bool.false_ne_true]; exact h
/-! ### rules with the written part by its own name (inside a comprehension) -/
section
variable {X : Cx} (K : PySem.W.Frag)
theorem ix_listK (h : X.K = K) : IxR X (rIxL K) := h ▸ ix_list
theorem ix_tupK (h : X.K = K) : IxR X (rIxT K) := h ▸ ix_tup
theorem ix_seqK (h : X.K = K) : IxR X (rIx K) := h ▸ ix_seq
def rLenSq : List V → Hp → VK → Prop := fun xs H Q => ∃ p ys, xs = [.ref p] ∧ (SqL K H p ys ∨ SqT K H p ys) ∧ Q (.int ys.length) H
theorem call_lenSK (h : X.K = K) : CallR X (.builtin "len") (rLenSq K) := h ▸ call_len_seq
def rLenV : List V → Hp → VK → Prop := fun xs H Q => ∃ x n, xs = [x] ∧ LenV K x H n ∧ Q (.int n) H
theorem call_lenK (h : X.K = K) : CallR X (.builtin "len") (rLenV K) := h ▸ call_len
theorem op_inK (h : X.K = K) : OpR X (compareOp .In) (rIn K false) := h ▸ op_in_seq
theorem op_notInK (h : X.K = K) : OpR X (compareOp .NotIn) (rIn K true) := h ▸ op_notIn_seq
theorem op_eqDK (h : X.K = K) (hu : X.A.units + 64 < cLine) : OpR X (compareOp .Eq) (rEqD K) := h ▸ op_eqD hu
theorem op_neDK (h : X.K = K) (hu : X.A.units + 64 < cLine) : OpR X (compareOp .NotEq) (rNeD K) := h ▸ op_neD hu
theorem call_isiKK (h : X.K = K) : CallR X (.builtin "isinstance") (rIsi K) := h ▸ call_isi
end
section
variable {X : Cx} (K : PySem.W.Frag)
theorem pgK {e : Expr} {n : Nat} {t : TGs} (h : X.K = K) (p : PG X e (gTup X.K n t)) : PG X e (gTup K n t) := h ▸ p
/-- isinstance(e, C), e what the suite has caught (without or with a dict of its own) -/
def rIsX (cls : Value) (d : Option Addr) (a : Addr) : List V → Hp → VK → Prop := fun xs H Q => ∃ (D : Addr) (c : V) (cv : Value) (b : Bool), cls = .ref D ∧ (d = none ∨ ∃ dd fs, d = some dd ∧ H dd = some (.xd fs)) ∧ ExcC K D ∧ xs = [.ref a, c] ∧ ClsV c cv ∧ PySem.W.kitOne K (.ref D) cv = some b ∧ Q (.bl b) H
theorem call_isX {a : Addr} {oe : Obj} {pn : List (Addr × Obj)} {cls : Value} {d : Option Addr} (h : X.K = K) (hz : Zc cls d oe) (hf : ∃ vs, oe.data = .fields vs) : CallR (X.suite a ((a, oe) :: pn)) (.builtin "isinstance") (rIsX K cls d a) := by
  subst h
  intro pins s σ H xs us Q I r h'
  obtain ⟨D, c, cv, b, rfl, hd, C, rfl, hc, hk, q⟩ := h'
  cases r with | cons rx rr =>
  cases rr with | cons rt rr =>
  cases rr
  cases rx
  have ec := hc.eq rt
  subst ec
  obtain ⟨hget, _⟩ := I.pin (a, oe) (List.mem_append_left _ List.mem_cons_self)
  obtain ⟨vs, hv⟩ := hf
  have hcl : (PySem.W.clsIn X.K D).isSome = true := by
    obtain ⟨cd, hc, _⟩ := PySem.W.any_some C.hd
    rw [hc]
    first | rfl | done
  have nc : PySem.W.notCls oe = true := by
    unfold PySem.W.notCls
    rw [hv]
  rcases hd with rfl | ⟨dd, fs, rfl, hdd⟩
  · have J : PySem.W.InstAt s.heap a oe D none := ⟨hget, hz.1, nc, by rw [hz.2]; trivial⟩
    exact PySem.W.kia_one (PySem.W.kitx_exc hcl C.hg C.hk C.hs C.ha C.hn C.ht C.hm) I.kIn J hk (fun z => nomatch z) fun tk => ⟨.bl b, H, I.kept (t' := tk) fun _ _ z => z, rfl, q⟩
  · obtain ⟨mA, hns, hr⟩ := I.hok dd _ hdd
    obtain ⟨od, ho, hl⟩ := lookIn_ns hns
    have J : PySem.W.InstAt s.heap a oe D (some od) := ⟨hget, hz.1, nc, by rw [hz.2]; exact ho⟩
    exact PySem.W.kia_one (PySem.W.kitx_exc hcl C.hg C.hk C.hs C.ha C.hn C.ht C.hm) I.kIn J hk (fun z => nomatch z) fun tk => ⟨.bl b, H, I.kept (t' := tk) fun _ _ z => z, rfl, q⟩
end
/-! ### isinstance of an own error, by what the written part says of its class -/
theorem kit_sub {K : PySem.W.Frag} {t : Value} {C : Addr} (ic : PySem.W.isClsIn K C = true) (tC : PySem.W.typeIn K (.ref C) = some (.type "type")) (h : PySem.W.subIn K t (.ref C) = some true) : PySem.W.kitOne K t (.ref C) = some true := by
  unfold PySem.W.kitOne
  by_cases e : (t == .ref C) = true
  · rw [if_pos e]
  · rw [if_neg e]
    have h2 : ((PySem.W.clsIn K C).isSome && PySem.W.typeIn K (.ref C) == some (.type "type")) = true := by
      have q : (PySem.W.clsIn K C).isSome = true := ic
      rw [q, tC]
      rfl
    show (if ((PySem.W.clsIn K C).isSome && PySem.W.typeIn K (.ref C) == some (.type "type")) = true then PySem.W.subIn K t (.ref C) else none) = some true
    rw [if_pos h2]
    exact h
theorem kit_not {K : PySem.W.Frag} {t : Value} {C : Addr} (ic : PySem.W.isClsIn K C = true) (tC : PySem.W.typeIn K (.ref C) = some (.type "type")) (h : PySem.W.subIn K t (.ref C) = some false) (hs : PySem.W.subIn K t t = some true) : PySem.W.kitOne K t (.ref C) = some false := by
  unfold PySem.W.kitOne
  have e : ¬ (t == .ref C) = true := fun e => by
    have z : t = .ref C := by simpa using e
    rw [z] at h hs
    rw [h] at hs
    cases hs
  rw [if_neg e]
  have h2 : ((PySem.W.clsIn K C).isSome && PySem.W.typeIn K (.ref C) == some (.type "type")) = true := by
    have q : (PySem.W.clsIn K C).isSome = true := ic
    rw [q, tC]
    rfl
  show (if ((PySem.W.clsIn K C).isSome && PySem.W.typeIn K (.ref C) == some (.type "type")) = true then PySem.W.subIn K t (.ref C) else none) = some false
  rw [if_pos h2]
  exact h
theorem meta_ve : PySem.W.kitMeta "ValueError" = true := by decide +kernel
theorem kit_ve {K : PySem.W.Frag} {C : Addr} (h : PySem.W.subIn K (.ref C) (.type "ValueError") = some true) : PySem.W.kitOne K (.ref C) (.type "ValueError") = some true := by
  unfold PySem.W.kitOne
  rw [if_neg (by intro z; cases z)]
  show (if PySem.W.kitMeta "ValueError" = true then PySem.W.subIn K (.ref C) (.type "ValueError") else none) = some true
  rw [if_pos meta_ve]
  exact h
theorem at_mod (z : Str) {m : Int} {n : Nat} (hn : 0 < n) (hl : z.cps.toList.length = n) : ∃ c, atI z.cps.toList (m % (n : Int)) = some c := by
  have h0 : 0 ≤ m % (n : Int) := Int.emod_nonneg _ (by omega)
  have h1 : m % (n : Int) < (n : Int) := Int.emod_lt_of_pos _ (by omega)
  have hj : (m % (n : Int)).toNat < z.cps.toList.length := by omega
  refine ⟨z.cps.toList[(m % (n : Int)).toNat], ?_⟩
  have e := atI_nat (List.getElem?_eq_getElem hj)
  rw [Int.toNat_of_nonneg h0] at e
  exact e
theorem cutV_map {lo hi : Option Int} {ns : List Int} : ∃ ms : List Int, cutV (ns.map V.int) lo hi = ms.map V.int ∧ (∀ m ∈ ms, m ∈ ns) ∧ ms.length ≤ ns.length := by
  unfold cutV
  rw [List.length_map]
  refine ⟨(ns.drop _).take _, by rw [List.map_take, List.map_drop], fun m h => List.mem_of_mem_drop (List.mem_of_mem_take h), ?_⟩
  rw [List.length_take, List.length_drop]
  omega
theorem mem_ints {ns : List Int} {i : Nat} {x : V} (h : (ns.map V.int)[i]? = some x) : ∃ z, z ∈ ns ∧ x = .int z ∧ ns[i]? = some z := by
  rw [List.getElem?_map] at h
  cases e : ns[i]? with
  | none =>
    rw [e] at h
    cases h
  | some z =>
    rw [e] at h
    exact ⟨z, List.mem_of_getElem? e, (Option.some.inj h).symm, rfl⟩
theorem mem_strs {ns : List Str} {i : Nat} {x : V} (h : (ns.map V.str)[i]? = some x) : ∃ z, z ∈ ns ∧ x = .str z ∧ ns[i]? = some z := by
  rw [List.getElem?_map] at h
  cases e : ns[i]? with
  | none =>
    rw [e] at h
    cases h
  | some z =>
    rw [e] at h
    exact ⟨z, List.mem_of_getElem? e, (Option.some.inj h).symm, rfl⟩
theorem take_snoc {α : Type} {l : List α} {i : Nat} {z : α} (h : l[i]? = some z) : l.take (i + 1) = l.take i ++ [z] := by
  rw [List.take_succ, h]
  rfl
def top (i : Nat) : Stmt := PySem.Challenge.pw_mastword_k09_places_of_masts.main.body.getD i (.Pass ⟨0, 0, 0, 0⟩)
abbrev s_p_check_way : Stmt := top 7
theorem sc_p_check_way : FnScope ["way"] ["way"] (defScope s_p_check_way) := ⟨rfl, rfl, rfl, by decide +kernel, rfl, by decide +kernel, by decide +kernel⟩
abbrev s_p_check_mast : Stmt := top 8
theorem sc_p_check_mast : FnScope ["masts", "mast"] ["masts", "mast"] (defScope s_p_check_mast) := ⟨rfl, rfl, rfl, by decide +kernel, rfl, by decide +kernel, by decide +kernel⟩
abbrev s_p_place_of : Stmt := top 9
theorem sc_p_place_of : FnScope ["way", "masts", "mast"] ["way", "masts", "mast"] (defScope s_p_place_of) := ⟨rfl, rfl, rfl, by decide +kernel, rfl, by decide +kernel, by decide +kernel⟩
abbrev s_p_along : Stmt := top 10
theorem sc_p_along : FnScope ["way", "row"] ["way", "row"] (defScope s_p_along) := ⟨rfl, rfl, rfl, by decide +kernel, rfl, by decide +kernel, by decide +kernel⟩
abbrev s_l_cell : Stmt := top 12
theorem sc_l_cell : FnScope ["_law_script", "_law_at"] ["_law_script", "_law_at"] (defScope s_l_cell) := ⟨rfl, rfl, rfl, by decide +kernel, rfl, by decide +kernel, by decide +kernel⟩
abbrev s_l_row : Stmt := top 13
theorem sc_l_row : FnScope ["_law_cell_here", "_law_many", "_law_size", "_law_row_here", "_law_rest", "_law_k", "_law_seed", "_law_mixed"] ["_law_cell_here", "_law_many", "_law_size"] (defScope s_l_row) := ⟨rfl, rfl, rfl, by decide +kernel, rfl, by decide +kernel, by decide +kernel⟩
abbrev s_l_like : Stmt := top 14
theorem sc_l_like : FnScope ["_law_found", "_law_due", "_law_k"] ["_law_found", "_law_due"] (defScope s_l_like) := ⟨rfl, rfl, rfl, by decide +kernel, rfl, by decide +kernel, by decide +kernel⟩
abbrev s_l_told : Stmt := top 15
theorem sc_l_told : FnScope ["_law_way", "_law_masts", "_law_mast", "_law_told_here", "e"] ["_law_way", "_law_masts", "_law_mast"] (defScope s_l_told) := ⟨rfl, rfl, rfl, by decide +kernel, rfl, by decide +kernel, by decide +kernel⟩
abbrev s_l_along : Stmt := top 16
theorem sc_l_along : FnScope ["_law_way", "_law_row_here", "_law_told_here", "e"] ["_law_way", "_law_row_here"] (defScope s_l_along) := ⟨rfl, rfl, rfl, by decide +kernel, rfl, by decide +kernel, by decide +kernel⟩
abbrev s_law : Stmt := top 17
theorem sc_law : FnScope ["_law_script", "_law_masts", "_law_pick", "_law_mast", "_law_row_here", "_law_way", "_law_due", "_law_handed", "_law_found", "_law_turned"] ["_law_script"] (defScope s_law) := ⟨rfl, rfl, rfl, by decide +kernel, rfl, by decide +kernel, by decide +kernel⟩
structure Txt (K : PySem.W.Frag) (mg : Str → Option Value) where
  a_MastError : Addr
  a_NoMast : Addr
  a_BadWay : Addr
  g_MastError : mg "MastError" = some (.ref a_MastError)
  x_MastError : PySem.W.excIn K a_MastError [.type "ValueError", .type "Exception", .type "BaseException", .type "object"] "ValueError.__new__" = true
  k_MastError : PySem.W.keepIn K (.ref a_MastError) = true
  b_MastError : PySem.W.subIn K (.ref a_MastError) (.type "BaseException") = some true
  t_MastError : PySem.W.typeIn K (.ref a_MastError) = some (.type "type")
  i_MastError : PySem.W.isClsIn K a_MastError = true
  h_MastError : PySem.W.hasDictIn K a_MastError = true
  ga_MastError : PySem.W.findIn K (.ref a_MastError) "__getattribute__" = some (some (.builtin "BaseException.__getattribute__"))
  gg_MastError : PySem.W.findIn K (.ref a_MastError) "__getattr__" = some none
  cl_MastError : PySem.W.findIn K (.ref a_MastError) "__class__" = some (some (.builtin "object.__class__"))
  mo_MastError : PySem.W.mroIn K a_MastError (.type "object") = some true
  v_MastError : PySem.W.subIn K (.ref a_MastError) (.type "ValueError") = some true
  s_MastError_MastError : PySem.W.subIn K (.ref a_MastError) (.ref a_MastError) = some true
  g_NoMast : mg "NoMast" = some (.ref a_NoMast)
  x_NoMast : PySem.W.excIn K a_NoMast [.type "ValueError", .type "Exception", .type "BaseException", .type "object"] "ValueError.__new__" = true
  k_NoMast : PySem.W.keepIn K (.ref a_NoMast) = true
  b_NoMast : PySem.W.subIn K (.ref a_NoMast) (.type "BaseException") = some true
  t_NoMast : PySem.W.typeIn K (.ref a_NoMast) = some (.type "type")
  i_NoMast : PySem.W.isClsIn K a_NoMast = true
  h_NoMast : PySem.W.hasDictIn K a_NoMast = true
  ga_NoMast : PySem.W.findIn K (.ref a_NoMast) "__getattribute__" = some (some (.builtin "BaseException.__getattribute__"))
  gg_NoMast : PySem.W.findIn K (.ref a_NoMast) "__getattr__" = some none
  cl_NoMast : PySem.W.findIn K (.ref a_NoMast) "__class__" = some (some (.builtin "object.__class__"))
  mo_NoMast : PySem.W.mroIn K a_NoMast (.type "object") = some true
  v_NoMast : PySem.W.subIn K (.ref a_NoMast) (.type "ValueError") = some true
  s_NoMast_MastError : PySem.W.subIn K (.ref a_NoMast) (.ref a_MastError) = some true
  s_NoMast_NoMast : PySem.W.subIn K (.ref a_NoMast) (.ref a_NoMast) = some true
  s_NoMast_BadWay : PySem.W.subIn K (.ref a_NoMast) (.ref a_BadWay) = some false
  g_BadWay : mg "BadWay" = some (.ref a_BadWay)
  x_BadWay : PySem.W.excIn K a_BadWay [.type "ValueError", .type "Exception", .type "BaseException", .type "object"] "ValueError.__new__" = true
  k_BadWay : PySem.W.keepIn K (.ref a_BadWay) = true
  b_BadWay : PySem.W.subIn K (.ref a_BadWay) (.type "BaseException") = some true
  t_BadWay : PySem.W.typeIn K (.ref a_BadWay) = some (.type "type")
  i_BadWay : PySem.W.isClsIn K a_BadWay = true
  h_BadWay : PySem.W.hasDictIn K a_BadWay = true
  ga_BadWay : PySem.W.findIn K (.ref a_BadWay) "__getattribute__" = some (some (.builtin "BaseException.__getattribute__"))
  gg_BadWay : PySem.W.findIn K (.ref a_BadWay) "__getattr__" = some none
  cl_BadWay : PySem.W.findIn K (.ref a_BadWay) "__class__" = some (some (.builtin "object.__class__"))
  mo_BadWay : PySem.W.mroIn K a_BadWay (.type "object") = some true
  v_BadWay : PySem.W.subIn K (.ref a_BadWay) (.type "ValueError") = some true
  s_BadWay_MastError : PySem.W.subIn K (.ref a_BadWay) (.ref a_MastError) = some true
  s_BadWay_NoMast : PySem.W.subIn K (.ref a_BadWay) (.ref a_NoMast) = some false
  s_BadWay_BadWay : PySem.W.subIn K (.ref a_BadWay) (.ref a_BadWay) = some true
  f_p_check_way : Addr
  d_p_check_way : FuncData
  F_p_check_way : Fun K "check_way" "check_way" s_p_check_way f_p_check_way d_p_check_way
  b_p_check_way : Binds K d_p_check_way ["way"] []
  g_p_check_way : mg "check_way" = some (.ref f_p_check_way)
  f_p_check_mast : Addr
  d_p_check_mast : FuncData
  F_p_check_mast : Fun K "check_mast" "check_mast" s_p_check_mast f_p_check_mast d_p_check_mast
  b_p_check_mast : Binds K d_p_check_mast ["masts", "mast"] []
  g_p_check_mast : mg "check_mast" = some (.ref f_p_check_mast)
  f_p_place_of : Addr
  d_p_place_of : FuncData
  F_p_place_of : Fun K "place_of" "place_of" s_p_place_of f_p_place_of d_p_place_of
  b_p_place_of : Binds K d_p_place_of ["way", "masts", "mast"] []
  g_p_place_of : mg "place_of" = some (.ref f_p_place_of)
  f_p_along : Addr
  d_p_along : FuncData
  F_p_along : Fun K "along" "along" s_p_along f_p_along d_p_along
  b_p_along : Binds K d_p_along ["way", "row"] []
  g_p_along : mg "along" = some (.ref f_p_along)
  f_l_cell : Addr
  d_l_cell : FuncData
  F_l_cell : Fun K "_law_cell" "_law_cell" s_l_cell f_l_cell d_l_cell
  b_l_cell : Binds K d_l_cell ["_law_script", "_law_at"] []
  g_l_cell : mg "_law_cell" = some (.ref f_l_cell)
  f_l_row : Addr
  d_l_row : FuncData
  F_l_row : Fun K "_law_row" "_law_row" s_l_row f_l_row d_l_row
  b_l_row : Binds K d_l_row ["_law_cell_here", "_law_many", "_law_size"] []
  g_l_row : mg "_law_row" = some (.ref f_l_row)
  f_l_like : Addr
  d_l_like : FuncData
  F_l_like : Fun K "_law_like" "_law_like" s_l_like f_l_like d_l_like
  b_l_like : Binds K d_l_like ["_law_found", "_law_due"] []
  g_l_like : mg "_law_like" = some (.ref f_l_like)
  f_l_told : Addr
  d_l_told : FuncData
  F_l_told : Fun K "_law_told" "_law_told" s_l_told f_l_told d_l_told
  b_l_told : Binds K d_l_told ["_law_way", "_law_masts", "_law_mast"] []
  g_l_told : mg "_law_told" = some (.ref f_l_told)
  f_l_along : Addr
  d_l_along : FuncData
  F_l_along : Fun K "_law_along" "_law_along" s_l_along f_l_along d_l_along
  b_l_along : Binds K d_l_along ["_law_way", "_law_row_here"] []
  g_l_along : mg "_law_along" = some (.ref f_l_along)
  u_UP : Value
  c_UP : mg "UP" = some u_UP
  r_UP : RelV (.str "up") u_UP
  u_DOWN : Value
  c_DOWN : mg "DOWN" = some u_DOWN
  r_DOWN : RelV (.str "down") u_DOWN
  m_list : mg "list" = none
  m_len : mg "len" = none
  m_range : mg "range" = none
  m_isinstance : mg "isinstance" = none
  m_bool : mg "bool" = none
  m_int : mg "int" = none
  m_str : mg "str" = none
  m_all : mg "all" = none
  m_tuple : mg "tuple" = none
  oc_get : PySem.W.specialIn K (.builtin "object.__class__") "__get__" = some (some (.builtin "getset_descriptor.__get__"))
  oc_tak : PySem.W.takesIn K (.builtin "object.__class__") = some true
section
variable {P : Program} {w : World} {K : PySem.W.Frag} {mg : Str → Option Value} {base : Heap}
/-! ### _law_cell: an int of the script -/
def cellV (ns : List Int) (j : Nat) : Int :=
  if j < ns.length then ns.getD j 0 else if ns.length = 0 then 29 * (j : Int) + 5 else ns.getD (j % ns.length) 0 % 1000003 + 103 * (j : Int)
def sp_l_cell (K : PySem.W.Frag) : Sp := fun vs H Q _ => ∃ (l : Addr) (ns : List Int) (j : Nat), vs = [.ref l, .int j] ∧ SqL K H l (ns.map V.int) ∧ j ≤ 100000 ∧ Q (.int (cellV ns j)) H
theorem getD_at {ns : List Int} {j : Nat} (h : j < ns.length) : atI (ns.map V.int) (j : Int) = some (.int (ns.getD j 0)) := by
  rw [at_int h, List.getD_eq_getElem?_getD, List.getElem?_eq_getElem h]
  rfl
theorem ok_l_cell (T : Txt K mg) : FnOk P w K mg base CX0 1 T.f_l_cell T.d_l_cell ["_law_script", "_law_at"] (sp_l_cell K) := by
  refine T.F_l_cell.ok sc_l_cell (fun vs H Q E h => ?_) (fun cdv A outer s H vs Q E hr h => ?_)
  · obtain ⟨l, ns, j, rfl, _⟩ := h
    rfl
  · obtain ⟨l, ns, j, rfl, hS, hj, k⟩ := h
    have hlen : ((ns.map V.int).length : Int) = (ns.length : Int) := by rw [List.length_map]
    refine ⟨_, (pss_cons (ps_if (pt_cmpR op_lt (pv 1) (pe_callB call_len_seq (by rfl) T.m_len PySem.boot_len (pa_cons (pv 0) pa_nil)) (nomark _))
      (pss_one (ps_ret (pe_ix ix_list (pv 0) (pv 1) (fun _ _ => rfl))))
      pss_nil)
      (pss_cons (ps_if (pt_cmpR op_eq (pe_callB call_len_seq (by rfl) T.m_len PySem.boot_len (pa_cons (pv 0) pa_nil)) pe_int (nomark _))
      (pss_one (ps_ret (pe_op op_add (pe_op op_mul pe_int (pv 1)) pe_int)))
      pss_nil)
      (pss_one (ps_ret (pe_op op_add (pe_op op_mod (pe_ix ix_list (pv 0) (pe_op op_mod (pv 1) (pe_callB call_len_seq (by rfl) T.m_len PySem.boot_len (pa_cons (pv 0) pa_nil))) (fun _ _ => rfl)) pe_int) (pe_op op_mul pe_int (pv 1))))))), ?_⟩
    refine ⟨_, rfl, _, rfl, l, _, rfl, .inl hS, _, _, rfl, rfl, _, rfl, iteD (fun c => ?_) (fun c => ?_)⟩
    · rw [hlen] at c
      refine ⟨_, rfl, _, rfl, l, _, _, _, rfl, rfl, hS, getD_at (show j < ns.length by omega), ?_⟩
      have e : cellV ns j = ns.getD j 0 := if_pos (by omega)
      rw [e] at k
      exact k
    · rw [hlen] at c
      refine ⟨_, rfl, l, _, rfl, .inl hS, rfl, _, rfl, iteD (fun c2 => ?_) (fun c2 => ?_)⟩
      · have c3 : (ns.length : Int) = 0 := by
          have z := V.int.inj c2
          rw [hlen] at z
          exact z
        have e : cellV ns j = 29 * (j : Int) + 5 := by
          unfold cellV
          rw [if_neg (by omega), if_pos (by omega)]
        rw [e] at k
        exact ⟨_, rfl, _, _, rfl, rfl, .inl ⟨by decide, by decide⟩, _, _, rfl, rfl, k⟩
      · have c3 : ns.length ≠ 0 := fun z => c2 (by rw [hlen, z]; rfl)
        have hm : j % ns.length < ns.length := Nat.mod_lt _ (by omega)
        have e : cellV ns j = ns.getD (j % ns.length) 0 % 1000003 + 103 * (j : Int) := by
          unfold cellV
          rw [if_neg (by omega), if_neg c3]
        rw [e] at k
        have ea : atI (ns.map V.int) ((j : Int) % ((ns.map V.int).length : Int)) = some (.int (ns.getD (j % ns.length) 0)) := by
          rw [hlen, ← Int.natCast_emod]
          exact getD_at hm
        exact ⟨_, rfl, _, rfl, _, rfl, l, _, rfl, .inl hS, _, _, rfl, rfl, (by show (0 : Int) < ((ns.map V.int).length : Int); rw [hlen]; omega), l, _, _, _, rfl, rfl, hS, ea, _, _, rfl, rfl, (by show (0 : Int) < 1000003; decide), _, rfl, _, _, rfl, rfl, .inl ⟨by decide, by decide⟩, _, _, rfl, rfl, k⟩
/-! ### _law_like of one datum with itself -/
inductive Dn : Nat → PyData → Prop
  | non (n : Nat) : Dn (n + 1) .none
  | bl (n : Nat) (b : Bool) : Dn (n + 1) (.bool b)
  | int (n : Nat) (i : Int) : Dn (n + 1) (.int i)
  | str (n : Nat) (x : Str) : Dn (n + 1) (.str x)
  | lst {n : Nat} {ds : List PyData} : (∀ d ∈ ds, Dn n d) → ds.length ≤ 10000 → Dn (n + 1) (.list ds)
  | tup {n : Nat} {ds : List PyData} : (∀ d ∈ ds, Dn n d) → ds.length ≤ 10000 → Dn (n + 1) (.tuple ds)
def tyN : PyData → String
  | .none => "NoneType" | .bool _ => "bool" | .int _ => "int" | .str _ => "str" | .list _ => "list" | .tuple _ => "tuple" | .dict _ => "dict"
theorem ty_of {K : PySem.W.Frag} {H : Hp} {v : V} {d : PyData} (h : Dp K H v d) : TyX K H v (.type (tyN d)) := by
  cases h with
  | non => exact .base .non
  | bl b => exact .base (.bl b)
  | int i => exact .base (.int i)
  | str x => exact .base (.str x)
  | lst h _ =>
    rcases h with (h | ⟨o, h⟩) | ⟨o, its, n, e, c, _⟩
    · exact .base (.lst h)
    · exact .base (.frz h)
    · exact .kList e c
  | tup h _ =>
    rcases h with (h | ⟨o, h⟩) | ⟨o, its, n, e, c, _⟩
    · exact .base (.tup h)
    · exact .fTuple h
    · exact .kTuple e c
def sp_l_like (K : PySem.W.Frag) (n : Nat) : Sp := fun vs H Q _ => ∃ (u v : V) (d : PyData), vs = [u, v] ∧ Dp K H u d ∧ Dp K H v d ∧ Dn n d ∧ ∀ H', Kp H H' → Q (.bl true) H'
theorem fn_none {P : Program} {w : World} {K : PySem.W.Frag} {mg : Str → Option Value} {base : Heap} {f : Addr} {fd : FuncData} {ps : List Str} {sp : Sp} {k : Nat} (h : ∀ vs H Q E, ¬ sp vs H Q E) : FnOk P w K mg base CX0 k f fd ps sp :=
  ⟨fun vs H Q E q => (h vs H Q E q).elim, fun _ _ _ H _ _ vs Q E _ _ _ _ q => (h vs H Q E q).elim⟩
theorem bl_all {n : Nat} : ((List.replicate n true).map V.bl) = List.replicate n (V.bl true) := List.map_replicate
theorem all_rep (n : Nat) : (List.replicate n true).all id = true := by
  rw [List.all_eq_true]
  intro x hx
  rw [List.eq_of_mem_replicate hx]
  rfl
theorem k_bb : kitB "bool" "bool" = some true := by decide +kernel
theorem k_bi : kitB "bool" "int" = some true := by decide +kernel
theorem k_bs : kitB "bool" "str" = some false := by decide +kernel
theorem k_bl : kitB "bool" "list" = some false := by decide +kernel
theorem k_bt : kitB "bool" "tuple" = some false := by decide +kernel
theorem k_ib : kitB "int" "bool" = some false := by decide +kernel
theorem k_ii : kitB "int" "int" = some true := by decide +kernel
theorem k_is : kitB "int" "str" = some false := by decide +kernel
theorem k_il : kitB "int" "list" = some false := by decide +kernel
theorem k_it : kitB "int" "tuple" = some false := by decide +kernel
theorem k_sb : kitB "str" "bool" = some false := by decide +kernel
theorem k_si : kitB "str" "int" = some false := by decide +kernel
theorem k_ss : kitB "str" "str" = some true := by decide +kernel
theorem k_sl : kitB "str" "list" = some false := by decide +kernel
theorem k_st : kitB "str" "tuple" = some false := by decide +kernel
theorem k_lb : kitB "list" "bool" = some false := by decide +kernel
theorem k_li : kitB "list" "int" = some false := by decide +kernel
theorem k_ls : kitB "list" "str" = some false := by decide +kernel
theorem k_ll : kitB "list" "list" = some true := by decide +kernel
theorem k_lt : kitB "list" "tuple" = some false := by decide +kernel
theorem k_tb : kitB "tuple" "bool" = some false := by decide +kernel
theorem k_ti : kitB "tuple" "int" = some false := by decide +kernel
theorem k_ts : kitB "tuple" "str" = some false := by decide +kernel
theorem k_tl : kitB "tuple" "list" = some false := by decide +kernel
theorem k_tt : kitB "tuple" "tuple" = some true := by decide +kernel
theorem dec_self {x : V} : decide (x = x) = true := decide_eq_true rfl
theorem ok_l_like (T : Txt K mg) : ∀ n : Nat, FnOk P w K mg base CX0 n T.f_l_like T.d_l_like ["_law_found", "_law_due"] (sp_l_like K n)
  | 0 => fn_none fun vs H Q E ⟨u, v, d, _, _, _, h, _⟩ => nomatch h
  | n + 1 => by
    have IH := ok_l_like T n
    refine T.F_l_like.ok sc_l_like (fun vs H Q E h => ?_) (fun cdv A outer s H vs Q E hr h => ?_)
    · obtain ⟨u, v, d, rfl, _⟩ := h
      rfl
    · obtain ⟨u, v, d, rfl, hu, hv, hn, k⟩ := h
      have tu := ty_of hu
      have tv := ty_of hv
      refine ⟨_, (pss_cons (ps_if (pt_cmpR op_isN (pv 1) pe_non (nomark _))
      (pss_one (ps_ret (pe_cmpR op_isN (pv 0) pe_non (nomark _))))
      pss_nil)
      (pss_cons (ps_if (pt_val (pe_callB call_isi (by rfl) T.m_isinstance (by decide +kernel) (pa_cons (pv 1) (pa_cons (pe_bltn (v := .ty "bool") (by rfl) T.m_bool (by decide +kernel) rfl) pa_nil))))
      (pss_one (ps_ret (pe_and (pe_callB call_isi (by rfl) T.m_isinstance (by decide +kernel) (pa_cons (pv 0) (pa_cons (pe_bltn (v := .ty "bool") (by rfl) T.m_bool (by decide +kernel) rfl) pa_nil))) (pe_one (pe_cmpR op_eq (pv 0) (pv 1) (nomark _))))))
      pss_nil)
      (pss_cons (ps_if (pt_val (pe_callB call_isi (by rfl) T.m_isinstance (by decide +kernel) (pa_cons (pv 1) (pa_cons (pe_bltn (v := .ty "int") (by rfl) T.m_int (by decide +kernel) rfl) pa_nil))))
      (pss_one (ps_ret (pe_and (pe_callB call_isi (by rfl) T.m_isinstance (by decide +kernel) (pa_cons (pv 0) (pa_cons (pe_bltn (v := .ty "int") (by rfl) T.m_int (by decide +kernel) rfl) pa_nil))) (pe_and (pe_not (pe_callB call_isi (by rfl) T.m_isinstance (by decide +kernel) (pa_cons (pv 0) (pa_cons (pe_bltn (v := .ty "bool") (by rfl) T.m_bool (by decide +kernel) rfl) pa_nil)))) (pe_one (pe_cmpR op_eq (pv 0) (pv 1) (nomark _)))))))
      pss_nil)
      (pss_cons (ps_if (pt_val (pe_callB call_isi (by rfl) T.m_isinstance (by decide +kernel) (pa_cons (pv 1) (pa_cons (pe_bltn (v := .ty "str") (by rfl) T.m_str (by decide +kernel) rfl) pa_nil))))
      (pss_one (ps_ret (pe_and (pe_callB call_isi (by rfl) T.m_isinstance (by decide +kernel) (pa_cons (pv 0) (pa_cons (pe_bltn (v := .ty "str") (by rfl) T.m_str (by decide +kernel) rfl) pa_nil))) (pe_one (pe_cmpR op_eq (pv 0) (pv 1) (nomark _))))))
      pss_nil)
      (pss_cons (ps_if (PW.pt (pw_or (pt_cmpR op_ne (pe_callB call_isi (by rfl) T.m_isinstance (by decide +kernel) (pa_cons (pv 1) (pa_cons (pe_bltn (v := .ty "list") (by rfl) T.m_list (by decide +kernel) rfl) pa_nil))) (pe_callB call_isi (by rfl) T.m_isinstance (by decide +kernel) (pa_cons (pv 0) (pa_cons (pe_bltn (v := .ty "list") (by rfl) T.m_list (by decide +kernel) rfl) pa_nil))) (nomark _)) (pw_or1 (pt_cmpR op_ne (pe_callB call_isi (by rfl) T.m_isinstance (by decide +kernel) (pa_cons (pv 1) (pa_cons (pe_bltn (v := .ty "tuple") (by rfl) T.m_tuple (by decide +kernel) rfl) pa_nil))) (pe_callB call_isi (by rfl) T.m_isinstance (by decide +kernel) (pa_cons (pv 0) (pa_cons (pe_bltn (v := .ty "tuple") (by rfl) T.m_tuple (by decide +kernel) rfl) pa_nil))) (nomark _)))))
      (pss_one (ps_ret pe_bl))
      pss_nil)
      (pss_one (ps_ret (pe_and (pe_cmpR op_eq (pe_callB call_len (by rfl) T.m_len PySem.boot_len (pa_cons (pv 0) pa_nil)) (pe_callB call_len (by rfl) T.m_len PySem.boot_len (pa_cons (pv 1) pa_nil)) (nomark _)) (pe_one (pe_callB (cr_all rfl) (by rfl) T.m_all (by decide +kernel) (pa_cons (pe_lc (own := [("_law_k", 2)]) (g := gName 2) (tt := tYes) (by rfl) sc_l_like.nd (pi_range1 (by rfl) T.m_range (pa_cons (pe_callB call_len (by rfl) T.m_len PySem.boot_len (pa_cons (pv 1) pa_nil)) pa_nil)) (blkOk_by (own := [("_law_k", 2)]) (N := ["_law_found", "_law_due", "_law_k"]) (sc := defScope s_l_like) (by decide +kernel)) (fun _ _ _ _ _ => (pg_name (i := 2) sc_l_like.nd rfl (by first | exact Or.inl rfl | exact Or.inr rfl))) (fun _ _ _ _ _ => pts_nil) (fun _ _ _ _ _ => (pe_call IH hr rfl T.g_l_like T.F_l_like.kp T.b_l_like .nil pass0 (pa_cons (pe_ix (ix_seqK K rfl) (pv 0) (pv 2) (fun _ _ => rfl)) (pa_cons (pe_ix (ix_seqK K rfl) (pv 1) (pv 2) (fun _ _ => rfl)) pa_nil))))) pa_nil))))))))))), ?_⟩
      cases hn with
      | non n =>
        cases hu
        cases hv
        refine ⟨_, rfl, rfl, _, rfl, iteTo dec_self ?_⟩
        exact ⟨_, rfl, rfl, k _ (.refl _)⟩
      | bl n b =>
        cases hu
        cases hv
        refine ⟨_, rfl, rfl, _, rfl, iteFo rfl ?_⟩
        refine ⟨_, rfl, _, _, _, _, true, rfl, .ty _, tv, kit_ty k_bb, _, rfl, iteTo rfl ?_⟩
        refine ⟨_, rfl, _, _, _, _, true, rfl, .ty _, tu, kit_ty k_bb, _, rfl, iteTo rfl ?_⟩
        refine ⟨_, rfl, _, rfl, rfl, ?_⟩
        rw [dec_self]
        exact k _ (.refl _)
      | int n i =>
        cases hu
        cases hv
        refine ⟨_, rfl, rfl, _, rfl, iteFo rfl ?_⟩
        refine ⟨_, rfl, _, _, _, _, false, rfl, .ty _, tv, kit_ty k_ib, _, rfl, iteFo rfl ?_⟩
        refine ⟨_, rfl, _, _, _, _, true, rfl, .ty _, tv, kit_ty k_ii, _, rfl, iteTo rfl ?_⟩
        refine ⟨_, rfl, _, _, _, _, true, rfl, .ty _, tu, kit_ty k_ii, _, rfl, iteTo rfl ?_⟩
        refine ⟨_, rfl, _, _, _, _, false, rfl, .ty _, tu, kit_ty k_ib, _, rfl, _, rfl, iteTo rfl ?_⟩
        refine ⟨_, rfl, _, rfl, rfl, ?_⟩
        rw [dec_self]
        exact k _ (.refl _)
      | str n x =>
        cases hu
        cases hv
        refine ⟨_, rfl, rfl, _, rfl, iteFo rfl ?_⟩
        refine ⟨_, rfl, _, _, _, _, false, rfl, .ty _, tv, kit_ty k_sb, _, rfl, iteFo rfl ?_⟩
        refine ⟨_, rfl, _, _, _, _, false, rfl, .ty _, tv, kit_ty k_si, _, rfl, iteFo rfl ?_⟩
        refine ⟨_, rfl, _, _, _, _, true, rfl, .ty _, tv, kit_ty k_ss, _, rfl, iteTo rfl ?_⟩
        refine ⟨_, rfl, _, _, _, _, true, rfl, .ty _, tu, kit_ty k_ss, _, rfl, iteTo rfl ?_⟩
        refine ⟨_, rfl, _, rfl, rfl, ?_⟩
        rw [dec_self]
        exact k _ (.refl _)
      | lst hd hl =>
        rename_i ds
        cases hu with | lst hsu hau =>
        cases hv with | lst hsv hav =>
        rename_i a xs b ys
        have lx := DpAll.len hau
        have ly := DpAll.len hav
        refine ⟨_, rfl, rfl, _, rfl, iteFo rfl ?_⟩
        refine ⟨_, rfl, _, _, _, _, false, rfl, .ty _, tv, kit_ty k_lb, _, rfl, iteFo rfl ?_⟩
        refine ⟨_, rfl, _, _, _, _, false, rfl, .ty _, tv, kit_ty k_li, _, rfl, iteFo rfl ?_⟩
        refine ⟨_, rfl, _, _, _, _, false, rfl, .ty _, tv, kit_ty k_ls, _, rfl, iteFo rfl ?_⟩
        refine ⟨_, rfl, _, _, _, _, true, rfl, .ty _, tv, kit_ty k_ll, _, rfl, _, _, _, _, true, rfl, .ty _, tu, kit_ty k_ll, rfl, _, rfl, iteFo rfl ?_⟩
        refine ⟨_, rfl, _, _, _, _, false, rfl, .ty _, tv, kit_ty k_lt, _, rfl, _, _, _, _, false, rfl, .ty _, tu, kit_ty k_lt, rfl, _, rfl, iteFo rfl ?_⟩
        refine ⟨_, rfl, _, _, rfl, .inl ⟨_, hsu, rfl⟩, _, rfl, _, _, rfl, .inl ⟨_, hsv, rfl⟩, rfl, _, rfl, iteTo (decide_eq_true (congrArg (fun z : Nat => V.int (z : Int)) (lx.trans ly.symm))) ?_⟩
        refine ⟨_, rfl, _, _, rfl, .inl ⟨_, hsv, rfl⟩, _, rfl, by omega, by omega, fun D hD => ?_⟩
        rw [Int.toNat_natCast]
        refine lc_range (lo := 0) (n := ys.length) (fun i H' => Kp H H' ∧ H' D = some (.lst (List.replicate i (V.bl true)))) ⟨Kp.new hD, upd_same⟩ (fun i H' hi ⟨kp, hDl⟩ => ?_) (fun H' ⟨kp, hDl⟩ => ?_)
        · have e0 : (0 : Int) + (i : Int) = (i : Int) := Int.zero_add _
          obtain ⟨d, hdi⟩ : ∃ d, ds[i]? = some d := ⟨_, List.getElem?_eq_getElem (by omega)⟩
          obtain ⟨x, hx, dx⟩ := DpAll.get hau hdi
          obtain ⟨y, hy, dy⟩ := DpAll.get hav hdi
          refine ⟨rfl, ?_⟩
          refine ⟨_, rfl, _, rfl, .inl ⟨_, _, _, x, rfl, rfl, kp.sqL hsu, by rw [e0]; exact atI_nat hx, _, rfl, _, rfl, .inl ⟨_, _, _, y, rfl, rfl, kp.sqL hsv, by rw [e0]; exact atI_nat hy, ?_⟩⟩⟩
          refine ⟨x, y, d, rfl, kp.dp dx, kp.dp dy, hd d (List.mem_of_getElem? hdi), fun H2 k2 => ⟨_, k2.same _ _ rfl hDl, szt (by rw [List.length_replicate]; omega), ?_⟩⟩
          exact ⟨(kp.trans k2).mut hD, by rw [upd_same, List.replicate_succ']⟩
        · refine ⟨D, List.replicate ys.length true, rfl, .inl (.inl (by rw [bl_all]; exact hDl)), ?_⟩
          rw [all_rep]
          exact k _ kp
      | tup hd hl =>
        rename_i ds
        cases hu with | tup hsu hau =>
        cases hv with | tup hsv hav =>
        rename_i a xs b ys
        have lx := DpAll.len hau
        have ly := DpAll.len hav
        refine ⟨_, rfl, rfl, _, rfl, iteFo rfl ?_⟩
        refine ⟨_, rfl, _, _, _, _, false, rfl, .ty _, tv, kit_ty k_tb, _, rfl, iteFo rfl ?_⟩
        refine ⟨_, rfl, _, _, _, _, false, rfl, .ty _, tv, kit_ty k_ti, _, rfl, iteFo rfl ?_⟩
        refine ⟨_, rfl, _, _, _, _, false, rfl, .ty _, tv, kit_ty k_ts, _, rfl, iteFo rfl ?_⟩
        refine ⟨_, rfl, _, _, _, _, false, rfl, .ty _, tv, kit_ty k_tl, _, rfl, _, _, _, _, false, rfl, .ty _, tu, kit_ty k_tl, rfl, _, rfl, iteFo rfl ?_⟩
        refine ⟨_, rfl, _, _, _, _, true, rfl, .ty _, tv, kit_ty k_tt, _, rfl, _, _, _, _, true, rfl, .ty _, tu, kit_ty k_tt, rfl, _, rfl, iteFo rfl ?_⟩
        refine ⟨_, rfl, _, _, rfl, .inr ⟨_, hsu, rfl⟩, _, rfl, _, _, rfl, .inr ⟨_, hsv, rfl⟩, rfl, _, rfl, iteTo (decide_eq_true (congrArg (fun z : Nat => V.int (z : Int)) (lx.trans ly.symm))) ?_⟩
        refine ⟨_, rfl, _, _, rfl, .inr ⟨_, hsv, rfl⟩, _, rfl, by omega, by omega, fun D hD => ?_⟩
        rw [Int.toNat_natCast]
        refine lc_range (lo := 0) (n := ys.length) (fun i H' => Kp H H' ∧ H' D = some (.lst (List.replicate i (V.bl true)))) ⟨Kp.new hD, upd_same⟩ (fun i H' hi ⟨kp, hDl⟩ => ?_) (fun H' ⟨kp, hDl⟩ => ?_)
        · have e0 : (0 : Int) + (i : Int) = (i : Int) := Int.zero_add _
          obtain ⟨d, hdi⟩ : ∃ d, ds[i]? = some d := ⟨_, List.getElem?_eq_getElem (by omega)⟩
          obtain ⟨x, hx, dx⟩ := DpAll.get hau hdi
          obtain ⟨y, hy, dy⟩ := DpAll.get hav hdi
          refine ⟨rfl, ?_⟩
          refine ⟨_, rfl, _, rfl, .inr (.inl ⟨_, _, _, x, rfl, rfl, kp.sqT hsu, by rw [e0]; exact atI_nat hx, _, rfl, _, rfl, .inr (.inl ⟨_, _, _, y, rfl, rfl, kp.sqT hsv, by rw [e0]; exact atI_nat hy, ?_⟩)⟩)⟩
          refine ⟨x, y, d, rfl, kp.dp dx, kp.dp dy, hd d (List.mem_of_getElem? hdi), fun H2 k2 => ⟨_, k2.same _ _ rfl hDl, szt (by rw [List.length_replicate]; omega), ?_⟩⟩
          exact ⟨(kp.trans k2).mut hD, by rw [upd_same, List.replicate_succ']⟩
        · refine ⟨D, List.replicate ys.length true, rfl, .inl (.inl (by rw [bl_all]; exact hDl)), ?_⟩
          rw [all_rep]
          exact k _ kp
/-! ### _law_row: so many ints from nought to below a size -/
def Drawn0 (many size : Int) (xs : List Int) : Prop := (xs.length : Int) = many ∧ ∀ x ∈ xs, 0 ≤ x ∧ x < size
def sp_l_row : Sp := fun vs H Q _ => ∃ (c many size : Int), vs = [.int c, .int many, .int size] ∧ 0 ≤ many ∧ many ≤ 1000 ∧ 0 < size ∧ size < 1073741824 ∧
  ∀ (xs : List Int) (p : Addr) (H' : Hp), H p = none → Kp H H' → H' p = some (.lst (xs.map V.int)) → Drawn0 many size xs → Q (.ref p) H'
theorem snoc_in {size z : Int} {xs : List Int} (hs : 0 < size) (h : ∀ x ∈ xs, 0 ≤ x ∧ x < size) : ∀ x ∈ xs ++ [z % size], 0 ≤ x ∧ x < size := by
  intro x hx
  rcases List.mem_append.mp hx with hx | hx
  · exact h x hx
  · rw [List.mem_singleton.mp hx]
    exact ⟨Int.emod_nonneg _ (by omega), Int.emod_lt_of_pos _ hs⟩
theorem ok_l_row (T : Txt K mg) : FnOk P w K mg base CX0 1 T.f_l_row T.d_l_row ["_law_cell_here", "_law_many", "_law_size"] sp_l_row := by
  refine T.F_l_row.ok sc_l_row (fun vs H Q E h => ?_) (fun cdv A outer s H vs Q E hr h => ?_)
  · obtain ⟨c, many, size, rfl, _⟩ := h
    rfl
  · obtain ⟨c, many, size, rfl, hm0, hm1, hs0, hs1, k⟩ := h
    refine ⟨_, (pss_cons (ps_set (i := 3) sc_l_row.nd rfl (by first | exact Or.inl rfl | exact Or.inr rfl) (pe_lst pa_nil))
      (pss_cons (ps_if (pt_cmpR op_ge (pv 0) (pe_op op_pow pe_int pe_int) (nomark _))
      (pss_cons (ps_set (i := 4) sc_l_row.nd rfl (by first | exact Or.inl rfl | exact Or.inr rfl) (pe_op op_sub (pv 0) (pe_op op_pow pe_int pe_int)))
      (pss_cons (ps_for PassesOwn.never rfl (pi_range1 (by rfl) T.m_range (pa_cons (pv 1) pa_nil)) (pg_name (i := 5) sc_l_row.nd rfl (by first | exact Or.inl rfl | exact Or.inr rfl))
      (pss_cons (ps_expr (pe_bm PySem.F.plainAttrs_list PySem.F.slot_list_append PySem.F.type_list_append mt_append (pv 3) (pa_cons (pe_op op_mod (pv 4) (pv 2)) pa_nil)))
      (pss_one (ps_set (i := 4) sc_l_row.nd rfl (by first | exact Or.inl rfl | exact Or.inr rfl) (pe_op op_fdiv (pv 4) (pv 2))))))
      (pss_one (ps_ret (pv 3)))))
      pss_nil)
      (pss_cons (ps_set (i := 6) sc_l_row.nd rfl (by first | exact Or.inl rfl | exact Or.inr rfl) (pe_op op_mod (pv 0) pe_int))
      (pss_cons (ps_for PassesOwn.never rfl (pi_range1 (by rfl) T.m_range (pa_cons (pv 1) pa_nil)) (pg_name (i := 5) sc_l_row.nd rfl (by first | exact Or.inl rfl | exact Or.inr rfl))
      (pss_cons (ps_set (i := 6) sc_l_row.nd rfl (by first | exact Or.inl rfl | exact Or.inr rfl) (pe_op op_mod (pe_op op_add (pe_op op_add (pe_op op_mul (pv 6) pe_int) pe_int) (pv 5)) pe_int))
      (pss_cons (ps_set (i := 7) sc_l_row.nd rfl (by first | exact Or.inl rfl | exact Or.inr rfl) (pe_op op_mod (pe_op op_fdiv (pe_op op_mul (pv 6) (pe_op op_add (pe_op op_mod (pv 6) pe_int) pe_int)) pe_int) pe_int))
      (pss_one (ps_expr (pe_bm PySem.F.plainAttrs_list PySem.F.slot_list_append PySem.F.type_list_append mt_append (pv 3) (pa_cons (pe_op op_mod (pv 7) (pv 2)) pa_nil)))))))
      (pss_one (ps_ret (pv 3))))))), ?_⟩
    refine ⟨Nat.zero_le _, fun p np => ?_⟩
    generalize h_H1 : upd H p _ = H1
    have k_H1 : Kp H H1 := by rw [← h_H1]; exact .new np
    have q_H1 := (congrFun h_H1 p).symm.trans upd_same
    clear h_H1
    refine ⟨_, rfl, _, _, rfl, rfl, ⟨by decide, by decide, by decide⟩, _, _, rfl, rfl, _, rfl, iteD (fun c1 => ?_) (fun c1 => ?_)⟩
    · refine ⟨_, rfl, _, _, rfl, rfl, ⟨by decide, by decide, by decide⟩, _, _, rfl, rfl, ?_⟩
      refine ⟨_, rfl, many, rfl, by omega, by omega, ?_⟩
      refine for_range (lo := 0) (n := many.toNat) (fun i σ H' => ∃ (xs : List Int) (r : Int) (y : Option V), σ = [some (.int c), some (.int many), some (.int size), some (.ref p), some (.int r), y, none, none] ∧ Kp H H' ∧ H' p = some (.lst (xs.map V.int)) ∧ xs.length = i ∧ ∀ x ∈ xs, 0 ≤ x ∧ x < size)
        ⟨[], _, none, rfl, k_H1, q_H1, rfl, by simp⟩ ?_ ?_
      · rintro i σ H' hi ⟨xs, r, y, rfl, kp, hp, hl, hb⟩
        refine ⟨_, rfl, .inl ⟨rfl, _, SqL.of hp⟩, _, rfl, _, rfl, _, _, rfl, rfl, hs0, p, _, _, rfl, rfl, hp, szt (by rw [List.length_map]; omega), ?_⟩
        refine ⟨_, rfl, _, rfl, _, _, rfl, rfl, ⟨hs0, hs1⟩, ?_⟩
        refine ⟨xs ++ [r % size], _, _, rfl, kp.mut np, ?_, by rw [List.length_append, hl]; rfl, snoc_in hs0 hb⟩
        rw [upd_same, List.map_append]
        rfl
      · rintro σ H' ⟨xs, r, y, rfl, kp, hp, hl, hb⟩
        exact ⟨_, rfl, k xs p H' np kp hp ⟨by omega, hb⟩⟩
    · refine ⟨_, rfl, _, _, rfl, rfl, (by show (0 : Int) < 2147483647; decide), ?_⟩
      refine ⟨_, rfl, many, rfl, by omega, by omega, ?_⟩
      refine for_range (lo := 0) (n := many.toNat) (fun i σ H' => ∃ (xs : List Int) (r : Int) (y y2 : Option V), σ = [some (.int c), some (.int many), some (.int size), some (.ref p), none, y, some (.int r), y2] ∧ Kp H H' ∧ H' p = some (.lst (xs.map V.int)) ∧ xs.length = i ∧ ∀ x ∈ xs, 0 ≤ x ∧ x < size)
        ⟨[], _, none, none, rfl, k_H1, q_H1, rfl, by simp⟩ ?_ ?_
      · rintro i σ H' hi ⟨xs, r, y, y2, rfl, kp, hp, hl, hb⟩
        refine ⟨_, rfl, _, _, rfl, rfl, .inr ⟨by decide, by decide⟩, _, _, rfl, rfl, _, rfl, _, _, rfl, rfl, _, _, rfl, rfl, (by show (0 : Int) < 2147483647; decide), ?_⟩
        generalize hr2 : (fun (i j : Int) => V.int (i % j)) _ _ = sv
        obtain ⟨r2, rfl⟩ : ∃ r2 : Int, sv = .int r2 := ⟨_, hr2.symm⟩
        clear hr2
        have b0 : 0 ≤ r2 % 65521 := Int.emod_nonneg _ (by decide)
        have b1 : r2 % 65521 < 65521 := Int.emod_lt_of_pos _ (by decide)
        refine ⟨_, rfl, _, rfl, _, _, rfl, rfl, (by show (0 : Int) < 65521; decide), _, _, rfl, rfl, _, _, rfl, rfl, .inr ⟨by omega, by omega⟩, _, _, rfl, rfl, ⟨by decide, by decide⟩, _, _, rfl, rfl, (by show (0 : Int) < 1000003; decide), ?_⟩
        refine ⟨_, rfl, .inl ⟨rfl, _, SqL.of hp⟩, _, rfl, _, rfl, _, _, rfl, rfl, hs0, p, _, _, rfl, rfl, hp, szt (by rw [List.length_map]; omega), ?_⟩
        refine ⟨xs ++ [r2 * (r2 % 65521 + 3) / 1009 % 1000003 % size], r2, _, _, rfl, kp.mut np, ?_, by rw [List.length_append, hl]; rfl, snoc_in hs0 hb⟩
        rw [upd_same, List.map_append]
        rfl
      · rintro σ H' ⟨xs, r, y, y2, rfl, kp, hp, hl, hb⟩
        exact ⟨_, rfl, k xs p H' np kp hp ⟨by omega, hb⟩⟩
/-! ### data of few levels can be compared -/
theorem lay_all {ds : List PyData} (h : ∀ d ∈ ds, PyData.canLay0 d = true) : PyData.canLayAll0 ds = true := by
  induction ds with
  | nil => simp [PyData.canLayAll0]
  | cons d r ih => simp [PyData.canLayAll0, h d List.mem_cons_self, ih fun x hx => h x (List.mem_cons_of_mem _ hx)]
theorem dep_all {ds : List PyData} {n : Nat} (h : ∀ d ∈ ds, PyData.depth d ≤ n) : PyData.depthAll ds ≤ n := by
  induction ds with
  | nil => simp [PyData.depthAll]
  | cons d r ih =>
    have h1 := h d List.mem_cons_self
    have h2 := ih fun x hx => h x (List.mem_cons_of_mem _ hx)
    simp only [PyData.depthAll]
    omega
/-- the same without texts -/
inductive Dm : Nat → PyData → Prop
  | non (n : Nat) : Dm (n + 1) .none
  | bl (n : Nat) (b : Bool) : Dm (n + 1) (.bool b)
  | int (n : Nat) (i : Int) : Dm (n + 1) (.int i)
  | lst {n : Nat} {ds : List PyData} : (∀ d ∈ ds, Dm n d) → ds.length ≤ 10000 → Dm (n + 1) (.list ds)
  | tup {n : Nat} {ds : List PyData} : (∀ d ∈ ds, Dm n d) → ds.length ≤ 10000 → Dm (n + 1) (.tuple ds)
theorem Dm.dn {n : Nat} {d : PyData} (h : Dm n d) : Dn n d := by
  induction h with
  | non n => exact .non _
  | bl n b => exact .bl _ _
  | int n i => exact .int _ _
  | lst h1 h2 ih => exact .lst ih h2
  | tup h1 h2 ih => exact .tup ih h2
theorem Dm.lay {n : Nat} {d : PyData} (h : Dm n d) : PyData.canLay0 d = true ∧ PyData.depth d ≤ n := by
  induction h with
  | non n => exact ⟨by simp [PyData.canLay0], by simp [PyData.depth]⟩
  | bl n b => exact ⟨by simp [PyData.canLay0], by simp [PyData.depth]⟩
  | int n i => exact ⟨by simp [PyData.canLay0], by simp [PyData.depth]⟩
  | lst h1 h2 ih =>
    refine ⟨by simp only [PyData.canLay0]; exact lay_all fun d hd => (ih d hd).1, ?_⟩
    have := dep_all fun d hd => (ih d hd).2
    simp only [PyData.depth]
    omega
  | tup h1 h2 ih =>
    refine ⟨by simp only [PyData.canLay0]; exact lay_all fun d hd => (ih d hd).1, ?_⟩
    have := dep_all fun d hd => (ih d hd).2
    simp only [PyData.depth]
    omega
theorem Dm.shaped {n : Nat} {d : PyData} (h : Dm n d) (hn : n ≤ 64) : SeqAt.shaped d = true := by
  have ⟨h1, h2⟩ := h.lay
  show (PyData.canLay0 d && decide (PyData.depth d ≤ 64)) = true
  rw [h1, decide_eq_true (by omega)]
  rfl
theorem Dm.same {n : Nat} {d : PyData} (h : Dm n d) (hn : n ≤ 64) : PyData.eqv d d = true := SeqAt.eqv_refl _ (SeqAt.canLay_of_shaped (h.shaped hn))
theorem dm_dI {n : Nat} {ns : List Int} (h : ns.length ≤ 10000) : Dm (n + 2) (dI ns) := .lst (fun d hd => by obtain ⟨z, _, rfl⟩ := List.mem_map.mp hd; exact .int _ _) (by rw [List.length_map]; exact h)
/-! ### ways -/
def isWay (w : Str) : Bool := inV (.str w) [.str "up", .str "down"]
theorem isWay_iff {w : Str} : isWay w = true ↔ w = "up" ∨ w = "down" := by
  unfold isWay inV
  simp only [List.any_cons, List.any_nil, Bool.or_false, Bool.or_eq_true]
  show (((Str.ofString "up" == w) = true) ∨ ((Str.ofString "down" == w) = true)) ↔ _
  rw [beq_iff_eq, beq_iff_eq]
  exact ⟨fun h => h.elim (fun z => .inl z.symm) (fun z => .inr z.symm), fun h => h.elim (fun z => .inl z.symm) (fun z => .inr z.symm)⟩
def sp_p_check_way (C : Addr) : Sp := fun vs H Q E => ∃ w : Str, vs = [.str w] ∧ (isWay w = true → ∀ H', Kp H H' → Q .non H') ∧ (isWay w = false → ∀ H', Kp H H' → E (.ref C) none H')
theorem ok_p_check_way (T : Txt K mg) : FnOk P w K mg base (L2.CX P w) 2 T.f_p_check_way T.d_p_check_way ["way"] (sp_p_check_way T.a_BadWay) := by
  refine T.F_p_check_way.okX sc_p_check_way (fun vs H Q E h => ?_) (fun cdv A outer s H vs Q E hr h => ?_)
  · obtain ⟨w, rfl, _⟩ := h
    rfl
  · obtain ⟨w, rfl, k, kE⟩ := h
    refine ⟨_, (pss_one (ps_if (pt_cmpR op_notIn_seq (pv 0) (pe_tup (pa_cons (pe_glob rfl T.c_UP T.r_UP) (pa_cons (pe_glob rfl T.c_DOWN T.r_DOWN) pa_nil))) rfl)
      (pss_one (ps_raise rfl (takes_of rfl rfl rfl rfl) (pmk_own PySem.F.excBase_ValueError T.x_BadWay T.g_BadWay T.k_BadWay (raises_own T.b_BadWay T.t_BadWay) rfl)))
      pss_nil)), ?_⟩
    refine ⟨_, rfl, szl (by show 2 ≤ 100000; decide), fun t nt => ?_⟩
    generalize h_H1 : upd H t _ = H1
    have k_H1 : Kp H H1 := by rw [← h_H1]; exact .new nt
    have q_H1 := (congrFun h_H1 t).symm.trans upd_same
    clear h_H1
    refine ⟨t, _, rfl, .inr (.inl (.inl q_H1)), rfl, rfl, _, rfl, iteB (fun c => ?_) (fun c => ?_)⟩
    · exact kE (by have c : (!isWay w) = true := c; simpa using c) _ k_H1
    · exact k (by have c : (!isWay w) = false := c; simpa using c) _ k_H1
def sp_p_check_mast (D : Addr) : Sp := fun vs H Q E => ∃ masts mast : Int, vs = [.int masts, .int mast] ∧ (0 ≤ mast → mast < masts → Q .non H) ∧ (¬ (0 ≤ mast ∧ mast < masts) → E (.ref D) none H)
theorem ok_p_check_mast (T : Txt K mg) : FnOk P w K mg base (L2.CX P w) 2 T.f_p_check_mast T.d_p_check_mast ["masts", "mast"] (sp_p_check_mast T.a_NoMast) := by
  refine T.F_p_check_mast.okX sc_p_check_mast (fun vs H Q E h => ?_) (fun cdv A outer s H vs Q E hr h => ?_)
  · obtain ⟨masts, mast, rfl, _⟩ := h
    rfl
  · obtain ⟨masts, mast, rfl, k, kD⟩ := h
    refine ⟨_, (pss_one (ps_if (pt_not (pt_chain op_le op_lt pe_int (pv 1) (pv 0)))
      (pss_one (ps_raise rfl (takes_of rfl rfl rfl rfl) (pmk_own PySem.F.excBase_ValueError T.x_NoMast T.g_NoMast T.k_NoMast (raises_own T.b_NoMast T.t_NoMast) rfl)))
      pss_nil)), ?_⟩
    refine ⟨_, rfl, _, _, rfl, rfl, _, rfl, iteD (fun c => ?_) (fun c => ?_)⟩
    · refine ⟨_, rfl, _, _, rfl, rfl, _, rfl, ?_⟩
      by_cases c2 : mast < masts
      · exact iteFo (by rw [decide_eq_true c2]; rfl) (k c c2)
      · exact iteTo (by rw [decide_eq_false c2]; rfl) (kD (fun z => c2 z.2))
    · exact ⟨_, rfl, iteTo rfl (kD (fun z => c z.1))⟩
def plV (w : Str) (masts mast : Int) : V := if decide (V.str w = V.str "up") = true then .int mast else .int (masts - 1 - mast)
def sp_p_place_of (C D : Addr) : Sp := fun vs H Q E => ∃ (w : Str) (masts mast : Int), vs = [.str w, .int masts, .int mast] ∧
  (isWay w = true → 0 ≤ mast → mast < masts → ∀ H', Kp H H' → Q (plV w masts mast) H') ∧ (isWay w = true → ¬ (0 ≤ mast ∧ mast < masts) → ∀ H', Kp H H' → E (.ref D) none H') ∧ (isWay w = false → ∀ H', Kp H H' → E (.ref C) none H')
theorem ok_p_place_of (T : Txt K mg) : FnOk P w K mg base (L2.CX P w) 3 T.f_p_place_of T.d_p_place_of ["way", "masts", "mast"] (sp_p_place_of T.a_BadWay T.a_NoMast) := by
  refine T.F_p_place_of.okX sc_p_place_of (fun vs H Q E h => ?_) (fun cdv A outer s H vs Q E hr h => ?_)
  · obtain ⟨w, masts, mast, rfl, _⟩ := h
    rfl
  · obtain ⟨w, masts, mast, rfl, k, kD, kE⟩ := h
    refine ⟨_, (pss_cons (ps_expr (pe_call (ok_p_check_way T) (hr.mono (by decide)) rfl T.g_p_check_way T.F_p_check_way.kp T.b_p_check_way .nil (passes_call (takes_of rfl rfl rfl rfl) (fun _ _ _ _ z => z)) (pa_cons (pv 0) pa_nil)))
      (pss_cons (ps_expr (pe_call (ok_p_check_mast T) (hr.mono (by decide)) rfl T.g_p_check_mast T.F_p_check_mast.kp T.b_p_check_mast .nil (passes_call (takes_of rfl rfl rfl rfl) (fun _ _ _ _ z => z)) (pa_cons (pv 1) (pa_cons (pv 2) pa_nil))))
      (pss_one (ps_ret (pe_ifExp (pt_cmpR op_eq (pv 0) (pe_glob rfl T.c_UP T.r_UP) (nomark _)) (pv 2) (pe_op op_sub (pe_op op_sub (pv 1) pe_int) (pv 2))))))), ?_⟩
    refine ⟨_, rfl, w, rfl, fun hw H1 k1 => ?_, fun hw H1 k1 => kE hw _ k1⟩
    refine ⟨_, rfl, _, rfl, masts, mast, rfl, fun c c2 => ?_, fun c => kD hw c _ k1⟩
    have z := k hw c c2 _ k1
    unfold plV at z
    refine ⟨_, rfl, rfl, _, rfl, iteB (fun c3 => ?_) (fun c3 => ?_)⟩
    · rw [if_pos c3] at z
      exact ⟨_, rfl, z⟩
    · rw [if_neg (by rw [c3]; exact Bool.false_ne_true)] at z
      exact ⟨_, rfl, _, _, rfl, rfl, _, rfl, _, _, rfl, rfl, z⟩
def sp_p_along (K : PySem.W.Frag) (C : Addr) : Sp := fun vs H Q E => ∃ (w : Str) (a : Addr) (ns : List Int), vs = [.str w, .ref a] ∧ SqL K H a (ns.map V.int) ∧ ns.length ≤ 1000 ∧
  (isWay w = true → ∀ (p : Addr) (H' : Hp), Kp H H' → H p = none → H' p = some (.lst ((if decide (V.str w = V.str "up") = true then ns else ns.reverse).map V.int)) → Q (.ref p) H') ∧ (isWay w = false → ∀ H', Kp H H' → E (.ref C) none H')
theorem ok_p_along (T : Txt K mg) : FnOk P w K mg base (L2.CX P w) 3 T.f_p_along T.d_p_along ["way", "row"] (sp_p_along K T.a_BadWay) := by
  refine T.F_p_along.okX sc_p_along (fun vs H Q E h => ?_) (fun cdv A outer s H vs Q E hr h => ?_)
  · obtain ⟨w, a, ns, rfl, _⟩ := h
    rfl
  · obtain ⟨w, a, ns, rfl, hS, hl, k, kE⟩ := h
    refine ⟨_, (pss_cons (ps_expr (pe_call (ok_p_check_way T) (hr.mono (by decide)) rfl T.g_p_check_way T.F_p_check_way.kp T.b_p_check_way .nil (passes_call (takes_of rfl rfl rfl rfl) (fun _ _ _ _ z => z)) (pa_cons (pv 0) pa_nil)))
      (pss_one (ps_ret (pe_ifExp (pt_cmpR op_eq (pv 0) (pe_glob rfl T.c_UP T.r_UP) (nomark _)) (pe_callTy call_list_of (by rfl) T.m_list (by decide +kernel) (pa_cons (pv 1) pa_nil)) (pe_revL (pv 1)))))), ?_⟩
    refine ⟨_, rfl, w, rfl, fun hw H1 k1 => ?_, fun hw H1 k1 => kE hw _ k1⟩
    have k := k hw
    refine ⟨_, rfl, rfl, _, rfl, iteB (fun c => ?_) (fun c => ?_)⟩
    · rw [if_pos c] at k
      refine ⟨_, rfl, a, _, rfl, .inl (k1.sqL hS), fun p np => ?_⟩
      exact k p _ (k1.trans (.new np)) (k1.free _ np) upd_same
    · rw [if_neg (by rw [c]; exact Bool.false_ne_true)] at k
      refine ⟨_, rfl, a, _, rfl, k1.sqL hS, fun p np => ?_⟩
      exact k p _ (k1.trans (.new np)) (k1.free _ np) (by rw [upd_same, List.map_reverse])
/-! ### what is told -/
def tdV (w : Str) (masts mast : Int) : V := if isWay w = true then (if 0 ≤ mast ∧ mast < masts then plV w masts mast else .str "mast") else .str "way"
def sp_l_told : Sp := fun vs H Q _ => ∃ (w : Str) (masts mast : Int), vs = [.str w, .int masts, .int mast] ∧ ∀ H', Kp H H' → Q (tdV w masts mast) H'
theorem ok_l_told (T : Txt K mg) : FnOk P w K mg base CX0 6 T.f_l_told T.d_l_told ["_law_way", "_law_masts", "_law_mast"] sp_l_told := by
  refine T.F_l_told.ok sc_l_told (fun vs H Q E h => ?_) (fun cdv A outer s H vs Q E hr h => ?_)
  · obtain ⟨w, masts, mast, rfl, _⟩ := h
    rfl
  · obtain ⟨w, masts, mast, rfl, k⟩ := h
    unfold tdV at k
    have xw : ExcC K T.a_BadWay := ⟨T.ga_BadWay, T.gg_BadWay, T.b_BadWay, T.h_BadWay, T.cl_BadWay, T.oc_get, T.oc_tak, T.mo_BadWay⟩
    have xm : ExcC K T.a_NoMast := ⟨T.ga_NoMast, T.gg_NoMast, T.b_NoMast, T.h_NoMast, T.cl_NoMast, T.oc_get, T.oc_tak, T.mo_NoMast⟩
    refine ⟨_, (pss_cons (ps_set (i := 3) sc_l_told.nd rfl (by first | exact Or.inl rfl | exact Or.inr rfl) pe_str)
      (pss_cons (ps_try_as (i := 4) rfl rfl sc_l_told.nd rfl rfl ⟨rfl, by decide, Or.inl T.g_MastError⟩ takes0
      (fun W pn xe tk _ => (pss_one (ps_set (i := 3) sc_l_told.nd rfl (by first | exact Or.inl rfl | exact Or.inr rfl) (pe_callS (ok_p_place_of T) (hr.mono (by decide)) rfl T.g_p_place_of T.F_p_place_of.kp T.b_p_place_of (fun σ => passAt tk σ) (pa_cons (pv 0) (pa_cons (pv 1) (pa_cons (pv 2) pa_nil)))))))
      (fun a oe cls d pn hz hf => (Evl.pss_cut (ps_if (PW.pt (pw_and (pt_val (pe_callB (call_isX K rfl hz hf) (by rfl) T.m_isinstance (by decide +kernel) (pa_cons (pv 4) (pa_cons (pe_glob (v := .ref T.a_BadWay) rfl T.g_BadWay rfl) pa_nil)))) (pw_and1 (pt_not (pt_val (pe_callB (call_isX K rfl hz hf) (by rfl) T.m_isinstance (by decide +kernel) (pa_cons (pv 4) (pa_cons (pe_glob (v := .ref T.a_NoMast) rfl T.g_NoMast rfl) pa_nil))))))))
      (pss_one (ps_set (i := 3) sc_l_told.nd rfl (by first | exact Or.inl rfl | exact Or.inr rfl) pe_str))
      pss_nil)
      (pss_one (ps_if (PW.pt (pw_and (pt_val (pe_callB (call_isX K rfl hz hf) (by rfl) T.m_isinstance (by decide +kernel) (pa_cons (pv 4) (pa_cons (pe_glob (v := .ref T.a_NoMast) rfl T.g_NoMast rfl) pa_nil)))) (pw_and1 (pt_not (pt_val (pe_callB (call_isX K rfl hz hf) (by rfl) T.m_isinstance (by decide +kernel) (pa_cons (pv 4) (pa_cons (pe_glob (v := .ref T.a_BadWay) rfl T.g_BadWay rfl) pa_nil))))))))
      (pss_one (ps_set (i := 3) sc_l_told.nd rfl (by first | exact Or.inl rfl | exact Or.inr rfl) pe_str))
      pss_nil)))))
      (pss_one (ps_ret (pv 3))))), ?_⟩
    refine ⟨_, rfl, _, rfl, _, rfl, w, masts, mast, rfl, fun hw h1 h2 H1 k1 => ?_, fun hw hn H1 k1 => ?_, fun hw H1 k1 => ?_⟩
    · rw [if_pos hw, if_pos ⟨h1, h2⟩] at k
      exact ⟨_, rfl, k _ k1⟩
    · rw [if_pos hw, if_neg hn] at k
      refine ⟨true, PySem.W.exm_ref T.b_MastError T.h_MastError T.t_MastError T.s_NoMast_MastError, fun _ e ne => ?_, fun q => Bool.noConfusion q⟩
      refine ⟨fun σ' H' => σ' = [some (.str w), some (.int masts), some (.int mast), some (.str ""), some (.ref e)] ∧ H' = H1, ?_, ?_⟩
      · exact ⟨_, rfl, _, _, _, false, rfl, .inl rfl, xm, rfl, .own _, kit_not T.i_BadWay T.t_BadWay T.s_NoMast_BadWay T.s_NoMast_NoMast, _, rfl, iteFo rfl ⟨rfl, rfl⟩⟩
      rintro σ' H' ⟨rfl, rfl⟩
      refine ⟨_, rfl, _, _, _, true, rfl, .inl rfl, xm, rfl, .own _, kit_sub T.i_NoMast T.t_NoMast T.s_NoMast_NoMast, _, rfl, iteTo rfl ?_⟩
      refine ⟨_, rfl, _, _, _, false, rfl, .inl rfl, xm, rfl, .own _, kit_not T.i_BadWay T.t_BadWay T.s_NoMast_BadWay T.s_NoMast_NoMast, _, rfl, iteTo rfl ?_⟩
      exact ⟨_, rfl, k _ k1⟩
    · rw [if_neg (by rw [hw]; exact Bool.false_ne_true)] at k
      refine ⟨true, PySem.W.exm_ref T.b_MastError T.h_MastError T.t_MastError T.s_BadWay_MastError, fun _ e ne => ?_, fun q => Bool.noConfusion q⟩
      refine ⟨fun σ' H' => σ' = [some (.str w), some (.int masts), some (.int mast), some (.str "way"), some (.ref e)] ∧ H' = H1, ?_, ?_⟩
      · refine ⟨_, rfl, _, _, _, true, rfl, .inl rfl, xw, rfl, .own _, kit_sub T.i_BadWay T.t_BadWay T.s_BadWay_BadWay, _, rfl, iteTo rfl ?_⟩
        exact ⟨_, rfl, _, _, _, false, rfl, .inl rfl, xw, rfl, .own _, kit_not T.i_NoMast T.t_NoMast T.s_BadWay_NoMast T.s_BadWay_BadWay, _, rfl, iteTo rfl ⟨rfl, rfl⟩⟩
      rintro σ' H' ⟨rfl, rfl⟩
      refine ⟨_, rfl, _, _, _, false, rfl, .inl rfl, xw, rfl, .own _, kit_not T.i_NoMast T.t_NoMast T.s_BadWay_NoMast T.s_BadWay_BadWay, _, rfl, iteFo rfl ?_⟩
      exact ⟨_, rfl, k _ k1⟩
def sp_l_along (K : PySem.W.Frag) : Sp := fun vs H Q _ => ∃ (w : Str) (a : Addr) (ns : List Int), vs = [.str w, .ref a] ∧ SqL K H a (ns.map V.int) ∧ ns.length ≤ 1000 ∧
  (isWay w = true → ∀ (p : Addr) (H' : Hp), Kp H H' → H p = none → H' p = some (.lst ((if decide (V.str w = V.str "up") = true then ns else ns.reverse).map V.int)) → Q (.ref p) H') ∧ (isWay w = false → ∀ H', Kp H H' → Q (.str "way") H')
theorem ok_l_along (T : Txt K mg) : FnOk P w K mg base CX0 6 T.f_l_along T.d_l_along ["_law_way", "_law_row_here"] (sp_l_along K) := by
  refine T.F_l_along.ok sc_l_along (fun vs H Q E h => ?_) (fun cdv A outer s H vs Q E hr h => ?_)
  · obtain ⟨w, a, ns, rfl, _⟩ := h
    rfl
  · obtain ⟨w, a, ns, rfl, hS, hl, k, kE⟩ := h
    have xw : ExcC K T.a_BadWay := ⟨T.ga_BadWay, T.gg_BadWay, T.b_BadWay, T.h_BadWay, T.cl_BadWay, T.oc_get, T.oc_tak, T.mo_BadWay⟩
    refine ⟨_, (pss_cons (ps_set (i := 2) sc_l_along.nd rfl (by first | exact Or.inl rfl | exact Or.inr rfl) pe_str)
      (pss_cons (ps_try_as (i := 3) rfl rfl sc_l_along.nd rfl rfl ⟨rfl, by decide, Or.inl T.g_MastError⟩ takes0
      (fun W pn xe tk _ => (pss_one (ps_set (i := 2) sc_l_along.nd rfl (by first | exact Or.inl rfl | exact Or.inr rfl) (pe_callS (ok_p_along T) (hr.mono (by decide)) rfl T.g_p_along T.F_p_along.kp T.b_p_along (fun σ => passAt tk σ) (pa_cons (pv 0) (pa_cons (pv 1) pa_nil))))))
      (fun a oe cls d pn hz hf => (pss_one (ps_if (pt_val (pe_callB (call_isX K rfl hz hf) (by rfl) T.m_isinstance (by decide +kernel) (pa_cons (pv 3) (pa_cons (pe_glob (v := .ref T.a_BadWay) rfl T.g_BadWay rfl) pa_nil))))
      (pss_one (ps_set (i := 2) sc_l_along.nd rfl (by first | exact Or.inl rfl | exact Or.inr rfl) pe_str))
      pss_nil))))
      (pss_one (ps_ret (pv 2))))), ?_⟩
    refine ⟨_, rfl, _, rfl, w, a, ns, rfl, hS, hl, fun hw p H1 k1 np hp => ?_, fun hw H1 k1 => ?_⟩
    · exact ⟨_, rfl, k hw p H1 k1 np hp⟩
    · refine ⟨true, PySem.W.exm_ref T.b_MastError T.h_MastError T.t_MastError T.s_BadWay_MastError, fun _ e ne => ?_, fun q => Bool.noConfusion q⟩
      refine ⟨_, rfl, _, _, _, true, rfl, .inl rfl, xw, rfl, .own _, kit_sub T.i_BadWay T.t_BadWay T.s_BadWay_BadWay, _, rfl, iteTo rfl ?_⟩
      exact ⟨_, rfl, kE hw _ k1⟩
/-! ### law -/
def sp_law (K : PySem.W.Frag) : Sp := fun vs H Q _ => ∃ (a : Addr) (ns : List Int), vs = [.ref a] ∧ SqL K H a (ns.map V.int) ∧ ns.length ≤ 63 ∧ ∀ H', Q (.bl true) H'
theorem td_data {K : PySem.W.Frag} (w : Str) (masts mast : Int) : ∃ d : PyData, (∀ H, Dp K H (tdV w masts mast) d) ∧ Dn 4 d := by
  unfold tdV plV
  split
  · split
    · split
      · exact ⟨_, fun _ => .int _, .int _ _⟩
      · exact ⟨_, fun _ => .int _, .int _ _⟩
    · exact ⟨_, fun _ => .str _, .str _ _⟩
  · exact ⟨_, fun _ => .str _, .str _ _⟩
theorem four (z : Int) : ∃ v : Str, atI [V.str "Up", V.str "", V.str "left", V.str "down "] (z % 4) = some (.str v) ∧ isWay v = false := by
  have h0 : 0 ≤ z % 4 := Int.emod_nonneg _ (by decide)
  have h1 : z % 4 < 4 := Int.emod_lt_of_pos _ (by decide)
  generalize z % 4 = m at h0 h1
  have hm : m = 0 ∨ m = 1 ∨ m = 2 ∨ m = 3 := by omega
  rcases hm with rfl | rfl | rfl | rfl
  · exact ⟨_, rfl, by decide +kernel⟩
  · exact ⟨_, rfl, by decide +kernel⟩
  · exact ⟨_, rfl, by decide +kernel⟩
  · exact ⟨_, rfl, by decide +kernel⟩
theorem ok_law (T : Txt K mg) {f : Addr} {fd : FuncData} (F : Fun K "law" "law" s_law f fd) : FnOk P w K mg base CX0 9 f fd ["_law_script"] (sp_law K) := by
  refine F.ok sc_law (fun vs H Q E h => ?_) (fun cdv A outer s H vs Q E hr h => ?_)
  · obtain ⟨a, ns, rfl, _⟩ := h
    rfl
  · obtain ⟨a, ns, rfl, hS, hlen, k⟩ := h
    refine ⟨_, (pss_cons (ps_set (i := 1) sc_law.nd rfl (by first | exact Or.inl rfl | exact Or.inr rfl) (pe_op op_add pe_int (pe_op op_mod (pe_call (ok_l_cell T) (hr.mono (by decide)) rfl T.g_l_cell T.F_l_cell.kp T.b_l_cell .nil pass0 (pa_cons (pv 0) (pa_cons pe_int pa_nil))) pe_int)))
      (pss_cons (ps_set (i := 2) sc_law.nd rfl (by first | exact Or.inl rfl | exact Or.inr rfl) (pe_call (ok_l_cell T) (hr.mono (by decide)) rfl T.g_l_cell T.F_l_cell.kp T.b_l_cell .nil pass0 (pa_cons (pv 0) (pa_cons pe_int pa_nil))))
      (pss_cons (ps_set (i := 3) sc_law.nd rfl (by first | exact Or.inl rfl | exact Or.inr rfl) (pe_op op_sub (pe_op op_mod (pv 2) (pe_op op_add (pv 1) pe_int)) pe_int))
      (Evl.pss_cut (ps_if (pt_cmpR op_eq (pe_op op_mod (pe_op op_fdiv (pv 2) pe_int) pe_int) pe_int (nomark _))
      (pss_one (ps_set (i := 3) sc_law.nd rfl (by first | exact Or.inl rfl | exact Or.inr rfl) (pe_op op_sub (pe_op op_mod (pe_call (ok_l_cell T) (hr.mono (by decide)) rfl T.g_l_cell T.F_l_cell.kp T.b_l_cell .nil pass0 (pa_cons (pv 0) (pa_cons pe_int pa_nil))) (pe_op op_mul pe_int (pe_op op_pow pe_int pe_int))) (pe_op op_pow pe_int pe_int))))
      pss_nil)
      (pss_cons (ps_set (i := 4) sc_law.nd rfl (by first | exact Or.inl rfl | exact Or.inr rfl) (pe_call (ok_l_row T) (hr.mono (by decide)) rfl T.g_l_row T.F_l_row.kp T.b_l_row .nil pass0 (pa_cons (pe_call (ok_l_cell T) (hr.mono (by decide)) rfl T.g_l_cell T.F_l_cell.kp T.b_l_cell .nil pass0 (pa_cons (pv 0) (pa_cons pe_int pa_nil))) (pa_cons (pv 1) (pa_cons pe_int pa_nil)))))
      (pss_cons (ps_for PassesOwn.never rfl (pi_list (pe_lst (pa_cons pe_str (pa_cons pe_str (pa_cons (pe_ix ix_tup (pe_tup (pa_cons pe_str (pa_cons pe_str (pa_cons pe_str (pa_cons pe_str pa_nil))))) (pe_op op_mod (pe_op op_fdiv (pv 2) pe_int) pe_int) (fun _ _ => rfl)) (pa_cons pe_str pa_nil)))))) (pg_name (i := 5) sc_law.nd rfl (by first | exact Or.inl rfl | exact Or.inr rfl))
      (pss_cons (ps_set (i := 6) sc_law.nd rfl (by first | exact Or.inl rfl | exact Or.inr rfl) pe_str)
      (Evl.pss_cut (ps_if (pt_cmpR op_in_seq (pv 5) (pe_tup (pa_cons pe_str (pa_cons pe_str pa_nil))) rfl)
      (pss_cons (ps_set (i := 6) sc_law.nd rfl (by first | exact Or.inl rfl | exact Or.inr rfl) pe_str)
      (pss_one (ps_if (pt_chain op_le op_lt pe_int (pv 3) (pv 1))
      (pss_one (ps_set (i := 6) sc_law.nd rfl (by first | exact Or.inl rfl | exact Or.inr rfl) (pe_ifExp (pt_cmpR op_eq (pv 5) pe_str (nomark _)) (pv 3) (pe_op op_sub (pe_op op_sub (pv 1) pe_int) (pv 3)))))
      pss_nil)))
      pss_nil)
      (pss_cons (ps_set (i := 7) sc_law.nd rfl (by first | exact Or.inl rfl | exact Or.inr rfl) (pe_callTy call_list_of (by rfl) T.m_list (by decide +kernel) (pa_cons (pv 4) pa_nil)))
      (pss_cons (ps_set (i := 8) sc_law.nd rfl (by first | exact Or.inl rfl | exact Or.inr rfl) (pe_call (ok_l_along T) (hr.mono (by decide)) rfl T.g_l_along T.F_l_along.kp T.b_l_along .nil pass0 (pa_cons (pv 5) (pa_cons (pv 7) pa_nil))))
      (Evl.pss_cut (ps_set (i := 9) sc_law.nd rfl (by first | exact Or.inl rfl | exact Or.inr rfl) (pe_ifExp (pt_cmpR op_eq (pv 5) pe_str (nomark _)) (pv 4) (pe_ifExp (pt_cmpR op_eq (pv 5) pe_str (nomark _)) (pe_revL (pv 4)) pe_str)))
      (pss_cons (ps_if (PW.pt (pw_or (pt_not (pt_val (pe_call (ok_l_like T 4) (hr.mono (by decide)) rfl T.g_l_like T.F_l_like.kp T.b_l_like .nil pass0 (pa_cons (pe_call (ok_l_told T) (hr.mono (by decide)) rfl T.g_l_told T.F_l_told.kp T.b_l_told .nil pass0 (pa_cons (pv 5) (pa_cons (pv 1) (pa_cons (pv 3) pa_nil)))) (pa_cons (pv 6) pa_nil))))) (pw_or1 (pt_not (pt_val (pe_call (ok_l_like T 4) (hr.mono (by decide)) rfl T.g_l_like T.F_l_like.kp T.b_l_like .nil pass0 (pa_cons (pv 8) (pa_cons (pv 9) pa_nil))))))))
      (pss_one (ps_ret pe_bl))
      pss_nil)
      (pss_cons (ps_if (pt_val (pe_callB call_isi (by rfl) T.m_isinstance (by decide +kernel) (pa_cons (pv 8) (pa_cons (pe_bltn (v := .ty "list") (by rfl) T.m_list (by decide +kernel) rfl) pa_nil))))
      (pss_one (ps_expr (pe_bm PySem.F.plainAttrs_list PySem.F.slot_list_append PySem.F.type_list_append mt_append (pv 8) (pa_cons pe_int pa_nil))))
      pss_nil)
      (pss_cons (ps_if (pt_cmpR (op_neD hr.units) (pv 7) (pv 4) (nomark _))
      (pss_one (ps_ret pe_bl))
      pss_nil)
      (pss_cons (ps_expr (pe_bm0 PySem.F.plainAttrs_list PySem.F.slot_list_clear PySem.F.type_list_clear mt_clear (pv 7)))
      (pss_one (ps_if (PW.pt (pw_and (pt_val (pe_callB call_isi (by rfl) T.m_isinstance (by decide +kernel) (pa_cons (pv 8) (pa_cons (pe_bltn (v := .ty "list") (by rfl) T.m_list (by decide +kernel) rfl) pa_nil)))) (pw_and1 (pt_cmpR (op_neD hr.units) (pv 8) (pe_op op_cat (pv 9) (pe_lst (pa_cons pe_int pa_nil))) (nomark _)))))
      (pss_one (ps_ret pe_bl))
      pss_nil))))))))))))
      (pss_one (ps_ret (pe_call (ok_l_like T 4) (hr.mono (by decide)) rfl T.g_l_like T.F_l_like.kp T.b_l_like .nil pass0 (pa_cons (pe_call (ok_l_along T) (hr.mono (by decide)) rfl T.g_l_along T.F_l_along.kp T.b_l_along .nil pass0 (pa_cons pe_str (pa_cons (pe_callTy call_list_of (by rfl) T.m_list (by decide +kernel) (pa_cons (pv 4) pa_nil)) pa_nil))) (pa_cons (pv 4) pa_nil))))))))))), ?_⟩
    refine ⟨_, rfl, a, ns, 0, rfl, hS, by decide, _, _, rfl, rfl, (by show (0 : Int) < 11; decide), _, _, rfl, rfl, ?_⟩
    have m0 : 0 ≤ cellV ns 0 % 11 := Int.emod_nonneg _ (by decide)
    have m1 : cellV ns 0 % 11 < 11 := Int.emod_lt_of_pos _ (by decide)
    refine ⟨_, rfl, a, ns, 1, rfl, hS, by decide, ?_⟩
    generalize cellV ns 1 = pick
    refine ⟨_, rfl, _, rfl, _, _, rfl, rfl, _, _, rfl, rfl, (by show (0 : Int) < 2 + cellV ns 0 % 11 + 4; omega), _, _, rfl, rfl, ?_⟩
    refine ⟨fun σ' H' => ∃ mast : Int, σ' = [some (.ref a), some (.int (2 + cellV ns 0 % 11)), some (.int pick), some (.int mast), none, none, none, none, none, none] ∧ H' = H, ?_, ?_⟩
    · refine ⟨_, rfl, _, _, rfl, rfl, ⟨by decide, by decide⟩, _, _, rfl, rfl, (by show (0 : Int) < 5; decide), rfl, _, rfl, iteD (fun c => ?_) (fun c => ⟨_, rfl, rfl⟩)⟩
      exact ⟨_, rfl, a, ns, 3, rfl, hS, by decide, _, _, rfl, rfl, ⟨by decide, by decide, by decide⟩, _, _, rfl, rfl, .inl ⟨by decide, by decide⟩, _, _, rfl, rfl, (by show (0 : Int) < 2 * 10 ^ 30; decide), _, _, rfl, rfl, ⟨by decide, by decide, by decide⟩, _, _, rfl, rfl, _, rfl, rfl⟩
    rintro σ' H' ⟨mast, rfl, rfl⟩
    generalize cellV ns 0 % 11 = mm at m0 m1
    refine ⟨_, rfl, a, ns, 2, rfl, hS, by decide, _, rfl, _, _, _, rfl, by omega, by omega, by decide, by decide, fun row p4 H1 n4 k1 q1 ⟨hl, hb⟩ => ?_⟩
    obtain ⟨w3, hw3, bw3⟩ := four (pick / 80)
    refine ⟨szl (by show 4 ≤ 100000; decide), fun pt nt => ?_⟩
    generalize h_H2 : upd H1 pt _ = H2
    have k_H2 : Kp H1 H2 := by rw [← h_H2]; exact .new nt
    have q_H2 := (congrFun h_H2 pt).symm.trans upd_same
    clear h_H2
    refine ⟨_, rfl, _, _, rfl, rfl, ⟨by decide, by decide⟩, _, _, rfl, rfl, (by show (0 : Int) < 4; decide), pt, _, _, _, rfl, rfl, .inl (.inl q_H2), hw3, szl (by show 4 ≤ 100000; decide), fun pl nl => ?_⟩
    generalize h_H3 : upd H2 pl _ = H3
    have k_H3 : Kp H2 H3 := by rw [← h_H3]; exact .new nl
    have q_H3 := (congrFun h_H3 pl).symm.trans upd_same
    clear h_H3
    have q3 := k_H3.same _ _ rfl (k_H2.same _ _ rfl q1)
    have dmr : Dm 4 (dI row) := dm_dI (by omega)
    refine ⟨pl, rfl, ⟨_, .inl (.inl q_H3)⟩, for_list (K := K) (a := pl) (xs := [V.str "up", V.str "down", V.str w3, V.str "up"]) (fun i σ H' => ∃ (y5 y6 y7 y8 y9 : Option V), σ = [some (.ref a), some (.int (2 + mm)), some (.int pick), some (.int mast), some (.ref p4), y5, y6, y7, y8, y9] ∧ Kp H3 H')
      ⟨none, none, none, none, none, rfl, .refl _⟩ (fun i σ H' _ ⟨_, _, _, _, _, _, kp⟩ => kp.sqL (.inl (.inl q_H3))) ?_ ?_⟩
    · rintro i x σ H' hi ⟨y5, y6, y7, y8, y9, rfl, kp⟩
      obtain ⟨w, rfl, hw⟩ : ∃ w : Str, x = .str w ∧ (w = "up" ∨ w = "down" ∨ isWay w = false) := by
        have hm := List.mem_of_getElem? hi
        simp only [List.mem_cons, List.not_mem_nil, or_false] at hm
        rcases hm with rfl | rfl | rfl | rfl
        · exact ⟨_, rfl, .inl rfl⟩
        · exact ⟨_, rfl, .inr (.inl rfl)⟩
        · exact ⟨_, rfl, .inr (.inr bw3)⟩
        · exact ⟨_, rfl, .inl rfl⟩
      refine ⟨fun σ' H'' => σ' = [some (.ref a), some (.int (2 + mm)), some (.int pick), some (.int mast), some (.ref p4), some (.str w), some (tdV w (2 + mm) mast), y7, y8, y9] ∧ Kp H3 H'', ?_, ?_⟩
      · refine ⟨_, rfl, szl (by show 2 ≤ 100000; decide), fun t nt => ?_⟩
        generalize h_H4 : upd H' t _ = H4
        have k_H4 : Kp H' H4 := by rw [← h_H4]; exact .new nt
        have q_H4 := (congrFun h_H4 t).symm.trans upd_same
        clear h_H4
        refine ⟨t, _, rfl, .inr (.inl (.inl q_H4)), rfl, rfl, _, rfl, iteB (fun c => ?_) (fun c => ?_)⟩
        · have c : isWay w = true := c
          unfold tdV
          rw [if_pos c]
          refine ⟨_, rfl, _, _, rfl, rfl, _, rfl, iteD (fun c1 => ?_) (fun c1 => ?_)⟩
          · refine ⟨_, rfl, _, _, rfl, rfl, _, rfl, iteD (fun c2 => ?_) (fun c2 => ?_)⟩
            · rw [if_pos ⟨c1, c2⟩]
              unfold plV
              refine ⟨_, rfl, rfl, _, rfl, iteB (fun c3 => ?_) (fun c3 => ?_)⟩
              · rw [if_pos c3]
                exact ⟨_, rfl, rfl, kp.trans k_H4⟩
              · rw [if_neg (by rw [c3]; exact Bool.false_ne_true)]
                exact ⟨_, rfl, _, _, rfl, rfl, _, rfl, _, _, rfl, rfl, rfl, kp.trans k_H4⟩
            · rw [if_neg (fun z => c2 z.2)]
              exact ⟨rfl, kp.trans k_H4⟩
          · rw [if_neg (fun z => c1 z.1)]
            exact ⟨_, rfl, iteFo rfl ⟨rfl, kp.trans k_H4⟩⟩
        · have c : isWay w = false := c
          unfold tdV
          rw [if_neg (by rw [c]; exact Bool.false_ne_true)]
          exact ⟨rfl, kp.trans k_H4⟩
      clear kp
      rintro σ' H'' ⟨rfl, kp⟩
      obtain ⟨dt, hdt, dnt⟩ := td_data (K := K) w (2 + mm) mast
      refine ⟨_, rfl, p4, _, rfl, .inl (.inl (.inl (kp.same _ _ rfl q3))), fun p7 n7 => ?_⟩
      generalize h_H5 : upd H'' p7 _ = H5
      have k_H5 : Kp H'' H5 := by rw [← h_H5]; exact .new n7
      have q_H5 := (congrFun h_H5 p7).symm.trans upd_same
      clear h_H5
      have k35 := kp.trans k_H5
      have g4 := k35.same _ _ rfl q3
      refine ⟨_, rfl, _, rfl, w, p7, row, rfl, .inl (.inl q_H5), by omega, fun hy p8 H6 k6 n8 q8 => ?_, fun hy H6 k6 => ?_⟩
      · have k36 := k35.trans k6
        have ne87 : p7 ≠ p8 := ne_of_none q_H5 n8
        have ne84 : p4 ≠ p8 := ne_of_none g4 n8
        have ne47 : p4 ≠ p7 := ne_of_none (kp.same _ _ rfl q3) n7
        obtain ⟨rr, hrr⟩ : ∃ rr : List Int, (if decide (V.str w = V.str "up") = true then row else row.reverse) = rr := ⟨_, rfl⟩
        rw [hrr] at q8
        have hll : rr.length ≤ 100 := by rw [← hrr]; split <;> (try rw [List.length_reverse]) <;> omega
        have dmq : Dm 4 (dI rr) := dm_dI (by omega)
        have dmz : Dm 4 (dI (rr ++ [0])) := dm_dI (by rw [List.length_append]; show rr.length + 1 ≤ 10000; omega)
        refine ⟨fun σ' H'' => ∃ tv : Addr, σ' = [some (.ref a), some (.int (2 + mm)), some (.int pick), some (.int mast), some (.ref p4), some (.str w), some (tdV w (2 + mm) mast), some (.ref p7), some (.ref p8), some (.ref tv)] ∧ Kp H6 H'' ∧ H'' tv = some (.lst (rr.map V.int)) ∧ tv ≠ p7 ∧ tv ≠ p8, ?_, ?_⟩
        · refine ⟨_, rfl, rfl, _, rfl, iteB (fun c => ?_) (fun c => ?_)⟩
          · rw [if_pos c] at hrr
            subst hrr
            exact ⟨_, rfl, p4, rfl, .refl _, k6.same _ _ rfl g4, ne47, ne84⟩
          · rw [if_neg (by rw [c]; exact Bool.false_ne_true)] at hrr
            have hd : w = "down" := by
              rcases hw with rfl | hd | hd
              · rw [dec_self] at c
                cases c
              · exact hd
              · rw [hy] at hd
                cases hd
            subst hd
            refine ⟨_, rfl, rfl, _, rfl, iteTo dec_self ?_⟩
            refine ⟨_, rfl, p4, _, rfl, .inl (.inl (k6.same _ _ rfl g4)), fun tv ntv => ?_⟩
            exact ⟨tv, rfl, .new ntv, by rw [upd_same, ← hrr, List.map_reverse], (ne_of_none (k6.same _ _ rfl q_H5) ntv).symm, (ne_of_none q8 ntv).symm⟩
        rintro σ' H7 ⟨tv, rfl, k7, qtv, net7, net8⟩
        refine ⟨_, rfl, _, rfl, _, rfl, w, _, _, rfl, fun H8 k8 => ⟨_, rfl, _, _, dt, rfl, hdt _, hdt _, dnt, fun H9 k9 => ⟨_, rfl, iteFo rfl ?_⟩⟩⟩
        have k79 := k8.trans k9
        refine ⟨_, rfl, _, rfl, _, _, _, rfl, dp_dI (.inl (.inl ((k7.trans k79).same _ _ rfl q8))), dp_dI (.inl (.inl (k79.same _ _ rfl qtv))), dmq.dn, fun H10 k10 => ⟨_, rfl, iteFo rfl ?_⟩⟩
        have k710 := k79.trans k10
        have q8' := (k7.trans k710).same _ _ rfl q8
        refine ⟨_, rfl, _, _, _, _, true, rfl, .ty _, ty_of (dp_dI (.inl (.inl q8'))), kit_ty k_ll, _, rfl, iteTo rfl ?_⟩
        refine ⟨_, rfl, .inl ⟨rfl, _, SqL.of q8'⟩, p8, _, _, rfl, rfl, q8', szt (by rw [List.length_map]; omega), ?_⟩
        have kX : Kp H5 (upd H10 p8 (.lst (List.map V.int rr ++ [V.int 0]))) := ((k6.trans k7).trans k710).mut n8
        have tX : (upd H10 p8 (.lst (List.map V.int rr ++ [V.int 0]))) tv = some (.lst (rr.map V.int)) := by rw [upd_ne net8]; exact k710.same _ _ rfl qtv
        have eX : (upd H10 p8 (.lst (List.map V.int rr ++ [V.int 0]))) p8 = some (.lst ((rr ++ [0]).map V.int)) := by rw [upd_same, List.map_append]; rfl
        generalize upd H10 p8 (.lst (List.map V.int rr ++ [V.int 0])) = H11 at kX tX eX
        refine ⟨_, rfl, _, rfl, dI row, dI row, dp_dI (.inl (.inl (kX.same _ _ rfl q_H5))), dp_dI (.inl (.inl (kX.same _ _ rfl g4))), dmr.shaped (by decide), dmr.shaped (by decide), _, rfl, iteFo (by rw [dmr.same (by decide)]; rfl) ?_⟩
        have q7' := kX.same _ _ rfl q_H5
        refine ⟨_, rfl, .inl ⟨rfl, _, SqL.of q7'⟩, p7, _, rfl, rfl, q7', ?_⟩
        have kY : Kp H'' (upd H11 p7 (.lst [])) := (k_H5.trans kX).mut n7
        have tY : (upd H11 p7 (.lst [])) tv = some (.lst (rr.map V.int)) := by rw [upd_ne net7]; exact tX
        have eY : (upd H11 p7 (.lst [])) p8 = some (.lst ((rr ++ [0]).map V.int)) := by rw [upd_ne ne87.symm]; exact eX
        generalize upd H11 p7 (.lst []) = H12 at kY tY eY
        refine ⟨_, rfl, _, _, _, _, true, rfl, .ty _, ty_of (dp_dI (.inl (.inl eY))), kit_ty k_ll, _, rfl, iteTo rfl ?_⟩
        refine ⟨_, rfl, _, rfl, szl (by show 1 ≤ 100000; decide), fun u nu => ?_⟩
        generalize h_H13 : upd H12 u _ = H13
        have k_H13 : Kp H12 H13 := by rw [← h_H13]; exact .new nu
        have q_H13 := (congrFun h_H13 u).symm.trans upd_same
        clear h_H13
        refine ⟨tv, u, _, _, rfl, rfl, k_H13.same _ _ rfl tY, q_H13, szl (by rw [List.length_map]; show rr.length + 1 ≤ 100000; omega), fun u2 nu2 => ?_⟩
        generalize h_H14 : upd H13 u2 _ = H14
        have k_H14 : Kp H13 H14 := by rw [← h_H14]; exact .new nu2
        have q_H14 := (congrFun h_H14 u2).symm.trans upd_same
        clear h_H14
        have e14 : H14 u2 = some (.lst ((rr ++ [0]).map V.int)) := by rw [q_H14, List.map_append]; rfl
        refine ⟨dI (rr ++ [0]), dI (rr ++ [0]), dp_dI (.inl (.inl ((k_H13.trans k_H14).same _ _ rfl eY))), dp_dI (.inl (.inl e14)), dmz.shaped (by decide), dmz.shaped (by decide), _, rfl, iteFo (by rw [dmz.same (by decide)]; rfl) ?_⟩
        exact ⟨_, _, _, _, _, rfl, ((kp.trans kY).trans k_H13).trans k_H14⟩
      · have k36 := k35.trans k6
        have hnu : decide (V.str w = V.str "up") = false := decide_eq_false (fun z => by rw [isWay_iff.mpr (.inl (V.str.inj z))] at hy; cases hy)
        have hnd : decide (V.str w = V.str "down") = false := decide_eq_false (fun z => by rw [isWay_iff.mpr (.inr (V.str.inj z))] at hy; cases hy)
        refine ⟨fun σ' H'' => σ' = [some (.ref a), some (.int (2 + mm)), some (.int pick), some (.int mast), some (.ref p4), some (.str w), some (tdV w (2 + mm) mast), some (.ref p7), some (.str "way"), some (.str "way")] ∧ Kp H6 H'', ?_, ?_⟩
        · exact ⟨_, rfl, rfl, _, rfl, iteFo hnu ⟨_, rfl, rfl, _, rfl, iteFo hnd ⟨rfl, .refl _⟩⟩⟩
        rintro σ' H7 ⟨rfl, k7⟩
        refine ⟨_, rfl, _, rfl, _, rfl, w, _, _, rfl, fun H8 k8 => ⟨_, rfl, _, _, dt, rfl, hdt _, hdt _, dnt, fun H9 k9 => ⟨_, rfl, iteFo rfl ?_⟩⟩⟩
        refine ⟨_, rfl, _, rfl, _, _, _, rfl, .str _, .str _, .str _ _, fun H10 k10 => ⟨_, rfl, iteFo rfl ?_⟩⟩
        have kX := ((k6.trans k7).trans (k8.trans k9)).trans k10
        refine ⟨_, rfl, _, _, _, _, false, rfl, .ty _, .base (.str _), kit_ty k_sl, _, rfl, iteFo rfl ?_⟩
        refine ⟨_, rfl, _, rfl, dI row, dI row, dp_dI (.inl (.inl (kX.same _ _ rfl q_H5))), dp_dI (.inl (.inl (kX.same _ _ rfl g4))), dmr.shaped (by decide), dmr.shaped (by decide), _, rfl, iteFo (by rw [dmr.same (by decide)]; rfl) ?_⟩
        have q7' := kX.same _ _ rfl q_H5
        refine ⟨_, rfl, .inl ⟨rfl, _, SqL.of q7'⟩, p7, _, rfl, rfl, q7', ?_⟩
        have kY : Kp H'' (upd H10 p7 (.lst [])) := (k_H5.trans kX).mut n7
        generalize upd H10 p7 (.lst []) = H12 at kY
        refine ⟨_, rfl, _, _, _, _, false, rfl, .ty _, .base (.str _), kit_ty k_sl, _, rfl, iteFo rfl ?_⟩
        exact ⟨_, _, _, _, _, rfl, kp.trans kY⟩
    · rintro σ H' ⟨y5, y6, y7, y8, y9, rfl, kp⟩
      refine ⟨_, rfl, p4, _, rfl, .inl (.inl (.inl (kp.same _ _ rfl q3))), fun p7 n7 => ?_⟩
      generalize h_H5 : upd H' p7 _ = H5
      have k_H5 : Kp H' H5 := by rw [← h_H5]; exact .new n7
      have q_H5 := (congrFun h_H5 p7).symm.trans upd_same
      clear h_H5
      refine ⟨_, p7, row, rfl, .inl (.inl q_H5), by omega, fun hy p8 H6 k6 n8 q8 => ?_, fun hy H6 k6 => ?_⟩
      · rw [if_pos dec_self] at q8
        exact ⟨_, rfl, _, _, _, rfl, dp_dI (.inl (.inl q8)), dp_dI (.inl (.inl ((k_H5.trans k6).same _ _ rfl (kp.same _ _ rfl q3)))), dmr.dn, fun H10 k10 => k _⟩
      · have z : isWay "up" = true := isWay_iff.mpr (.inl rfl)
        rw [z] at hy
        cases hy
end
theorem all_mk {l : PySem.W.OpenLaw} {w : World} {K : PySem.W.Frag} {h : Heap} {mg : Str → Option Value} {fa : Addr} (X : K.In h) (G : h.Ns mainGlobals mg) (hfa : mg "law" = some (.ref fa))
    {C_MastError : Addr}
    {C_NoMast : Addr}
    {C_BadWay : Addr}
    {f1 : Addr} {od1 an1 : Option Addr} {sl1 : Array (Option Value)} {oc1 kV1 dc1 pm1 cd1 ct1 : Value}
    {f2 : Addr} {od2 an2 : Option Addr} {sl2 : Array (Option Value)} {oc2 kV2 dc2 pm2 cd2 ct2 : Value}
    {f3 : Addr} {od3 an3 : Option Addr} {sl3 : Array (Option Value)} {oc3 kV3 dc3 pm3 cd3 ct3 : Value}
    {f4 : Addr} {od4 an4 : Option Addr} {sl4 : Array (Option Value)} {oc4 kV4 dc4 pm4 cd4 ct4 : Value}
    {f5 : Addr} {od5 an5 : Option Addr} {sl5 : Array (Option Value)} {oc5 kV5 dc5 pm5 cd5 ct5 : Value}
    {f6 : Addr} {od6 an6 : Option Addr} {sl6 : Array (Option Value)} {oc6 kV6 dc6 pm6 cd6 ct6 : Value}
    {f7 : Addr} {od7 an7 : Option Addr} {sl7 : Array (Option Value)} {oc7 kV7 dc7 pm7 cd7 ct7 : Value}
    {f8 : Addr} {od8 an8 : Option Addr} {sl8 : Array (Option Value)} {oc8 kV8 dc8 pm8 cd8 ct8 : Value}
    {f9 : Addr} {od9 an9 : Option Addr} {sl9 : Array (Option Value)} {oc9 kV9 dc9 pm9 cd9 ct9 : Value}
    {f10 : Addr} {od10 an10 : Option Addr} {sl10 : Array (Option Value)} {oc10 kV10 dc10 pm10 cd10 ct10 : Value}
    {tk_UP : Tok}
    {tk_DOWN : Tok}
    (e_MastError : PySem.W.nsIn K mainGlobals "MastError" = some (some (.ref C_MastError)))
    (x_MastError : PySem.W.excIn K C_MastError [.type "ValueError", .type "Exception", .type "BaseException", .type "object"] "ValueError.__new__" = true)
    (k_MastError : PySem.W.keepIn K (.ref C_MastError) = true)
    (b_MastError : PySem.W.subIn K (.ref C_MastError) (.type "BaseException") = some true)
    (t_MastError : PySem.W.typeIn K (.ref C_MastError) = some (.type "type"))
    (i_MastError : PySem.W.isClsIn K C_MastError = true)
    (h_MastError : PySem.W.hasDictIn K C_MastError = true)
    (ga_MastError : PySem.W.findIn K (.ref C_MastError) "__getattribute__" = some (some (.builtin "BaseException.__getattribute__")))
    (gg_MastError : PySem.W.findIn K (.ref C_MastError) "__getattr__" = some none)
    (cl_MastError : PySem.W.findIn K (.ref C_MastError) "__class__" = some (some (.builtin "object.__class__")))
    (mo_MastError : PySem.W.mroIn K C_MastError (.type "object") = some true)
    (v_MastError : PySem.W.subIn K (.ref C_MastError) (.type "ValueError") = some true)
    (e_NoMast : PySem.W.nsIn K mainGlobals "NoMast" = some (some (.ref C_NoMast)))
    (x_NoMast : PySem.W.excIn K C_NoMast [.type "ValueError", .type "Exception", .type "BaseException", .type "object"] "ValueError.__new__" = true)
    (k_NoMast : PySem.W.keepIn K (.ref C_NoMast) = true)
    (b_NoMast : PySem.W.subIn K (.ref C_NoMast) (.type "BaseException") = some true)
    (t_NoMast : PySem.W.typeIn K (.ref C_NoMast) = some (.type "type"))
    (i_NoMast : PySem.W.isClsIn K C_NoMast = true)
    (h_NoMast : PySem.W.hasDictIn K C_NoMast = true)
    (ga_NoMast : PySem.W.findIn K (.ref C_NoMast) "__getattribute__" = some (some (.builtin "BaseException.__getattribute__")))
    (gg_NoMast : PySem.W.findIn K (.ref C_NoMast) "__getattr__" = some none)
    (cl_NoMast : PySem.W.findIn K (.ref C_NoMast) "__class__" = some (some (.builtin "object.__class__")))
    (mo_NoMast : PySem.W.mroIn K C_NoMast (.type "object") = some true)
    (v_NoMast : PySem.W.subIn K (.ref C_NoMast) (.type "ValueError") = some true)
    (e_BadWay : PySem.W.nsIn K mainGlobals "BadWay" = some (some (.ref C_BadWay)))
    (x_BadWay : PySem.W.excIn K C_BadWay [.type "ValueError", .type "Exception", .type "BaseException", .type "object"] "ValueError.__new__" = true)
    (k_BadWay : PySem.W.keepIn K (.ref C_BadWay) = true)
    (b_BadWay : PySem.W.subIn K (.ref C_BadWay) (.type "BaseException") = some true)
    (t_BadWay : PySem.W.typeIn K (.ref C_BadWay) = some (.type "type"))
    (i_BadWay : PySem.W.isClsIn K C_BadWay = true)
    (h_BadWay : PySem.W.hasDictIn K C_BadWay = true)
    (ga_BadWay : PySem.W.findIn K (.ref C_BadWay) "__getattribute__" = some (some (.builtin "BaseException.__getattribute__")))
    (gg_BadWay : PySem.W.findIn K (.ref C_BadWay) "__getattr__" = some none)
    (cl_BadWay : PySem.W.findIn K (.ref C_BadWay) "__class__" = some (some (.builtin "object.__class__")))
    (mo_BadWay : PySem.W.mroIn K C_BadWay (.type "object") = some true)
    (v_BadWay : PySem.W.subIn K (.ref C_BadWay) (.type "ValueError") = some true)
    (s_MastError_MastError : PySem.W.subIn K (.ref C_MastError) (.ref C_MastError) = some true)
    (s_NoMast_MastError : PySem.W.subIn K (.ref C_NoMast) (.ref C_MastError) = some true)
    (s_NoMast_NoMast : PySem.W.subIn K (.ref C_NoMast) (.ref C_NoMast) = some true)
    (s_NoMast_BadWay : PySem.W.subIn K (.ref C_NoMast) (.ref C_BadWay) = some false)
    (s_BadWay_MastError : PySem.W.subIn K (.ref C_BadWay) (.ref C_MastError) = some true)
    (s_BadWay_NoMast : PySem.W.subIn K (.ref C_BadWay) (.ref C_NoMast) = some false)
    (s_BadWay_BadWay : PySem.W.subIn K (.ref C_BadWay) (.ref C_BadWay) = some true)
    (a1 : PySem.W.nsIn K mainGlobals "check_way" = some (some (.ref f1)))
    (l1 : K.lookup f1 = some ⟨oc1, od1, .func (PySem.W.fnOf "check_way" "check_way" (defArgs s_p_check_way) (defBody s_p_check_way) (defScope s_p_check_way) .none kV1 dc1 pm1 an1 cd1 ct1), sl1⟩)
    (c1 : PySem.W.codeIn K cd1 "check_way" = true)
    (k1 : PySem.W.keepIn K (.ref f1) = true)
    (a2 : PySem.W.nsIn K mainGlobals "check_mast" = some (some (.ref f2)))
    (l2 : K.lookup f2 = some ⟨oc2, od2, .func (PySem.W.fnOf "check_mast" "check_mast" (defArgs s_p_check_mast) (defBody s_p_check_mast) (defScope s_p_check_mast) .none kV2 dc2 pm2 an2 cd2 ct2), sl2⟩)
    (c2 : PySem.W.codeIn K cd2 "check_mast" = true)
    (k2 : PySem.W.keepIn K (.ref f2) = true)
    (a3 : PySem.W.nsIn K mainGlobals "place_of" = some (some (.ref f3)))
    (l3 : K.lookup f3 = some ⟨oc3, od3, .func (PySem.W.fnOf "place_of" "place_of" (defArgs s_p_place_of) (defBody s_p_place_of) (defScope s_p_place_of) .none kV3 dc3 pm3 an3 cd3 ct3), sl3⟩)
    (c3 : PySem.W.codeIn K cd3 "place_of" = true)
    (k3 : PySem.W.keepIn K (.ref f3) = true)
    (a4 : PySem.W.nsIn K mainGlobals "along" = some (some (.ref f4)))
    (l4 : K.lookup f4 = some ⟨oc4, od4, .func (PySem.W.fnOf "along" "along" (defArgs s_p_along) (defBody s_p_along) (defScope s_p_along) .none kV4 dc4 pm4 an4 cd4 ct4), sl4⟩)
    (c4 : PySem.W.codeIn K cd4 "along" = true)
    (k4 : PySem.W.keepIn K (.ref f4) = true)
    (a5 : PySem.W.nsIn K mainGlobals "_law_cell" = some (some (.ref f5)))
    (l5 : K.lookup f5 = some ⟨oc5, od5, .func (PySem.W.fnOf "_law_cell" "_law_cell" (defArgs s_l_cell) (defBody s_l_cell) (defScope s_l_cell) .none kV5 dc5 pm5 an5 cd5 ct5), sl5⟩)
    (c5 : PySem.W.codeIn K cd5 "_law_cell" = true)
    (k5 : PySem.W.keepIn K (.ref f5) = true)
    (a6 : PySem.W.nsIn K mainGlobals "_law_row" = some (some (.ref f6)))
    (l6 : K.lookup f6 = some ⟨oc6, od6, .func (PySem.W.fnOf "_law_row" "_law_row" (defArgs s_l_row) (defBody s_l_row) (defScope s_l_row) .none kV6 dc6 pm6 an6 cd6 ct6), sl6⟩)
    (c6 : PySem.W.codeIn K cd6 "_law_row" = true)
    (k6 : PySem.W.keepIn K (.ref f6) = true)
    (a7 : PySem.W.nsIn K mainGlobals "_law_like" = some (some (.ref f7)))
    (l7 : K.lookup f7 = some ⟨oc7, od7, .func (PySem.W.fnOf "_law_like" "_law_like" (defArgs s_l_like) (defBody s_l_like) (defScope s_l_like) .none kV7 dc7 pm7 an7 cd7 ct7), sl7⟩)
    (c7 : PySem.W.codeIn K cd7 "_law_like" = true)
    (k7 : PySem.W.keepIn K (.ref f7) = true)
    (a8 : PySem.W.nsIn K mainGlobals "_law_told" = some (some (.ref f8)))
    (l8 : K.lookup f8 = some ⟨oc8, od8, .func (PySem.W.fnOf "_law_told" "_law_told" (defArgs s_l_told) (defBody s_l_told) (defScope s_l_told) .none kV8 dc8 pm8 an8 cd8 ct8), sl8⟩)
    (c8 : PySem.W.codeIn K cd8 "_law_told" = true)
    (k8 : PySem.W.keepIn K (.ref f8) = true)
    (a9 : PySem.W.nsIn K mainGlobals "_law_along" = some (some (.ref f9)))
    (l9 : K.lookup f9 = some ⟨oc9, od9, .func (PySem.W.fnOf "_law_along" "_law_along" (defArgs s_l_along) (defBody s_l_along) (defScope s_l_along) .none kV9 dc9 pm9 an9 cd9 ct9), sl9⟩)
    (c9 : PySem.W.codeIn K cd9 "_law_along" = true)
    (k9 : PySem.W.keepIn K (.ref f9) = true)
    (a10 : PySem.W.nsIn K mainGlobals "law" = some (some (.ref f10)))
    (l10 : K.lookup f10 = some ⟨oc10, od10, .func (PySem.W.fnOf "law" "law" (defArgs s_law) (defBody s_law) (defScope s_law) .none kV10 dc10 pm10 an10 cd10 ct10), sl10⟩)
    (c10 : PySem.W.codeIn K cd10 "law" = true)
    (k10 : PySem.W.keepIn K (.ref f10) = true)
    (q_UP : PySem.W.nsIn K mainGlobals "UP" = some (some (.str "up" tk_UP)))
    (q_DOWN : PySem.W.nsIn K mainGlobals "DOWN" = some (some (.str "down" tk_DOWN)))
    (z_list : PySem.W.nsIn K mainGlobals "list" = some none)
    (z_len : PySem.W.nsIn K mainGlobals "len" = some none)
    (z_range : PySem.W.nsIn K mainGlobals "range" = some none)
    (z_isinstance : PySem.W.nsIn K mainGlobals "isinstance" = some none)
    (z_bool : PySem.W.nsIn K mainGlobals "bool" = some none)
    (z_int : PySem.W.nsIn K mainGlobals "int" = some none)
    (z_str : PySem.W.nsIn K mainGlobals "str" = some none)
    (z_all : PySem.W.nsIn K mainGlobals "all" = some none)
    (z_tuple : PySem.W.nsIn K mainGlobals "tuple" = some none)
    (oc_get : PySem.W.specialIn K (.builtin "object.__class__") "__get__" = some (some (.builtin "getset_descriptor.__get__")))
    (oc_tak : PySem.W.takesIn K (.builtin "object.__class__") = some true) :
    ∃ fd : FuncData, (∀ (s : Shared) (v : Value), BindsTo s fd ⟨[v], []⟩ [("_law_script", v)]) ∧ ∀ base : Heap, K.In base → base.Ns mainGlobals mg → FnOk l.prog w K mg base CX0 9 fa fd ["_law_script"] (sp_law K) := by
  have e := hfa.symm.trans (PySem.W.mg_of X G a10)
  cases e
  let T : Txt K mg :=
    { a_MastError := C_MastError,
      g_MastError := PySem.W.mg_of X G e_MastError,
      x_MastError := x_MastError,
      k_MastError := k_MastError,
      b_MastError := b_MastError,
      t_MastError := t_MastError,
      i_MastError := i_MastError,
      h_MastError := h_MastError,
      ga_MastError := ga_MastError,
      gg_MastError := gg_MastError,
      cl_MastError := cl_MastError,
      mo_MastError := mo_MastError,
      v_MastError := v_MastError,
      a_NoMast := C_NoMast,
      g_NoMast := PySem.W.mg_of X G e_NoMast,
      x_NoMast := x_NoMast,
      k_NoMast := k_NoMast,
      b_NoMast := b_NoMast,
      t_NoMast := t_NoMast,
      i_NoMast := i_NoMast,
      h_NoMast := h_NoMast,
      ga_NoMast := ga_NoMast,
      gg_NoMast := gg_NoMast,
      cl_NoMast := cl_NoMast,
      mo_NoMast := mo_NoMast,
      v_NoMast := v_NoMast,
      a_BadWay := C_BadWay,
      g_BadWay := PySem.W.mg_of X G e_BadWay,
      x_BadWay := x_BadWay,
      k_BadWay := k_BadWay,
      b_BadWay := b_BadWay,
      t_BadWay := t_BadWay,
      i_BadWay := i_BadWay,
      h_BadWay := h_BadWay,
      ga_BadWay := ga_BadWay,
      gg_BadWay := gg_BadWay,
      cl_BadWay := cl_BadWay,
      mo_BadWay := mo_BadWay,
      v_BadWay := v_BadWay,
      s_MastError_MastError := s_MastError_MastError,
      s_NoMast_MastError := s_NoMast_MastError,
      s_NoMast_NoMast := s_NoMast_NoMast,
      s_NoMast_BadWay := s_NoMast_BadWay,
      s_BadWay_MastError := s_BadWay_MastError,
      s_BadWay_NoMast := s_BadWay_NoMast,
      s_BadWay_BadWay := s_BadWay_BadWay,
      f_p_check_way := f1,
      d_p_check_way := _,
      F_p_check_way := fun_mk (st := s_p_check_way) l1 c1 k1,
      b_p_check_way := (fun_mk (st := s_p_check_way) l1 c1 k1).binds (ps := ["way"]) fun _ _ _ _ _ _ us hl => match us, hl with | [_], _ => rfl,
      g_p_check_way := PySem.W.mg_of X G a1,
      f_p_check_mast := f2,
      d_p_check_mast := _,
      F_p_check_mast := fun_mk (st := s_p_check_mast) l2 c2 k2,
      b_p_check_mast := (fun_mk (st := s_p_check_mast) l2 c2 k2).binds (ps := ["masts", "mast"]) fun _ _ _ _ _ _ us hl => match us, hl with | [_, _], _ => rfl,
      g_p_check_mast := PySem.W.mg_of X G a2,
      f_p_place_of := f3,
      d_p_place_of := _,
      F_p_place_of := fun_mk (st := s_p_place_of) l3 c3 k3,
      b_p_place_of := (fun_mk (st := s_p_place_of) l3 c3 k3).binds (ps := ["way", "masts", "mast"]) fun _ _ _ _ _ _ us hl => match us, hl with | [_, _, _], _ => rfl,
      g_p_place_of := PySem.W.mg_of X G a3,
      f_p_along := f4,
      d_p_along := _,
      F_p_along := fun_mk (st := s_p_along) l4 c4 k4,
      b_p_along := (fun_mk (st := s_p_along) l4 c4 k4).binds (ps := ["way", "row"]) fun _ _ _ _ _ _ us hl => match us, hl with | [_, _], _ => rfl,
      g_p_along := PySem.W.mg_of X G a4,
      f_l_cell := f5,
      d_l_cell := _,
      F_l_cell := fun_mk (st := s_l_cell) l5 c5 k5,
      b_l_cell := (fun_mk (st := s_l_cell) l5 c5 k5).binds (ps := ["_law_script", "_law_at"]) fun _ _ _ _ _ _ us hl => match us, hl with | [_, _], _ => rfl,
      g_l_cell := PySem.W.mg_of X G a5,
      f_l_row := f6,
      d_l_row := _,
      F_l_row := fun_mk (st := s_l_row) l6 c6 k6,
      b_l_row := (fun_mk (st := s_l_row) l6 c6 k6).binds (ps := ["_law_cell_here", "_law_many", "_law_size"]) fun _ _ _ _ _ _ us hl => match us, hl with | [_, _, _], _ => rfl,
      g_l_row := PySem.W.mg_of X G a6,
      f_l_like := f7,
      d_l_like := _,
      F_l_like := fun_mk (st := s_l_like) l7 c7 k7,
      b_l_like := (fun_mk (st := s_l_like) l7 c7 k7).binds (ps := ["_law_found", "_law_due"]) fun _ _ _ _ _ _ us hl => match us, hl with | [_, _], _ => rfl,
      g_l_like := PySem.W.mg_of X G a7,
      f_l_told := f8,
      d_l_told := _,
      F_l_told := fun_mk (st := s_l_told) l8 c8 k8,
      b_l_told := (fun_mk (st := s_l_told) l8 c8 k8).binds (ps := ["_law_way", "_law_masts", "_law_mast"]) fun _ _ _ _ _ _ us hl => match us, hl with | [_, _, _], _ => rfl,
      g_l_told := PySem.W.mg_of X G a8,
      f_l_along := f9,
      d_l_along := _,
      F_l_along := fun_mk (st := s_l_along) l9 c9 k9,
      b_l_along := (fun_mk (st := s_l_along) l9 c9 k9).binds (ps := ["_law_way", "_law_row_here"]) fun _ _ _ _ _ _ us hl => match us, hl with | [_, _], _ => rfl,
      g_l_along := PySem.W.mg_of X G a9,
      u_UP := _,
      c_UP := PySem.W.mg_of X G q_UP,
      r_UP := ⟨_, rfl⟩,
      u_DOWN := _,
      c_DOWN := PySem.W.mg_of X G q_DOWN,
      r_DOWN := ⟨_, rfl⟩,
      m_list := PySem.W.mg_none_of X G z_list,
      m_len := PySem.W.mg_none_of X G z_len,
      m_range := PySem.W.mg_none_of X G z_range,
      m_isinstance := PySem.W.mg_none_of X G z_isinstance,
      m_bool := PySem.W.mg_none_of X G z_bool,
      m_int := PySem.W.mg_none_of X G z_int,
      m_str := PySem.W.mg_none_of X G z_str,
      m_all := PySem.W.mg_none_of X G z_all,
      m_tuple := PySem.W.mg_none_of X G z_tuple,
      oc_get := oc_get,
      oc_tak := oc_tak }
  exact ⟨PySem.W.fnOf "law" "law" (defArgs s_law) (defBody s_law) (defScope s_law) .none kV10 dc10 pm10 an10 cd10 ct10, fun s v => .of_eq rfl, fun base _ _ => ok_law T (fun_mk (st := s_law) l10 c10 k10)⟩
end Mw
open PySem PySem.W PyProof.Rows
set_option maxRecDepth 100000 in
set_option maxHeartbeats 0 in
theorem PySem.Challenge.cw_mastword_k09_places_of_masts_holds : PySem.Challenge.rw_mastword_k09_places_of_masts.Holds := by
  w_on; o_law; k_head; (case hw => w_witness2)
  k_fill
  refine L2.walk_of (l := PySem.Challenge.rw_mastword_k09_places_of_masts) (n := 63) (k := 9) (x := "_law_script") (CX := fun _ => L2.CX0) (sp := fun w => Mw.sp_law _) rfl (by decide) rfl ⟨rfl, by decide, by decide⟩ (fun w h Y => PySem.W.kIn_of Y) ?F (fun _ _ a ns hl _ hS => ⟨a, ns, rfl, hS, hl, fun _ => rfl⟩) (fun _ _ _ _ _ h => h)
  case F =>
    intro w mg fa h KX G hmg
    refine' Mw.all_mk KX G hmg ?e_MastError ?x_MastError ?k_MastError ?b_MastError ?t_MastError ?i_MastError ?h_MastError ?ga_MastError ?gg_MastError ?cl_MastError ?mo_MastError ?v_MastError ?e_NoMast ?x_NoMast ?k_NoMast ?b_NoMast ?t_NoMast ?i_NoMast ?h_NoMast ?ga_NoMast ?gg_NoMast ?cl_NoMast ?mo_NoMast ?v_NoMast ?e_BadWay ?x_BadWay ?k_BadWay ?b_BadWay ?t_BadWay ?i_BadWay ?h_BadWay ?ga_BadWay ?gg_BadWay ?cl_BadWay ?mo_BadWay ?v_BadWay ?s_MastError_MastError ?s_NoMast_MastError ?s_NoMast_NoMast ?s_NoMast_BadWay ?s_BadWay_MastError ?s_BadWay_NoMast ?s_BadWay_BadWay ?a1 ?l1 ?c1 ?k1 ?a2 ?l2 ?c2 ?k2 ?a3 ?l3 ?c3 ?k3 ?a4 ?l4 ?c4 ?k4 ?a5 ?l5 ?c5 ?k5 ?a6 ?l6 ?c6 ?k6 ?a7 ?l7 ?c7 ?k7 ?a8 ?l8 ?c8 ?k8 ?a9 ?l9 ?c9 ?k9 ?a10 ?l10 ?c10 ?k10 ?q_UP ?q_DOWN ?z_list ?z_len ?z_range ?z_isinstance ?z_bool ?z_int ?z_str ?z_all ?z_tuple ?oc_get ?oc_tak
    (case e_MastError => k_is)
    (case x_MastError => k_exc)
    (case k_MastError => k_is)
    (case b_MastError => k_is)
    (case t_MastError => k_is)
    (case i_MastError => k_is)
    (case h_MastError => k_is)
    (case ga_MastError => k_is)
    (case gg_MastError => k_is)
    (case cl_MastError => k_is)
    (case mo_MastError => k_is)
    (case v_MastError => k_is)
    (case e_NoMast => k_is)
    (case x_NoMast => k_exc)
    (case k_NoMast => k_is)
    (case b_NoMast => k_is)
    (case t_NoMast => k_is)
    (case i_NoMast => k_is)
    (case h_NoMast => k_is)
    (case ga_NoMast => k_is)
    (case gg_NoMast => k_is)
    (case cl_NoMast => k_is)
    (case mo_NoMast => k_is)
    (case v_NoMast => k_is)
    (case e_BadWay => k_is)
    (case x_BadWay => k_exc)
    (case k_BadWay => k_is)
    (case b_BadWay => k_is)
    (case t_BadWay => k_is)
    (case i_BadWay => k_is)
    (case h_BadWay => k_is)
    (case ga_BadWay => k_is)
    (case gg_BadWay => k_is)
    (case cl_BadWay => k_is)
    (case mo_BadWay => k_is)
    (case v_BadWay => k_is)
    (case s_MastError_MastError => (first | rfl | k_is))
    (case s_NoMast_MastError => (first | rfl | k_is))
    (case s_NoMast_NoMast => (first | rfl | k_is))
    (case s_NoMast_BadWay => (first | rfl | k_is))
    (case s_BadWay_MastError => (first | rfl | k_is))
    (case s_BadWay_NoMast => (first | rfl | k_is))
    (case s_BadWay_BadWay => (first | rfl | k_is))
    (case a1 => k_is)
    (case l1 => k_is)
    (case c1 => k_is)
    (case k1 => k_is)
    (case a2 => k_is)
    (case l2 => k_is)
    (case c2 => k_is)
    (case k2 => k_is)
    (case a3 => k_is)
    (case l3 => k_is)
    (case c3 => k_is)
    (case k3 => k_is)
    (case a4 => k_is)
    (case l4 => k_is)
    (case c4 => k_is)
    (case k4 => k_is)
    (case a5 => k_is)
    (case l5 => k_is)
    (case c5 => k_is)
    (case k5 => k_is)
    (case a6 => k_is)
    (case l6 => k_is)
    (case c6 => k_is)
    (case k6 => k_is)
    (case a7 => k_is)
    (case l7 => k_is)
    (case c7 => k_is)
    (case k7 => k_is)
    (case a8 => k_is)
    (case l8 => k_is)
    (case c8 => k_is)
    (case k8 => k_is)
    (case a9 => k_is)
    (case l9 => k_is)
    (case c9 => k_is)
    (case k9 => k_is)
    (case a10 => k_is)
    (case l10 => k_is)
    (case c10 => k_is)
    (case k10 => k_is)
    (case q_UP => k_is)
    (case q_DOWN => k_is)
    (case z_list => k_is)
    (case z_len => k_is)
    (case z_range => k_is)
    (case z_isinstance => k_is)
    (case z_bool => k_is)
    (case z_int => k_is)
    (case z_str => k_is)
    (case z_all => k_is)
    (case z_tuple => k_is)
    (case oc_get => k_is)
    (case oc_tak => k_is)
