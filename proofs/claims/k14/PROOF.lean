import PyProof.Rows.All
import Wide.All
import OpenK.AllK
import Wide.FinOn
import HandS.ForMost
import HandS.ForExc
import HandS.AnyAll
import HandS.EndTab
import HandS.ExcIs
import HandS.ExcField
import HandS.ExcInit
import HandS.IsInst
import HandS.Conv
import HandS.Replace
import HandS.Flow
import HandS.Walk
import HandS.Evl
import KE.KExcIs
import HandS.EndOwn
import HandS.CallRecv
import PySem.Challenge.RW_mastword_k14_rows_that_differ
set_option Elab.async false
set_option linter.all false
set_option maxRecDepth 100000
set_option maxHeartbeats 2000000
namespace Mw
open PySem PySem.Spec PyProof.Rows L2
/-! ### what is kept: every tracked thing but the tables of code objects, which stay tables -/
def isT : HO → Bool
  | .tbl _ => true
  | _ => false
structure Kp (H H' : Hp) : Prop where
  same : ∀ a o, isT o = false → H a = some o → H' a = some o
  tab : ∀ a, GxR.TabG H a → GxR.TabG H' a
  free : ∀ a, H' a = none → H a = none
theorem Kp.refl (H : Hp) : Kp H H := ⟨fun _ _ _ h => h, fun _ h => h, fun _ h => h⟩
theorem Kp.trans {H H1 H2 : Hp} (a : Kp H H1) (b : Kp H1 H2) : Kp H H2 :=
  ⟨fun x o t h => b.same x o t (a.same x o t h), fun x h => b.tab x (a.tab x h), fun x h => a.free x (b.free x h)⟩
theorem Kp.mut {H H' : Hp} {p : Addr} {o : HO} (e : Kp H H') (h : H p = none) : Kp H (upd H' p o) := by
  refine ⟨fun a u t ha => ?_, fun a ⟨ps, ha, ht⟩ => ?_, fun a ha => ?_⟩
  · rw [upd_ne (ne_of_none ha h)]
    exact e.same a u t ha
  · obtain ⟨ps', h1, h2⟩ := e.tab a ⟨ps, ha, ht⟩
    exact ⟨ps', by rw [upd_ne (ne_of_none ha h)]; exact h1, h2⟩
  · by_cases q : a = p
    · rw [q]
      exact h
    · rw [upd_ne q] at ha
      exact e.free a ha
theorem Kp.new {H : Hp} {p : Addr} {o : HO} (h : H p = none) : Kp H (upd H p o) := (Kp.refl H).mut h
theorem Kp.rd {H H' : Hp} {a : Addr} {u : HO} (e : Kp H H') (t : isT u = false) (h : Rd H a u) : Rd H' a u := by
  rcases h with h | ⟨o, h⟩
  · exact Or.inl (e.same a _ t h)
  · exact Or.inr ⟨o, e.same a _ rfl h⟩
theorem Kp.sqL {K : PySem.W.Frag} {H H' : Hp} {a : Addr} {xs : List V} (e : Kp H H') (h : SqL K H a xs) : SqL K H' a xs := by
  rcases h with h | h
  · exact Or.inl (e.rd rfl h)
  · exact Or.inr h
theorem Kp.sqT {K : PySem.W.Frag} {H H' : Hp} {a : Addr} {xs : List V} (e : Kp H H') (h : SqT K H a xs) : SqT K H' a xs := by
  rcases h with h | h
  · exact Or.inl (e.rd rfl h)
  · exact Or.inr h
mutual
theorem Kp.dp {K : PySem.W.Frag} {H H' : Hp} (e : Kp H H') : ∀ {d : PyData} {v : V}, Dp K H v d → Dp K H' v d
  | _, _, .non => .non
  | _, _, .bl b => .bl b
  | _, _, .int i => .int i
  | _, _, .str x => .str x
  | _, _, .lst h a => .lst (e.sqL h) (Kp.dpAll e a)
  | _, _, .tup h a => .tup (e.sqT h) (Kp.dpAll e a)
theorem Kp.dpAll {K : PySem.W.Frag} {H H' : Hp} (e : Kp H H') : ∀ {ds : List PyData} {vs : List V}, DpAll K H vs ds → DpAll K H' vs ds
  | _, _, .nil => .nil
  | _, _, .cons h t => .cons (Kp.dp e h) (Kp.dpAll e t)
end
theorem DpAll.len {K : PySem.W.Frag} {H : Hp} : ∀ {vs : List V} {ds : List PyData}, DpAll K H vs ds → vs.length = ds.length
  | _, _, .nil => rfl
  | _, _, .cons _ t => congrArg (· + 1) (DpAll.len t)
theorem DpAll.get {K : PySem.W.Frag} {H : Hp} : ∀ {vs : List V} {ds : List PyData} {i : Nat} {d : PyData}, DpAll K H vs ds → ds[i]? = some d → ∃ v, vs[i]? = some v ∧ Dp K H v d
  | _, _, i, d, .nil, h => by simp at h
  | _, _, 0, d, .cons a _, h => by
    have e := Option.some.inj h
    subst e
    exact ⟨_, rfl, a⟩
  | _, _, i + 1, d, .cons _ t, h => DpAll.get (i := i) t h
theorem DpAll.app {K : PySem.W.Frag} {H : Hp} : ∀ {vs ws : List V} {ds es : List PyData}, DpAll K H vs ds → DpAll K H ws es → DpAll K H (vs ++ ws) (ds ++ es)
  | _, _, _, _, .nil, b => b
  | _, _, _, _, .cons a t, b => .cons a (DpAll.app t b)
/-- data without lists -/
inductive Nl : PyData → Prop
  | non : Nl .none
  | bl (b : Bool) : Nl (.bool b)
  | int (i : Int) : Nl (.int i)
  | str (x : Str) : Nl (.str x)
  | tup {ds : List PyData} : (∀ d ∈ ds, Nl d) → Nl (.tuple ds)
/-! a list may change: what has no list in it stays -/
mutual
theorem Dp.mut {K : PySem.W.Frag} {H : Hp} {p : Addr} {o : HO} {zs : List V} (hp : H p = some (.lst zs)) : ∀ {d : PyData} {v : V}, Nl d → Dp K H v d → Dp K (upd H p o) v d
  | _, _, _, .non => .non
  | _, _, _, .bl b => .bl b
  | _, _, _, .int i => .int i
  | _, _, _, .str x => .str x
  | _, _, n, .lst _ _ => nomatch n
  | _, _, n, .tup h a => by
    cases n with
    | tup n =>
      refine .tup ?_ (DpAll.mut hp n a)
      rcases h with (h | ⟨ob, h⟩) | h
      · exact .inl (.inl (by rw [upd_ne (ne_of h hp (by intro z; cases z))]; exact h))
      · exact .inl (.inr ⟨ob, by rw [upd_ne (ne_of h hp (by intro z; cases z))]; exact h⟩)
      · exact .inr h
theorem DpAll.mut {K : PySem.W.Frag} {H : Hp} {p : Addr} {o : HO} {zs : List V} (hp : H p = some (.lst zs)) : ∀ {ds : List PyData} {vs : List V}, (∀ d ∈ ds, Nl d) → DpAll K H vs ds → DpAll K (upd H p o) vs ds
  | _, _, _, .nil => .nil
  | _, _, n, .cons h t => .cons (Dp.mut hp (n _ List.mem_cons_self) h) (DpAll.mut hp (fun d hd => n d (List.mem_cons_of_mem _ hd)) t)
end
theorem DpAll.snoc {K : PySem.W.Frag} {H : Hp} {vs : List V} {ds : List PyData} {v : V} {d : PyData} (a : DpAll K H vs ds) (h : Dp K H v d) : DpAll K H (vs ++ [v]) (ds ++ [d]) := DpAll.app a (.cons h .nil)
theorem DpAll.dropLast {K : PySem.W.Frag} {H : Hp} : ∀ {vs : List V} {ds : List PyData}, DpAll K H vs ds → DpAll K H vs.dropLast ds.dropLast
  | _, _, .nil => .nil
  | _, _, .cons _ .nil => .nil
  | _, _, .cons h (.cons h2 t) => .cons h (DpAll.dropLast (.cons h2 t))
theorem dp_ints {K : PySem.W.Frag} {H : Hp} : ∀ ns : List Int, DpAll K H (ns.map V.int) (ns.map PyData.int)
  | [] => .nil
  | n :: r => .cons (.int n) (dp_ints r)
theorem dp_strs {K : PySem.W.Frag} {H : Hp} : ∀ ns : List Str, DpAll K H (ns.map V.str) (ns.map PyData.str)
  | [] => .nil
  | n :: r => .cons (.str n) (dp_strs r)
/-- a list of ints, a list of texts as data -/
def dI (ns : List Int) : PyData := .list (ns.map PyData.int)
def dS (ns : List Str) : PyData := .list (ns.map PyData.str)
theorem dp_dI {K : PySem.W.Frag} {H : Hp} {a : Addr} {ns : List Int} (h : SqL K H a (ns.map V.int)) : Dp K H (.ref a) (dI ns) := .lst h (dp_ints ns)
theorem dpAll_ints {K : PySem.W.Frag} {H : Hp} : ∀ {ns : List Int} {vs : List V}, DpAll K H vs (ns.map PyData.int) → vs = ns.map V.int
  | [], _, .nil => rfl
  | n :: r, _, .cons h t => by
    cases h
    rw [dpAll_ints t]
    rfl
theorem dp_of_dI {K : PySem.W.Frag} {H : Hp} {v : V} {ns : List Int} (h : Dp K H v (dI ns)) : ∃ a, v = .ref a ∧ SqL K H a (ns.map V.int) := by
  cases h with
  | lst h t =>
    rw [dpAll_ints t] at h
    exact ⟨_, rfl, h⟩
/-! ### small words -/
theorem at_int {ns : List Int} {j : Nat} (h : j < ns.length) : atI (ns.map V.int) (j : Int) = some (.int ns[j]) := atI_nat (by rw [List.getElem?_map, List.getElem?_eq_getElem h]; rfl)
theorem at_intZ {ns : List Int} {z : Int} (h0 : 0 ≤ z) (h : z.toNat < ns.length) : atI (ns.map V.int) z = some (.int ns[z.toNat]) := by
  have e := at_int h
  rw [Int.toNat_of_nonneg h0] at e
  exact e
theorem szl {n : Nat} (h : n ≤ 100000) : n ≤ sizeLine := Nat.le_trans h (by decide)
theorem szt {n : Nat} (h : n < 100000) : n < sizeLine := Nat.lt_of_lt_of_le h (by decide)
theorem iteB {b : Bool} {A B : Prop} (h1 : b = true → A) (h2 : b = false → B) : if b = true then A else B := by
  cases b with
  | true => rw [if_pos rfl]; exact h1 rfl
  | false => rw [if_neg Bool.false_ne_true]; exact h2 rfl
theorem iteD {c : Prop} [Decidable c] {A B : Prop} (h1 : c → A) (h2 : ¬ c → B) : if decide c = true then A else B :=
  iteB (fun h => h1 (of_decide_eq_true h)) (fun h => h2 (of_decide_eq_false h))
theorem iteN {c : Prop} [Decidable c] {A B : Prop} (h1 : ¬ c → A) (h2 : c → B) : if (!decide c) = true then A else B :=
  iteB (fun h => h1 (fun z => by rw [decide_eq_true z] at h; cases h)) (fun h => h2 (by
    by_cases z : c
    · exact z
    · rw [decide_eq_false z] at h; cases h))
theorem iteTo {b : Bool} {A B : Prop} (e : b = true) (h : A) : if b = true then A else B := by rw [if_pos e]; exact h
theorem iteFo {b : Bool} {A B : Prop} (e : b = false) (h : B) : if b = true then A else B := by rw [e, if_neg Bool.false_ne_true]; exact h
/-! ### rules with the written part by its own name (inside a comprehension) -/
section
variable {X : Cx} (K : PySem.W.Frag)
theorem ix_listK (h : X.K = K) : IxR X (rIxL K) := h ▸ ix_list
theorem ix_tupK (h : X.K = K) : IxR X (rIxT K) := h ▸ ix_tup
theorem ix_seqK (h : X.K = K) : IxR X (rIx K) := h ▸ ix_seq
def rLenSq : List V → Hp → VK → Prop := fun xs H Q => ∃ p ys, xs = [.ref p] ∧ (SqL K H p ys ∨ SqT K H p ys) ∧ Q (.int ys.length) H
theorem call_lenSK (h : X.K = K) : CallR X (.builtin "len") (rLenSq K) := h ▸ call_len_seq
def rLenV : List V → Hp → VK → Prop := fun xs H Q => ∃ x n, xs = [x] ∧ LenV K x H n ∧ Q (.int n) H
theorem call_lenK (h : X.K = K) : CallR X (.builtin "len") (rLenV K) := h ▸ call_len
theorem op_inK (h : X.K = K) : OpR X (compareOp .In) (rIn K false) := h ▸ op_in_seq
theorem op_notInK (h : X.K = K) : OpR X (compareOp .NotIn) (rIn K true) := h ▸ op_notIn_seq
theorem op_eqDK (h : X.K = K) (hu : X.A.units + 64 < cLine) : OpR X (compareOp .Eq) (rEqD K) := h ▸ op_eqD hu
theorem op_neDK (h : X.K = K) (hu : X.A.units + 64 < cLine) : OpR X (compareOp .NotEq) (rNeD K) := h ▸ op_neD hu
theorem call_isiKK (h : X.K = K) : CallR X (.builtin "isinstance") (rIsi K) := h ▸ call_isi
end
section
variable {X : Cx} (K : PySem.W.Frag)
theorem pgK {e : Expr} {n : Nat} {t : TGs} (h : X.K = K) (p : PG X e (gTup X.K n t)) : PG X e (gTup K n t) := h ▸ p
/-- isinstance(e, C), e what the suite has caught (without or with a dict of its own) -/
def rIsX (cls : Value) (d : Option Addr) (a : Addr) : List V → Hp → VK → Prop := fun xs H Q => ∃ (D : Addr) (c : V) (cv : Value) (b : Bool), cls = .ref D ∧ (d = none ∨ ∃ dd fs, d = some dd ∧ H dd = some (.xd fs)) ∧ ExcC K D ∧ xs = [.ref a, c] ∧ ClsV c cv ∧ PySem.W.kitOne K (.ref D) cv = some b ∧ Q (.bl b) H
theorem call_isX {a : Addr} {oe : Obj} {pn : List (Addr × Obj)} {cls : Value} {d : Option Addr} (h : X.K = K) (hz : Zc cls d oe) (hf : ∃ vs, oe.data = .fields vs) : CallR (X.suite a ((a, oe) :: pn)) (.builtin "isinstance") (rIsX K cls d a) := by
  subst h
  intro pins s σ H xs us Q I r h'
  obtain ⟨D, c, cv, b, rfl, hd, C, rfl, hc, hk, q⟩ := h'
  cases r with | cons rx rr =>
  cases rr with | cons rt rr =>
  cases rr
  cases rx
  have ec := hc.eq rt
  subst ec
  obtain ⟨hget, _⟩ := I.pin (a, oe) (List.mem_append_left _ List.mem_cons_self)
  obtain ⟨vs, hv⟩ := hf
  have hcl : (PySem.W.clsIn X.K D).isSome = true := by
    obtain ⟨cd, hc, _⟩ := PySem.W.any_some C.hd
    rw [hc]
    first | rfl | done
  have nc : PySem.W.notCls oe = true := by
    unfold PySem.W.notCls
    rw [hv]
  rcases hd with rfl | ⟨dd, fs, rfl, hdd⟩
  · have J : PySem.W.InstAt s.heap a oe D none := ⟨hget, hz.1, nc, by rw [hz.2]; trivial⟩
    exact PySem.W.kia_one (PySem.W.kitx_exc hcl C.hg C.hk C.hs C.ha C.hn C.ht C.hm) I.kIn J hk (fun z => nomatch z) fun tk => ⟨.bl b, H, I.kept (t' := tk) fun _ _ z => z, rfl, q⟩
  · obtain ⟨mA, hns, hr⟩ := I.hok dd _ hdd
    obtain ⟨od, ho, hl⟩ := lookIn_ns hns
    have J : PySem.W.InstAt s.heap a oe D (some od) := ⟨hget, hz.1, nc, by rw [hz.2]; exact ho⟩
    exact PySem.W.kia_one (PySem.W.kitx_exc hcl C.hg C.hk C.hs C.ha C.hn C.ht C.hm) I.kIn J hk (fun z => nomatch z) fun tk => ⟨.bl b, H, I.kept (t' := tk) fun _ _ z => z, rfl, q⟩
end
/-! ### isinstance of an own error, by what the written part says of its class -/
theorem kit_sub {K : PySem.W.Frag} {t : Value} {C : Addr} (ic : PySem.W.isClsIn K C = true) (tC : PySem.W.typeIn K (.ref C) = some (.type "type")) (h : PySem.W.subIn K t (.ref C) = some true) : PySem.W.kitOne K t (.ref C) = some true := by
  unfold PySem.W.kitOne
  by_cases e : (t == .ref C) = true
  · rw [if_pos e]
  · rw [if_neg e]
    have h2 : ((PySem.W.clsIn K C).isSome && PySem.W.typeIn K (.ref C) == some (.type "type")) = true := by
      have q : (PySem.W.clsIn K C).isSome = true := ic
      rw [q, tC]
      rfl
    show (if ((PySem.W.clsIn K C).isSome && PySem.W.typeIn K (.ref C) == some (.type "type")) = true then PySem.W.subIn K t (.ref C) else none) = some true
    rw [if_pos h2]
    exact h
theorem kit_not {K : PySem.W.Frag} {t : Value} {C : Addr} (ic : PySem.W.isClsIn K C = true) (tC : PySem.W.typeIn K (.ref C) = some (.type "type")) (h : PySem.W.subIn K t (.ref C) = some false) (hs : PySem.W.subIn K t t = some true) : PySem.W.kitOne K t (.ref C) = some false := by
  unfold PySem.W.kitOne
  have e : ¬ (t == .ref C) = true := fun e => by
    have z : t = .ref C := by simpa using e
    rw [z] at h hs
    rw [h] at hs
    cases hs
  rw [if_neg e]
  have h2 : ((PySem.W.clsIn K C).isSome && PySem.W.typeIn K (.ref C) == some (.type "type")) = true := by
    have q : (PySem.W.clsIn K C).isSome = true := ic
    rw [q, tC]
    rfl
  show (if ((PySem.W.clsIn K C).isSome && PySem.W.typeIn K (.ref C) == some (.type "type")) = true then PySem.W.subIn K t (.ref C) else none) = some false
  rw [if_pos h2]
  exact h
theorem meta_ve : PySem.W.kitMeta "ValueError" = true := by decide +kernel
theorem kit_ve {K : PySem.W.Frag} {C : Addr} (h : PySem.W.subIn K (.ref C) (.type "ValueError") = some true) : PySem.W.kitOne K (.ref C) (.type "ValueError") = some true := by
  unfold PySem.W.kitOne
  rw [if_neg (by intro z; cases z)]
  show (if PySem.W.kitMeta "ValueError" = true then PySem.W.subIn K (.ref C) (.type "ValueError") else none) = some true
  rw [if_pos meta_ve]
  exact h
theorem at_mod (z : Str) {m : Int} {n : Nat} (hn : 0 < n) (hl : z.cps.toList.length = n) : ∃ c, atI z.cps.toList (m % (n : Int)) = some c := by
  have h0 : 0 ≤ m % (n : Int) := Int.emod_nonneg _ (by omega)
  have h1 : m % (n : Int) < (n : Int) := Int.emod_lt_of_pos _ (by omega)
  have hj : (m % (n : Int)).toNat < z.cps.toList.length := by omega
  refine ⟨z.cps.toList[(m % (n : Int)).toNat], ?_⟩
  have e := atI_nat (List.getElem?_eq_getElem hj)
  rw [Int.toNat_of_nonneg h0] at e
  exact e
theorem cutV_map {lo hi : Option Int} {ns : List Int} : ∃ ms : List Int, cutV (ns.map V.int) lo hi = ms.map V.int ∧ (∀ m ∈ ms, m ∈ ns) ∧ ms.length ≤ ns.length := by
  unfold cutV
  rw [List.length_map]
  refine ⟨(ns.drop _).take _, by rw [List.map_take, List.map_drop], fun m h => List.mem_of_mem_drop (List.mem_of_mem_take h), ?_⟩
  rw [List.length_take, List.length_drop]
  omega
theorem mem_ints {ns : List Int} {i : Nat} {x : V} (h : (ns.map V.int)[i]? = some x) : ∃ z, z ∈ ns ∧ x = .int z ∧ ns[i]? = some z := by
  rw [List.getElem?_map] at h
  cases e : ns[i]? with
  | none =>
    rw [e] at h
    cases h
  | some z =>
    rw [e] at h
    exact ⟨z, List.mem_of_getElem? e, (Option.some.inj h).symm, rfl⟩
theorem mem_strs {ns : List Str} {i : Nat} {x : V} (h : (ns.map V.str)[i]? = some x) : ∃ z, z ∈ ns ∧ x = .str z ∧ ns[i]? = some z := by
  rw [List.getElem?_map] at h
  cases e : ns[i]? with
  | none =>
    rw [e] at h
    cases h
  | some z =>
    rw [e] at h
    exact ⟨z, List.mem_of_getElem? e, (Option.some.inj h).symm, rfl⟩
theorem take_snoc {α : Type} {l : List α} {i : Nat} {z : α} (h : l[i]? = some z) : l.take (i + 1) = l.take i ++ [z] := by
  rw [List.take_succ, h]
  rfl
def top (i : Nat) : Stmt := PySem.Challenge.pw_mastword_k14_rows_that_differ.main.body.getD i (.Pass ⟨0, 0, 0, 0⟩)
abbrev s_p_stretches : Stmt := top 1
theorem sc_p_stretches : FnScope ["values", "legible", "place", "sign", "found", "first", "written", "second", "other"] ["values"] (defScope s_p_stretches) := ⟨rfl, rfl, rfl, by decide +kernel, rfl, by decide +kernel, by decide +kernel⟩
abbrev s_l_cell : Stmt := top 3
theorem sc_l_cell : FnScope ["_law_script", "_law_at"] ["_law_script", "_law_at"] (defScope s_l_cell) := ⟨rfl, rfl, rfl, by decide +kernel, rfl, by decide +kernel, by decide +kernel⟩
abbrev s_l_row : Stmt := top 4
theorem sc_l_row : FnScope ["_law_cell_here", "_law_many", "_law_size", "_law_row_here", "_law_rest", "_law_k", "_law_seed", "_law_mixed"] ["_law_cell_here", "_law_many", "_law_size"] (defScope s_l_row) := ⟨rfl, rfl, rfl, by decide +kernel, rfl, by decide +kernel, by decide +kernel⟩
abbrev s_l_like : Stmt := top 5
theorem sc_l_like : FnScope ["_law_found", "_law_due_here", "_law_k"] ["_law_found", "_law_due_here"] (defScope s_l_like) := ⟨rfl, rfl, rfl, by decide +kernel, rfl, by decide +kernel, by decide +kernel⟩
abbrev s_l_values : Stmt := top 6
theorem sc_l_values : FnScope ["_law_script", "_law_at", "_law_most", "_law_nums", "_law_many", "_law_values_here", "_law_num", "_law_place"] ["_law_script", "_law_at", "_law_most"] (defScope s_l_values) := ⟨rfl, rfl, rfl, by decide +kernel, rfl, by decide +kernel, by decide +kernel⟩
abbrev s_l_due : Stmt := top 7
theorem sc_l_due : FnScope ["_law_values_here", "_law_places", "_law_place", "_law_found", "_law_k", "_law_one", "_law_other"] ["_law_values_here"] (defScope s_l_due) := ⟨rfl, rfl, rfl, by decide +kernel, rfl, by decide +kernel, by decide +kernel⟩
abbrev s_law : Stmt := top 8
theorem sc_law : FnScope ["_law_script", "_law_at", "_law_values_here", "_law_handed", "_law_found"] ["_law_script"] (defScope s_law) := ⟨rfl, rfl, rfl, by decide +kernel, rfl, by decide +kernel, by decide +kernel⟩
structure Txt (K : PySem.W.Frag) (mg : Str → Option Value) where
  f_p_stretches : Addr
  d_p_stretches : FuncData
  F_p_stretches : Fun K "stretches" "stretches" s_p_stretches f_p_stretches d_p_stretches
  b_p_stretches : Binds K d_p_stretches ["values"] []
  g_p_stretches : mg "stretches" = some (.ref f_p_stretches)
  f_l_cell : Addr
  d_l_cell : FuncData
  F_l_cell : Fun K "_law_cell" "_law_cell" s_l_cell f_l_cell d_l_cell
  b_l_cell : Binds K d_l_cell ["_law_script", "_law_at"] []
  g_l_cell : mg "_law_cell" = some (.ref f_l_cell)
  f_l_row : Addr
  d_l_row : FuncData
  F_l_row : Fun K "_law_row" "_law_row" s_l_row f_l_row d_l_row
  b_l_row : Binds K d_l_row ["_law_cell_here", "_law_many", "_law_size"] []
  g_l_row : mg "_law_row" = some (.ref f_l_row)
  f_l_like : Addr
  d_l_like : FuncData
  F_l_like : Fun K "_law_like" "_law_like" s_l_like f_l_like d_l_like
  b_l_like : Binds K d_l_like ["_law_found", "_law_due_here"] []
  g_l_like : mg "_law_like" = some (.ref f_l_like)
  f_l_values : Addr
  d_l_values : FuncData
  F_l_values : Fun K "_law_values" "_law_values" s_l_values f_l_values d_l_values
  b_l_values : Binds K d_l_values ["_law_script", "_law_at", "_law_most"] []
  g_l_values : mg "_law_values" = some (.ref f_l_values)
  f_l_due : Addr
  d_l_due : FuncData
  F_l_due : Fun K "_law_due" "_law_due" s_l_due f_l_due d_l_due
  b_l_due : Binds K d_l_due ["_law_values_here"] []
  g_l_due : mg "_law_due" = some (.ref f_l_due)
  m_zip : mg "zip" = none
  m_enumerate : mg "enumerate" = none
  m_len : mg "len" = none
  m_range : mg "range" = none
  m_isinstance : mg "isinstance" = none
  m_bool : mg "bool" = none
  m_int : mg "int" = none
  m_str : mg "str" = none
  m_all : mg "all" = none
  m_list : mg "list" = none
  m_tuple : mg "tuple" = none
section
variable {P : Program} {w : World} {K : PySem.W.Frag} {mg : Str → Option Value} {base : Heap}
/-! ### _law_cell: an int of the script -/
def cellV (ns : List Int) (j : Nat) : Int :=
  if j < ns.length then ns.getD j 0 else if ns.length = 0 then 29 * (j : Int) + 5 else ns.getD (j % ns.length) 0 % 1000003 + 103 * (j : Int)
def sp_l_cell (K : PySem.W.Frag) : Sp := fun vs H Q _ => ∃ (l : Addr) (ns : List Int) (j : Nat), vs = [.ref l, .int j] ∧ SqL K H l (ns.map V.int) ∧ j ≤ 100000 ∧ Q (.int (cellV ns j)) H
theorem getD_at {ns : List Int} {j : Nat} (h : j < ns.length) : atI (ns.map V.int) (j : Int) = some (.int (ns.getD j 0)) := by
  rw [at_int h, List.getD_eq_getElem?_getD, List.getElem?_eq_getElem h]
  rfl
theorem ok_l_cell (T : Txt K mg) : FnOk P w K mg base CX0 1 T.f_l_cell T.d_l_cell ["_law_script", "_law_at"] (sp_l_cell K) := by
  refine T.F_l_cell.ok sc_l_cell (fun vs H Q E h => ?_) (fun cdv A outer s H vs Q E hr h => ?_)
  · obtain ⟨l, ns, j, rfl, _⟩ := h
    rfl
  · obtain ⟨l, ns, j, rfl, hS, hj, k⟩ := h
    have hlen : ((ns.map V.int).length : Int) = (ns.length : Int) := by rw [List.length_map]
    refine ⟨_, (pss_cons (ps_if (pt_cmpR op_lt (pv 1) (pe_callB call_len_seq (by rfl) T.m_len PySem.boot_len (pa_cons (pv 0) pa_nil)) (nomark _))
      (pss_one (ps_ret (pe_ix ix_list (pv 0) (pv 1) (fun _ _ => rfl))))
      pss_nil)
      (pss_cons (ps_if (pt_cmpR op_eq (pe_callB call_len_seq (by rfl) T.m_len PySem.boot_len (pa_cons (pv 0) pa_nil)) pe_int (nomark _))
      (pss_one (ps_ret (pe_op op_add (pe_op op_mul pe_int (pv 1)) pe_int)))
      pss_nil)
      (pss_one (ps_ret (pe_op op_add (pe_op op_mod (pe_ix ix_list (pv 0) (pe_op op_mod (pv 1) (pe_callB call_len_seq (by rfl) T.m_len PySem.boot_len (pa_cons (pv 0) pa_nil))) (fun _ _ => rfl)) pe_int) (pe_op op_mul pe_int (pv 1))))))), ?_⟩
    refine ⟨_, rfl, _, rfl, l, _, rfl, .inl hS, _, _, rfl, rfl, _, rfl, iteD (fun c => ?_) (fun c => ?_)⟩
    · rw [hlen] at c
      refine ⟨_, rfl, _, rfl, l, _, _, _, rfl, rfl, hS, getD_at (show j < ns.length by omega), ?_⟩
      have e : cellV ns j = ns.getD j 0 := if_pos (by omega)
      rw [e] at k
      exact k
    · rw [hlen] at c
      refine ⟨_, rfl, l, _, rfl, .inl hS, rfl, _, rfl, iteD (fun c2 => ?_) (fun c2 => ?_)⟩
      · have c3 : (ns.length : Int) = 0 := by
          have z := V.int.inj c2
          rw [hlen] at z
          exact z
        have e : cellV ns j = 29 * (j : Int) + 5 := by
          unfold cellV
          rw [if_neg (by omega), if_pos (by omega)]
        rw [e] at k
        exact ⟨_, rfl, _, _, rfl, rfl, .inl ⟨by decide, by decide⟩, _, _, rfl, rfl, k⟩
      · have c3 : ns.length ≠ 0 := fun z => c2 (by rw [hlen, z]; rfl)
        have hm : j % ns.length < ns.length := Nat.mod_lt _ (by omega)
        have e : cellV ns j = ns.getD (j % ns.length) 0 % 1000003 + 103 * (j : Int) := by
          unfold cellV
          rw [if_neg (by omega), if_neg c3]
        rw [e] at k
        have ea : atI (ns.map V.int) ((j : Int) % ((ns.map V.int).length : Int)) = some (.int (ns.getD (j % ns.length) 0)) := by
          rw [hlen, ← Int.natCast_emod]
          exact getD_at hm
        exact ⟨_, rfl, _, rfl, _, rfl, l, _, rfl, .inl hS, _, _, rfl, rfl, (by show (0 : Int) < ((ns.map V.int).length : Int); rw [hlen]; omega), l, _, _, _, rfl, rfl, hS, ea, _, _, rfl, rfl, (by show (0 : Int) < 1000003; decide), _, rfl, _, _, rfl, rfl, .inl ⟨by decide, by decide⟩, _, _, rfl, rfl, k⟩
/-! ### _law_like of one datum with itself -/
inductive Dn : Nat → PyData → Prop
  | non (n : Nat) : Dn (n + 1) .none
  | bl (n : Nat) (b : Bool) : Dn (n + 1) (.bool b)
  | int (n : Nat) (i : Int) : Dn (n + 1) (.int i)
  | str (n : Nat) (x : Str) : Dn (n + 1) (.str x)
  | lst {n : Nat} {ds : List PyData} : (∀ d ∈ ds, Dn n d) → ds.length ≤ 10000 → Dn (n + 1) (.list ds)
  | tup {n : Nat} {ds : List PyData} : (∀ d ∈ ds, Dn n d) → ds.length ≤ 10000 → Dn (n + 1) (.tuple ds)
def tyN : PyData → String
  | .none => "NoneType" | .bool _ => "bool" | .int _ => "int" | .str _ => "str" | .list _ => "list" | .tuple _ => "tuple" | .dict _ => "dict"
theorem ty_of {K : PySem.W.Frag} {H : Hp} {v : V} {d : PyData} (h : Dp K H v d) : TyX K H v (.type (tyN d)) := by
  cases h with
  | non => exact .base .non
  | bl b => exact .base (.bl b)
  | int i => exact .base (.int i)
  | str x => exact .base (.str x)
  | lst h _ =>
    rcases h with (h | ⟨o, h⟩) | ⟨o, its, n, e, c, _⟩
    · exact .base (.lst h)
    · exact .base (.frz h)
    · exact .kList e c
  | tup h _ =>
    rcases h with (h | ⟨o, h⟩) | ⟨o, its, n, e, c, _⟩
    · exact .base (.tup h)
    · exact .fTuple h
    · exact .kTuple e c
def sp_l_like (K : PySem.W.Frag) (n : Nat) : Sp := fun vs H Q _ => ∃ (u v : V) (d : PyData), vs = [u, v] ∧ Dp K H u d ∧ Dp K H v d ∧ Dn n d ∧ ∀ H', Kp H H' → Q (.bl true) H'
theorem fn_none {P : Program} {w : World} {K : PySem.W.Frag} {mg : Str → Option Value} {base : Heap} {f : Addr} {fd : FuncData} {ps : List Str} {sp : Sp} {k : Nat} (h : ∀ vs H Q E, ¬ sp vs H Q E) : FnOk P w K mg base CX0 k f fd ps sp :=
  ⟨fun vs H Q E q => (h vs H Q E q).elim, fun _ _ _ H _ _ vs Q E _ _ _ _ q => (h vs H Q E q).elim⟩
theorem bl_all {n : Nat} : ((List.replicate n true).map V.bl) = List.replicate n (V.bl true) := List.map_replicate
theorem all_rep (n : Nat) : (List.replicate n true).all id = true := by
  rw [List.all_eq_true]
  intro x hx
  rw [List.eq_of_mem_replicate hx]
  rfl
theorem k_bb : kitB "bool" "bool" = some true := by decide +kernel
theorem k_bi : kitB "bool" "int" = some true := by decide +kernel
theorem k_bs : kitB "bool" "str" = some false := by decide +kernel
theorem k_bl : kitB "bool" "list" = some false := by decide +kernel
theorem k_bt : kitB "bool" "tuple" = some false := by decide +kernel
theorem k_ib : kitB "int" "bool" = some false := by decide +kernel
theorem k_ii : kitB "int" "int" = some true := by decide +kernel
theorem k_is : kitB "int" "str" = some false := by decide +kernel
theorem k_il : kitB "int" "list" = some false := by decide +kernel
theorem k_it : kitB "int" "tuple" = some false := by decide +kernel
theorem k_sb : kitB "str" "bool" = some false := by decide +kernel
theorem k_si : kitB "str" "int" = some false := by decide +kernel
theorem k_ss : kitB "str" "str" = some true := by decide +kernel
theorem k_sl : kitB "str" "list" = some false := by decide +kernel
theorem k_st : kitB "str" "tuple" = some false := by decide +kernel
theorem k_lb : kitB "list" "bool" = some false := by decide +kernel
theorem k_li : kitB "list" "int" = some false := by decide +kernel
theorem k_ls : kitB "list" "str" = some false := by decide +kernel
theorem k_ll : kitB "list" "list" = some true := by decide +kernel
theorem k_lt : kitB "list" "tuple" = some false := by decide +kernel
theorem k_tb : kitB "tuple" "bool" = some false := by decide +kernel
theorem k_ti : kitB "tuple" "int" = some false := by decide +kernel
theorem k_ts : kitB "tuple" "str" = some false := by decide +kernel
theorem k_tl : kitB "tuple" "list" = some false := by decide +kernel
theorem k_tt : kitB "tuple" "tuple" = some true := by decide +kernel
theorem dec_self {x : V} : decide (x = x) = true := decide_eq_true rfl
theorem ok_l_like (T : Txt K mg) : ∀ n : Nat, FnOk P w K mg base CX0 n T.f_l_like T.d_l_like ["_law_found", "_law_due_here"] (sp_l_like K n)
  | 0 => fn_none fun vs H Q E ⟨u, v, d, _, _, _, h, _⟩ => nomatch h
  | n + 1 => by
    have IH := ok_l_like T n
    refine T.F_l_like.ok sc_l_like (fun vs H Q E h => ?_) (fun cdv A outer s H vs Q E hr h => ?_)
    · obtain ⟨u, v, d, rfl, _⟩ := h
      rfl
    · obtain ⟨u, v, d, rfl, hu, hv, hn, k⟩ := h
      have tu := ty_of hu
      have tv := ty_of hv
      refine ⟨_, (pss_cons (ps_if (pt_cmpR op_isN (pv 1) pe_non (nomark _))
      (pss_one (ps_ret (pe_cmpR op_isN (pv 0) pe_non (nomark _))))
      pss_nil)
      (pss_cons (ps_if (pt_val (pe_callB call_isi (by rfl) T.m_isinstance (by decide +kernel) (pa_cons (pv 1) (pa_cons (pe_bltn (v := .ty "bool") (by rfl) T.m_bool (by decide +kernel) rfl) pa_nil))))
      (pss_one (ps_ret (pe_and (pe_callB call_isi (by rfl) T.m_isinstance (by decide +kernel) (pa_cons (pv 0) (pa_cons (pe_bltn (v := .ty "bool") (by rfl) T.m_bool (by decide +kernel) rfl) pa_nil))) (pe_one (pe_cmpR op_eq (pv 0) (pv 1) (nomark _))))))
      pss_nil)
      (pss_cons (ps_if (pt_val (pe_callB call_isi (by rfl) T.m_isinstance (by decide +kernel) (pa_cons (pv 1) (pa_cons (pe_bltn (v := .ty "int") (by rfl) T.m_int (by decide +kernel) rfl) pa_nil))))
      (pss_one (ps_ret (pe_and (pe_callB call_isi (by rfl) T.m_isinstance (by decide +kernel) (pa_cons (pv 0) (pa_cons (pe_bltn (v := .ty "int") (by rfl) T.m_int (by decide +kernel) rfl) pa_nil))) (pe_and (pe_not (pe_callB call_isi (by rfl) T.m_isinstance (by decide +kernel) (pa_cons (pv 0) (pa_cons (pe_bltn (v := .ty "bool") (by rfl) T.m_bool (by decide +kernel) rfl) pa_nil)))) (pe_one (pe_cmpR op_eq (pv 0) (pv 1) (nomark _)))))))
      pss_nil)
      (pss_cons (ps_if (pt_val (pe_callB call_isi (by rfl) T.m_isinstance (by decide +kernel) (pa_cons (pv 1) (pa_cons (pe_bltn (v := .ty "str") (by rfl) T.m_str (by decide +kernel) rfl) pa_nil))))
      (pss_one (ps_ret (pe_and (pe_callB call_isi (by rfl) T.m_isinstance (by decide +kernel) (pa_cons (pv 0) (pa_cons (pe_bltn (v := .ty "str") (by rfl) T.m_str (by decide +kernel) rfl) pa_nil))) (pe_one (pe_cmpR op_eq (pv 0) (pv 1) (nomark _))))))
      pss_nil)
      (pss_cons (ps_if (PW.pt (pw_or (pt_cmpR op_ne (pe_callB call_isi (by rfl) T.m_isinstance (by decide +kernel) (pa_cons (pv 1) (pa_cons (pe_bltn (v := .ty "list") (by rfl) T.m_list (by decide +kernel) rfl) pa_nil))) (pe_callB call_isi (by rfl) T.m_isinstance (by decide +kernel) (pa_cons (pv 0) (pa_cons (pe_bltn (v := .ty "list") (by rfl) T.m_list (by decide +kernel) rfl) pa_nil))) (nomark _)) (pw_or1 (pt_cmpR op_ne (pe_callB call_isi (by rfl) T.m_isinstance (by decide +kernel) (pa_cons (pv 1) (pa_cons (pe_bltn (v := .ty "tuple") (by rfl) T.m_tuple (by decide +kernel) rfl) pa_nil))) (pe_callB call_isi (by rfl) T.m_isinstance (by decide +kernel) (pa_cons (pv 0) (pa_cons (pe_bltn (v := .ty "tuple") (by rfl) T.m_tuple (by decide +kernel) rfl) pa_nil))) (nomark _)))))
      (pss_one (ps_ret pe_bl))
      pss_nil)
      (pss_one (ps_ret (pe_and (pe_cmpR op_eq (pe_callB call_len (by rfl) T.m_len PySem.boot_len (pa_cons (pv 0) pa_nil)) (pe_callB call_len (by rfl) T.m_len PySem.boot_len (pa_cons (pv 1) pa_nil)) (nomark _)) (pe_one (pe_callB (cr_all rfl) (by rfl) T.m_all (by decide +kernel) (pa_cons (pe_lc (own := [("_law_k", 2)]) (g := gName 2) (tt := tYes) (by rfl) sc_l_like.nd (pi_range1 (by rfl) T.m_range (pa_cons (pe_callB call_len (by rfl) T.m_len PySem.boot_len (pa_cons (pv 1) pa_nil)) pa_nil)) (blkOk_by (own := [("_law_k", 2)]) (N := ["_law_found", "_law_due_here", "_law_k"]) (sc := defScope s_l_like) (by decide +kernel)) (fun _ _ _ _ _ => (pg_name (i := 2) sc_l_like.nd rfl (by first | exact Or.inl rfl | exact Or.inr rfl))) (fun _ _ _ _ _ => pts_nil) (fun _ _ _ _ _ => (pe_call IH hr rfl T.g_l_like T.F_l_like.kp T.b_l_like .nil pass0 (pa_cons (pe_ix (ix_seqK K rfl) (pv 0) (pv 2) (fun _ _ => rfl)) (pa_cons (pe_ix (ix_seqK K rfl) (pv 1) (pv 2) (fun _ _ => rfl)) pa_nil))))) pa_nil))))))))))), ?_⟩
      cases hn with
      | non n =>
        cases hu
        cases hv
        refine ⟨_, rfl, rfl, _, rfl, iteTo dec_self ?_⟩
        exact ⟨_, rfl, rfl, k _ (.refl _)⟩
      | bl n b =>
        cases hu
        cases hv
        refine ⟨_, rfl, rfl, _, rfl, iteFo rfl ?_⟩
        refine ⟨_, rfl, _, _, _, _, true, rfl, .ty _, tv, kit_ty k_bb, _, rfl, iteTo rfl ?_⟩
        refine ⟨_, rfl, _, _, _, _, true, rfl, .ty _, tu, kit_ty k_bb, _, rfl, iteTo rfl ?_⟩
        refine ⟨_, rfl, _, rfl, rfl, ?_⟩
        rw [dec_self]
        exact k _ (.refl _)
      | int n i =>
        cases hu
        cases hv
        refine ⟨_, rfl, rfl, _, rfl, iteFo rfl ?_⟩
        refine ⟨_, rfl, _, _, _, _, false, rfl, .ty _, tv, kit_ty k_ib, _, rfl, iteFo rfl ?_⟩
        refine ⟨_, rfl, _, _, _, _, true, rfl, .ty _, tv, kit_ty k_ii, _, rfl, iteTo rfl ?_⟩
        refine ⟨_, rfl, _, _, _, _, true, rfl, .ty _, tu, kit_ty k_ii, _, rfl, iteTo rfl ?_⟩
        refine ⟨_, rfl, _, _, _, _, false, rfl, .ty _, tu, kit_ty k_ib, _, rfl, _, rfl, iteTo rfl ?_⟩
        refine ⟨_, rfl, _, rfl, rfl, ?_⟩
        rw [dec_self]
        exact k _ (.refl _)
      | str n x =>
        cases hu
        cases hv
        refine ⟨_, rfl, rfl, _, rfl, iteFo rfl ?_⟩
        refine ⟨_, rfl, _, _, _, _, false, rfl, .ty _, tv, kit_ty k_sb, _, rfl, iteFo rfl ?_⟩
        refine ⟨_, rfl, _, _, _, _, false, rfl, .ty _, tv, kit_ty k_si, _, rfl, iteFo rfl ?_⟩
        refine ⟨_, rfl, _, _, _, _, true, rfl, .ty _, tv, kit_ty k_ss, _, rfl, iteTo rfl ?_⟩
        refine ⟨_, rfl, _, _, _, _, true, rfl, .ty _, tu, kit_ty k_ss, _, rfl, iteTo rfl ?_⟩
        refine ⟨_, rfl, _, rfl, rfl, ?_⟩
        rw [dec_self]
        exact k _ (.refl _)
      | lst hd hl =>
        rename_i ds
        cases hu with | lst hsu hau =>
        cases hv with | lst hsv hav =>
        rename_i a xs b ys
        have lx := DpAll.len hau
        have ly := DpAll.len hav
        refine ⟨_, rfl, rfl, _, rfl, iteFo rfl ?_⟩
        refine ⟨_, rfl, _, _, _, _, false, rfl, .ty _, tv, kit_ty k_lb, _, rfl, iteFo rfl ?_⟩
        refine ⟨_, rfl, _, _, _, _, false, rfl, .ty _, tv, kit_ty k_li, _, rfl, iteFo rfl ?_⟩
        refine ⟨_, rfl, _, _, _, _, false, rfl, .ty _, tv, kit_ty k_ls, _, rfl, iteFo rfl ?_⟩
        refine ⟨_, rfl, _, _, _, _, true, rfl, .ty _, tv, kit_ty k_ll, _, rfl, _, _, _, _, true, rfl, .ty _, tu, kit_ty k_ll, rfl, _, rfl, iteFo rfl ?_⟩
        refine ⟨_, rfl, _, _, _, _, false, rfl, .ty _, tv, kit_ty k_lt, _, rfl, _, _, _, _, false, rfl, .ty _, tu, kit_ty k_lt, rfl, _, rfl, iteFo rfl ?_⟩
        refine ⟨_, rfl, _, _, rfl, .inl ⟨_, hsu, rfl⟩, _, rfl, _, _, rfl, .inl ⟨_, hsv, rfl⟩, rfl, _, rfl, iteTo (decide_eq_true (congrArg (fun z : Nat => V.int (z : Int)) (lx.trans ly.symm))) ?_⟩
        refine ⟨_, rfl, _, _, rfl, .inl ⟨_, hsv, rfl⟩, _, rfl, by omega, by omega, fun D hD => ?_⟩
        rw [Int.toNat_natCast]
        refine lc_range (lo := 0) (n := ys.length) (fun i H' => Kp H H' ∧ H' D = some (.lst (List.replicate i (V.bl true)))) ⟨Kp.new hD, upd_same⟩ (fun i H' hi ⟨kp, hDl⟩ => ?_) (fun H' ⟨kp, hDl⟩ => ?_)
        · have e0 : (0 : Int) + (i : Int) = (i : Int) := Int.zero_add _
          obtain ⟨d, hdi⟩ : ∃ d, ds[i]? = some d := ⟨_, List.getElem?_eq_getElem (by omega)⟩
          obtain ⟨x, hx, dx⟩ := DpAll.get hau hdi
          obtain ⟨y, hy, dy⟩ := DpAll.get hav hdi
          refine ⟨rfl, ?_⟩
          refine ⟨_, rfl, _, rfl, .inl ⟨_, _, _, x, rfl, rfl, kp.sqL hsu, by rw [e0]; exact atI_nat hx, _, rfl, _, rfl, .inl ⟨_, _, _, y, rfl, rfl, kp.sqL hsv, by rw [e0]; exact atI_nat hy, ?_⟩⟩⟩
          refine ⟨x, y, d, rfl, kp.dp dx, kp.dp dy, hd d (List.mem_of_getElem? hdi), fun H2 k2 => ⟨_, k2.same _ _ rfl hDl, szt (by rw [List.length_replicate]; omega), ?_⟩⟩
          exact ⟨(kp.trans k2).mut hD, by rw [upd_same, List.replicate_succ']⟩
        · refine ⟨D, List.replicate ys.length true, rfl, .inl (.inl (by rw [bl_all]; exact hDl)), ?_⟩
          rw [all_rep]
          exact k _ kp
      | tup hd hl =>
        rename_i ds
        cases hu with | tup hsu hau =>
        cases hv with | tup hsv hav =>
        rename_i a xs b ys
        have lx := DpAll.len hau
        have ly := DpAll.len hav
        refine ⟨_, rfl, rfl, _, rfl, iteFo rfl ?_⟩
        refine ⟨_, rfl, _, _, _, _, false, rfl, .ty _, tv, kit_ty k_tb, _, rfl, iteFo rfl ?_⟩
        refine ⟨_, rfl, _, _, _, _, false, rfl, .ty _, tv, kit_ty k_ti, _, rfl, iteFo rfl ?_⟩
        refine ⟨_, rfl, _, _, _, _, false, rfl, .ty _, tv, kit_ty k_ts, _, rfl, iteFo rfl ?_⟩
        refine ⟨_, rfl, _, _, _, _, false, rfl, .ty _, tv, kit_ty k_tl, _, rfl, _, _, _, _, false, rfl, .ty _, tu, kit_ty k_tl, rfl, _, rfl, iteFo rfl ?_⟩
        refine ⟨_, rfl, _, _, _, _, true, rfl, .ty _, tv, kit_ty k_tt, _, rfl, _, _, _, _, true, rfl, .ty _, tu, kit_ty k_tt, rfl, _, rfl, iteFo rfl ?_⟩
        refine ⟨_, rfl, _, _, rfl, .inr ⟨_, hsu, rfl⟩, _, rfl, _, _, rfl, .inr ⟨_, hsv, rfl⟩, rfl, _, rfl, iteTo (decide_eq_true (congrArg (fun z : Nat => V.int (z : Int)) (lx.trans ly.symm))) ?_⟩
        refine ⟨_, rfl, _, _, rfl, .inr ⟨_, hsv, rfl⟩, _, rfl, by omega, by omega, fun D hD => ?_⟩
        rw [Int.toNat_natCast]
        refine lc_range (lo := 0) (n := ys.length) (fun i H' => Kp H H' ∧ H' D = some (.lst (List.replicate i (V.bl true)))) ⟨Kp.new hD, upd_same⟩ (fun i H' hi ⟨kp, hDl⟩ => ?_) (fun H' ⟨kp, hDl⟩ => ?_)
        · have e0 : (0 : Int) + (i : Int) = (i : Int) := Int.zero_add _
          obtain ⟨d, hdi⟩ : ∃ d, ds[i]? = some d := ⟨_, List.getElem?_eq_getElem (by omega)⟩
          obtain ⟨x, hx, dx⟩ := DpAll.get hau hdi
          obtain ⟨y, hy, dy⟩ := DpAll.get hav hdi
          refine ⟨rfl, ?_⟩
          refine ⟨_, rfl, _, rfl, .inr (.inl ⟨_, _, _, x, rfl, rfl, kp.sqT hsu, by rw [e0]; exact atI_nat hx, _, rfl, _, rfl, .inr (.inl ⟨_, _, _, y, rfl, rfl, kp.sqT hsv, by rw [e0]; exact atI_nat hy, ?_⟩)⟩)⟩
          refine ⟨x, y, d, rfl, kp.dp dx, kp.dp dy, hd d (List.mem_of_getElem? hdi), fun H2 k2 => ⟨_, k2.same _ _ rfl hDl, szt (by rw [List.length_replicate]; omega), ?_⟩⟩
          exact ⟨(kp.trans k2).mut hD, by rw [upd_same, List.replicate_succ']⟩
        · refine ⟨D, List.replicate ys.length true, rfl, .inl (.inl (by rw [bl_all]; exact hDl)), ?_⟩
          rw [all_rep]
          exact k _ kp
/-! ### _law_row: so many ints from nought to below a size -/
def Drawn0 (many size : Int) (xs : List Int) : Prop := (xs.length : Int) = many ∧ ∀ x ∈ xs, 0 ≤ x ∧ x < size
def sp_l_row : Sp := fun vs H Q _ => ∃ (c many size : Int), vs = [.int c, .int many, .int size] ∧ 0 ≤ many ∧ many ≤ 1000 ∧ 0 < size ∧ size < 1073741824 ∧
  ∀ (xs : List Int) (p : Addr) (H' : Hp), H p = none → Kp H H' → H' p = some (.lst (xs.map V.int)) → Drawn0 many size xs → Q (.ref p) H'
theorem snoc_in {size z : Int} {xs : List Int} (hs : 0 < size) (h : ∀ x ∈ xs, 0 ≤ x ∧ x < size) : ∀ x ∈ xs ++ [z % size], 0 ≤ x ∧ x < size := by
  intro x hx
  rcases List.mem_append.mp hx with hx | hx
  · exact h x hx
  · rw [List.mem_singleton.mp hx]
    exact ⟨Int.emod_nonneg _ (by omega), Int.emod_lt_of_pos _ hs⟩
theorem ok_l_row (T : Txt K mg) : FnOk P w K mg base CX0 1 T.f_l_row T.d_l_row ["_law_cell_here", "_law_many", "_law_size"] sp_l_row := by
  refine T.F_l_row.ok sc_l_row (fun vs H Q E h => ?_) (fun cdv A outer s H vs Q E hr h => ?_)
  · obtain ⟨c, many, size, rfl, _⟩ := h
    rfl
  · obtain ⟨c, many, size, rfl, hm0, hm1, hs0, hs1, k⟩ := h
    refine ⟨_, (pss_cons (ps_set (i := 3) sc_l_row.nd rfl (by first | exact Or.inl rfl | exact Or.inr rfl) (pe_lst pa_nil))
      (pss_cons (ps_if (pt_cmpR op_ge (pv 0) (pe_op op_pow pe_int pe_int) (nomark _))
      (pss_cons (ps_set (i := 4) sc_l_row.nd rfl (by first | exact Or.inl rfl | exact Or.inr rfl) (pe_op op_sub (pv 0) (pe_op op_pow pe_int pe_int)))
      (pss_cons (ps_for PassesOwn.never rfl (pi_range1 (by rfl) T.m_range (pa_cons (pv 1) pa_nil)) (pg_name (i := 5) sc_l_row.nd rfl (by first | exact Or.inl rfl | exact Or.inr rfl))
      (pss_cons (ps_expr (pe_bm PySem.F.plainAttrs_list PySem.F.slot_list_append PySem.F.type_list_append mt_append (pv 3) (pa_cons (pe_op op_mod (pv 4) (pv 2)) pa_nil)))
      (pss_one (ps_set (i := 4) sc_l_row.nd rfl (by first | exact Or.inl rfl | exact Or.inr rfl) (pe_op op_fdiv (pv 4) (pv 2))))))
      (pss_one (ps_ret (pv 3)))))
      pss_nil)
      (pss_cons (ps_set (i := 6) sc_l_row.nd rfl (by first | exact Or.inl rfl | exact Or.inr rfl) (pe_op op_mod (pv 0) pe_int))
      (pss_cons (ps_for PassesOwn.never rfl (pi_range1 (by rfl) T.m_range (pa_cons (pv 1) pa_nil)) (pg_name (i := 5) sc_l_row.nd rfl (by first | exact Or.inl rfl | exact Or.inr rfl))
      (pss_cons (ps_set (i := 6) sc_l_row.nd rfl (by first | exact Or.inl rfl | exact Or.inr rfl) (pe_op op_mod (pe_op op_add (pe_op op_add (pe_op op_mul (pv 6) pe_int) pe_int) (pv 5)) pe_int))
      (pss_cons (ps_set (i := 7) sc_l_row.nd rfl (by first | exact Or.inl rfl | exact Or.inr rfl) (pe_op op_mod (pe_op op_fdiv (pe_op op_mul (pv 6) (pe_op op_add (pe_op op_mod (pv 6) pe_int) pe_int)) pe_int) pe_int))
      (pss_one (ps_expr (pe_bm PySem.F.plainAttrs_list PySem.F.slot_list_append PySem.F.type_list_append mt_append (pv 3) (pa_cons (pe_op op_mod (pv 7) (pv 2)) pa_nil)))))))
      (pss_one (ps_ret (pv 3))))))), ?_⟩
    refine ⟨Nat.zero_le _, fun p np => ?_⟩
    generalize h_H1 : upd H p _ = H1
    have k_H1 : Kp H H1 := by rw [← h_H1]; exact .new np
    have q_H1 := (congrFun h_H1 p).symm.trans upd_same
    clear h_H1
    refine ⟨_, rfl, _, _, rfl, rfl, ⟨by decide, by decide, by decide⟩, _, _, rfl, rfl, _, rfl, iteD (fun c1 => ?_) (fun c1 => ?_)⟩
    · refine ⟨_, rfl, _, _, rfl, rfl, ⟨by decide, by decide, by decide⟩, _, _, rfl, rfl, ?_⟩
      refine ⟨_, rfl, many, rfl, by omega, by omega, ?_⟩
      refine for_range (lo := 0) (n := many.toNat) (fun i σ H' => ∃ (xs : List Int) (r : Int) (y : Option V), σ = [some (.int c), some (.int many), some (.int size), some (.ref p), some (.int r), y, none, none] ∧ Kp H H' ∧ H' p = some (.lst (xs.map V.int)) ∧ xs.length = i ∧ ∀ x ∈ xs, 0 ≤ x ∧ x < size)
        ⟨[], _, none, rfl, k_H1, q_H1, rfl, by simp⟩ ?_ ?_
      · rintro i σ H' hi ⟨xs, r, y, rfl, kp, hp, hl, hb⟩
        refine ⟨_, rfl, .inl ⟨rfl, _, SqL.of hp⟩, _, rfl, _, rfl, _, _, rfl, rfl, hs0, p, _, _, rfl, rfl, hp, szt (by rw [List.length_map]; omega), ?_⟩
        refine ⟨_, rfl, _, rfl, _, _, rfl, rfl, ⟨hs0, hs1⟩, ?_⟩
        refine ⟨xs ++ [r % size], _, _, rfl, kp.mut np, ?_, by rw [List.length_append, hl]; rfl, snoc_in hs0 hb⟩
        rw [upd_same, List.map_append]
        rfl
      · rintro σ H' ⟨xs, r, y, rfl, kp, hp, hl, hb⟩
        exact ⟨_, rfl, k xs p H' np kp hp ⟨by omega, hb⟩⟩
    · refine ⟨_, rfl, _, _, rfl, rfl, (by show (0 : Int) < 2147483647; decide), ?_⟩
      refine ⟨_, rfl, many, rfl, by omega, by omega, ?_⟩
      refine for_range (lo := 0) (n := many.toNat) (fun i σ H' => ∃ (xs : List Int) (r : Int) (y y2 : Option V), σ = [some (.int c), some (.int many), some (.int size), some (.ref p), none, y, some (.int r), y2] ∧ Kp H H' ∧ H' p = some (.lst (xs.map V.int)) ∧ xs.length = i ∧ ∀ x ∈ xs, 0 ≤ x ∧ x < size)
        ⟨[], _, none, none, rfl, k_H1, q_H1, rfl, by simp⟩ ?_ ?_
      · rintro i σ H' hi ⟨xs, r, y, y2, rfl, kp, hp, hl, hb⟩
        refine ⟨_, rfl, _, _, rfl, rfl, .inr ⟨by decide, by decide⟩, _, _, rfl, rfl, _, rfl, _, _, rfl, rfl, _, _, rfl, rfl, (by show (0 : Int) < 2147483647; decide), ?_⟩
        generalize hr2 : (fun (i j : Int) => V.int (i % j)) _ _ = sv
        obtain ⟨r2, rfl⟩ : ∃ r2 : Int, sv = .int r2 := ⟨_, hr2.symm⟩
        clear hr2
        have b0 : 0 ≤ r2 % 65521 := Int.emod_nonneg _ (by decide)
        have b1 : r2 % 65521 < 65521 := Int.emod_lt_of_pos _ (by decide)
        refine ⟨_, rfl, _, rfl, _, _, rfl, rfl, (by show (0 : Int) < 65521; decide), _, _, rfl, rfl, _, _, rfl, rfl, .inr ⟨by omega, by omega⟩, _, _, rfl, rfl, ⟨by decide, by decide⟩, _, _, rfl, rfl, (by show (0 : Int) < 1000003; decide), ?_⟩
        refine ⟨_, rfl, .inl ⟨rfl, _, SqL.of hp⟩, _, rfl, _, rfl, _, _, rfl, rfl, hs0, p, _, _, rfl, rfl, hp, szt (by rw [List.length_map]; omega), ?_⟩
        refine ⟨xs ++ [r2 * (r2 % 65521 + 3) / 1009 % 1000003 % size], r2, _, _, rfl, kp.mut np, ?_, by rw [List.length_append, hl]; rfl, snoc_in hs0 hb⟩
        rw [upd_same, List.map_append]
        rfl
      · rintro σ H' ⟨xs, r, y, y2, rfl, kp, hp, hl, hb⟩
        exact ⟨_, rfl, k xs p H' np kp hp ⟨by omega, hb⟩⟩
/-! ### data of few levels can be compared -/
theorem lay_all {ds : List PyData} (h : ∀ d ∈ ds, PyData.canLay0 d = true) : PyData.canLayAll0 ds = true := by
  induction ds with
  | nil => simp [PyData.canLayAll0]
  | cons d r ih => simp [PyData.canLayAll0, h d List.mem_cons_self, ih fun x hx => h x (List.mem_cons_of_mem _ hx)]
theorem dep_all {ds : List PyData} {n : Nat} (h : ∀ d ∈ ds, PyData.depth d ≤ n) : PyData.depthAll ds ≤ n := by
  induction ds with
  | nil => simp [PyData.depthAll]
  | cons d r ih =>
    have h1 := h d List.mem_cons_self
    have h2 := ih fun x hx => h x (List.mem_cons_of_mem _ hx)
    simp only [PyData.depthAll]
    omega
/-- the same without texts -/
inductive Dm : Nat → PyData → Prop
  | non (n : Nat) : Dm (n + 1) .none
  | bl (n : Nat) (b : Bool) : Dm (n + 1) (.bool b)
  | int (n : Nat) (i : Int) : Dm (n + 1) (.int i)
  | lst {n : Nat} {ds : List PyData} : (∀ d ∈ ds, Dm n d) → ds.length ≤ 10000 → Dm (n + 1) (.list ds)
  | tup {n : Nat} {ds : List PyData} : (∀ d ∈ ds, Dm n d) → ds.length ≤ 10000 → Dm (n + 1) (.tuple ds)
theorem Dm.dn {n : Nat} {d : PyData} (h : Dm n d) : Dn n d := by
  induction h with
  | non n => exact .non _
  | bl n b => exact .bl _ _
  | int n i => exact .int _ _
  | lst h1 h2 ih => exact .lst ih h2
  | tup h1 h2 ih => exact .tup ih h2
theorem Dm.lay {n : Nat} {d : PyData} (h : Dm n d) : PyData.canLay0 d = true ∧ PyData.depth d ≤ n := by
  induction h with
  | non n => exact ⟨by simp [PyData.canLay0], by simp [PyData.depth]⟩
  | bl n b => exact ⟨by simp [PyData.canLay0], by simp [PyData.depth]⟩
  | int n i => exact ⟨by simp [PyData.canLay0], by simp [PyData.depth]⟩
  | lst h1 h2 ih =>
    refine ⟨by simp only [PyData.canLay0]; exact lay_all fun d hd => (ih d hd).1, ?_⟩
    have := dep_all fun d hd => (ih d hd).2
    simp only [PyData.depth]
    omega
  | tup h1 h2 ih =>
    refine ⟨by simp only [PyData.canLay0]; exact lay_all fun d hd => (ih d hd).1, ?_⟩
    have := dep_all fun d hd => (ih d hd).2
    simp only [PyData.depth]
    omega
theorem Dm.shaped {n : Nat} {d : PyData} (h : Dm n d) (hn : n ≤ 64) : SeqAt.shaped d = true := by
  have ⟨h1, h2⟩ := h.lay
  show (PyData.canLay0 d && decide (PyData.depth d ≤ 64)) = true
  rw [h1, decide_eq_true (by omega)]
  rfl
theorem Dm.same {n : Nat} {d : PyData} (h : Dm n d) (hn : n ≤ 64) : PyData.eqv d d = true := SeqAt.eqv_refl _ (SeqAt.canLay_of_shaped (h.shaped hn))
theorem dm_dI {n : Nat} {ns : List Int} (h : ns.length ≤ 10000) : Dm (n + 2) (dI ns) := .lst (fun d hd => by obtain ⟨z, _, rfl⟩ := List.mem_map.mp hd; exact .int _ _) (by rw [List.length_map]; exact h)
/-! ### places that a test picks -/
def fil (f : Nat → Bool) (n : Nat) : List Int := ((List.range n).filter f).map (fun (x : Nat) => (x : Int))
theorem fil_yes {f : Nat → Bool} {n : Nat} (h : f n = true) : fil f (n + 1) = fil f n ++ [(n : Int)] := by
  unfold fil
  rw [List.range_succ, List.filter_append, List.map_append]
  simp [h]
theorem fil_no {f : Nat → Bool} {n : Nat} (h : f n = false) : fil f (n + 1) = fil f n := by
  unfold fil
  rw [List.range_succ, List.filter_append, List.map_append]
  simp [h]
theorem fil_len (f : Nat → Bool) (n : Nat) : (fil f n).length ≤ n := by
  unfold fil
  rw [List.length_map]
  exact Nat.le_trans (List.length_filter_le _ _) (by rw [List.length_range]; exact Nat.le_refl _)
theorem fil_mem {f : Nat → Bool} {n : Nat} {x : Int} : x ∈ fil f n ↔ ∃ p : Nat, x = (p : Int) ∧ p < n ∧ f p = true := by
  unfold fil
  simp only [List.mem_map, List.mem_filter, List.mem_range]
  constructor
  · rintro ⟨p, ⟨h1, h2⟩, rfl⟩
    exact ⟨p, rfl, h1, h2⟩
  · rintro ⟨p, rfl, h1, h2⟩
    exact ⟨p, ⟨h1, h2⟩, rfl⟩
/-! ### _law_values: rows of one sign, some lost -/
def oI : Option Int → V
  | none => .non
  | some z => .int z
def dO : Option Int → PyData
  | none => .none
  | some z => .int z
def dOs (vs : List (Option Int)) : PyData := .list (vs.map dO)
theorem dp_oI {K : PySem.W.Frag} {H : Hp} : ∀ vs : List (Option Int), DpAll K H (vs.map oI) (vs.map dO)
  | [] => .nil
  | none :: r => .cons .non (dp_oI r)
  | some z :: r => .cons (.int z) (dp_oI r)
theorem dp_dOs {K : PySem.W.Frag} {H : Hp} {a : Addr} {vs : List (Option Int)} (h : SqL K H a (vs.map oI)) : Dp K H (.ref a) (dOs vs) := .lst h (dp_oI vs)
theorem dm_dOs {n : Nat} {vs : List (Option Int)} (h : vs.length ≤ 10000) : Dm (n + 2) (dOs vs) := .lst (fun d hd => by
  obtain ⟨z, _, rfl⟩ := List.mem_map.mp hd
  cases z
  · exact .non _
  · exact .int _ _) (by rw [List.length_map]; exact h)
theorem some_oI (zs : List Int) : (zs.map some).map oI = zs.map V.int := by
  rw [List.map_map]
  rfl
theorem last_int {zs : List Int} (h : zs ≠ []) : atI (zs.map V.int) (-1) = some (.int (zs.getLast h)) := by
  have e := List.dropLast_concat_getLast h
  have z := atI_last (zs.dropLast.map V.int) (V.int (zs.getLast h))
  rw [← z]
  congr 1
  conv => lhs; rw [← e]
  rw [List.map_append]
  rfl
def sp_l_values (K : PySem.W.Frag) : Sp := fun vs H Q _ => ∃ (a : Addr) (ns : List Int) (j : Nat), vs = [.ref a, .int (j : Int), .int 12] ∧ SqL K H a (ns.map V.int) ∧ j ≤ 1000 ∧
  ∀ (os : List (Option Int)) (p : Addr) (H' : Hp), Kp H H' → H p = none → H' p = some (.lst (os.map oI)) → 2 ≤ os.length → os.length ≤ 12 → Q (.ref p) H'
theorem ok_l_values (T : Txt K mg) : FnOk P w K mg base CX0 2 T.f_l_values T.d_l_values ["_law_script", "_law_at", "_law_most"] (sp_l_values K) := by
  refine T.F_l_values.ok sc_l_values (fun vs H Q E h => ?_) (fun cdv A outer s H vs Q E hr h => ?_)
  · obtain ⟨a, ns, j, rfl, _⟩ := h
    rfl
  · obtain ⟨a, ns, j, rfl, hS, hj, k⟩ := h
    refine ⟨_, (pss_cons (ps_set (i := 3) sc_l_values.nd rfl (by first | exact Or.inl rfl | exact Or.inr rfl) (pe_call (ok_l_row T) (hr.mono (by decide)) rfl T.g_l_row T.F_l_row.kp T.b_l_row .nil pass0 (pa_cons (pe_call (ok_l_cell T) (hr.mono (by decide)) rfl T.g_l_cell T.F_l_cell.kp T.b_l_cell .nil pass0 (pa_cons (pv 0) (pa_cons (pv 1) pa_nil))) (pa_cons (pe_op op_add (pv 2) pe_int) (pa_cons (pe_op op_mul pe_int pe_int) pa_nil)))))
      (pss_cons (ps_set (i := 4) sc_l_values.nd rfl (by first | exact Or.inl rfl | exact Or.inr rfl) (pe_op op_add pe_int (pe_op op_mod (pe_ix ix_list (pv 3) pe_int (fun _ _ => rfl)) (pe_op op_sub (pv 2) pe_int))))
      (pss_cons (ps_set (i := 5) sc_l_values.nd rfl (by first | exact Or.inl rfl | exact Or.inr rfl) (pe_lst (pa_cons (pe_op op_add pe_int (pe_op op_mod (pe_ix ix_list (pv 3) pe_int (fun _ _ => rfl)) pe_int)) pa_nil)))
      (pss_cons (ps_for PassesOwn.never rfl (pi_list (pe_slice sl_list (pv 3) (po_some pe_int) (po_some (pe_op op_add pe_int (pv 4))))) (pg_name (i := 6) sc_l_values.nd rfl (by first | exact Or.inl rfl | exact Or.inr rfl))
      (pss_one (ps_if (pt_cmpR op_gt (pe_op op_mod (pe_op op_fdiv (pv 6) pe_int) pe_int) (pe_op op_mod (pe_ix ix_list (pv 3) pe_int (fun _ _ => rfl)) pe_int) (nomark _))
      (pss_one (ps_expr (pe_bm PySem.F.plainAttrs_list PySem.F.slot_list_append PySem.F.type_list_append mt_append (pv 5) (pa_cons (pe_ix ix_list (pv 5) (pe_un un_neg pe_int) (fun _ _ => rfl)) pa_nil))))
      (pss_one (ps_expr (pe_bm PySem.F.plainAttrs_list PySem.F.slot_list_append PySem.F.type_list_append mt_append (pv 5) (pa_cons (pe_op op_add pe_int (pe_op op_mod (pv 6) pe_int)) pa_nil)))))))
      (pss_cons (ps_for PassesOwn.never rfl (pi_range2 (by rfl) T.m_range (pa_cons pe_int (pa_cons (pv 4) pa_nil))) (pg_name (i := 7) sc_l_values.nd rfl (by first | exact Or.inl rfl | exact Or.inr rfl))
      (pss_one (ps_if (PW.pt (pw_and (pt_cmpR op_lt (pe_op op_mod (pe_op op_fdiv (pe_ix ix_list (pv 3) (pe_op op_sub (pe_op op_add pe_int (pv 7)) pe_int) (fun _ _ => rfl)) pe_int) pe_int) (pe_op op_mod (pe_op op_fdiv (pe_ix ix_list (pv 3) pe_int (fun _ _ => rfl)) pe_int) pe_int) (nomark _)) (pw_and1 (pt_cmpR op_lt (pv 7) (pe_op op_sub (pv 4) (pe_op op_mod (pe_op op_fdiv (pe_ix ix_list (pv 3) pe_int (fun _ _ => rfl)) pe_int) pe_int)) (nomark _)))))
      (pss_one (ps_asg pe_non (pg_sub (pv 5) (pv 7) set_list)))
      pss_nil)))
      (pss_one (ps_ret (pv 5)))))))), ?_⟩
    refine ⟨_, rfl, _, rfl, a, ns, j, rfl, hS, by omega, _, rfl, _, _, rfl, rfl, _, _, rfl, rfl, .inl ⟨by decide, by decide⟩, _, _, _, rfl, by decide, by decide, by decide, by decide, fun nums p3 H1 n3 k1 q1 ⟨hl, hb⟩ => ?_⟩
    have hl : nums.length = 15 := by
      have : (nums.length : Int) = 12 + 3 := hl
      omega
    refine ⟨_, rfl, p3, _, _, _, rfl, rfl, .inl (.inl q1), getD_at (j := 0) (by omega), _, rfl, _, _, rfl, rfl, _, _, rfl, rfl, (by show (0 : Int) < 12 - 1; decide), _, _, rfl, rfl, ?_⟩
    have m0 : 0 ≤ nums.getD 0 0 % (12 - 1) := Int.emod_nonneg _ (by decide)
    have m1 : nums.getD 0 0 % (12 - 1) < 12 - 1 := Int.emod_lt_of_pos _ (by decide)
    generalize nums.getD 0 0 % (12 - 1) = mm at m0 m1
    obtain ⟨n, hn⟩ : ∃ n : Nat, (2 : Int) + mm = (n : Int) := ⟨((2 : Int) + mm).toNat, by omega⟩
    refine ⟨_, rfl, p3, _, _, _, rfl, rfl, .inl (.inl q1), getD_at (j := 1) (by omega), _, _, rfl, rfl, (by show (0 : Int) < 94; decide), _, _, rfl, rfl, szl (by show 1 ≤ 100000; decide), fun p5 n5 => ?_⟩
    generalize h_H2 : upd H1 p5 _ = H2
    have k_H2 : Kp H1 H2 := by rw [← h_H2]; exact .new n5
    have q_H2 := (congrFun h_H2 p5).symm.trans upd_same
    clear h_H2
    have f5 := k1.free _ n5
    have ne35 : p3 ≠ p5 := ne_of_none q1 n5
    refine ⟨_, rfl, _, rfl, _, rfl, _, _, rfl, rfl, _, rfl, p3, _, rfl, .inl (.inl (k_H2.same _ _ rfl q1)), fun p6 n6 => ?_⟩
    obtain ⟨ms, em, hml⟩ : ∃ ms : List Int, cutV (nums.map V.int) (some 3) (some ((2 : Int) + (2 + mm))) = ms.map V.int ∧ ms.length + 1 = n := by
      unfold cutV
      rw [List.length_map]
      have s1 : HT.sIx nums.length 0 (some 3) = 3 := by
        have z : HT.sIx nums.length 0 (some 3) = min 3 nums.length := HT.sIx_nat nums.length 0 3
        rw [z]
        omega
      have s2 : HT.sIx nums.length nums.length (some ((2 : Int) + (2 + mm))) = n + 2 := by
        rw [show (2 : Int) + (2 + mm) = ((n + 2 : Nat) : Int) by omega, HT.sIx_nat]
        omega
      rw [s1, s2]
      refine ⟨(nums.drop 3).take (n + 2 - 3), by rw [List.map_take, List.map_drop], ?_⟩
      rw [List.length_take, List.length_drop]
      omega
    generalize h_H3 : upd H2 p6 _ = H3
    have k_H3 : Kp H2 H3 := by rw [← h_H3]; exact .new n6
    have q_H3 := (congrFun h_H3 p6).symm.trans upd_same
    clear h_H3
    have q6 : H3 p6 = some (.lst (ms.map V.int)) := by rw [q_H3]; exact congrArg (fun z => some (HO.lst z)) em
    have ne56 : p5 ≠ p6 := ne_of_none q_H2 n6
    have kp3 := (k1.trans k_H2).trans k_H3
    refine ⟨p6, rfl, ⟨_, .inl (.inl q6)⟩, for_list (K := K) (a := p6) (xs := ms.map V.int) (fun i σ H' => ∃ (zs : List Int) (y : Option V), σ = [some (.ref a), some (.int (j : Int)), some (.int 12), some (.ref p3), some (.int (2 + mm)), some (.ref p5), y, none] ∧ Kp H H' ∧ H' p3 = some (.lst (nums.map V.int)) ∧ H' p6 = some (.lst (ms.map V.int)) ∧ H' p5 = some (.lst (zs.map V.int)) ∧ zs.length = i + 1)
      ⟨[1 + nums.getD 1 0 % 94], none, rfl, kp3, k_H3.same _ _ rfl (k_H2.same _ _ rfl q1), q6, k_H3.same _ _ rfl q_H2, rfl⟩ (fun i σ H' _ ⟨_, _, _, _, _, h6, _⟩ => .inl (.inl h6)) ?_ ?_⟩
    · rintro i x σ H' hi ⟨zs, y, rfl, kp, h3, h6, h5, hlz⟩
      have hil : i < ms.length := by
        have z := (List.getElem?_eq_some_iff.mp hi).1
        rw [List.length_map] at z
        exact z
      obtain ⟨z, _, rfl, _⟩ := mem_ints hi
      refine ⟨_, rfl, _, _, rfl, rfl, ⟨by decide, by decide⟩, _, _, rfl, rfl, (by show (0 : Int) < 5; decide), _, rfl, p3, _, _, _, rfl, rfl, .inl (.inl h3), getD_at (j := 2) (by omega), _, _, rfl, rfl, (by show (0 : Int) < 5; decide), _, _, rfl, rfl, _, rfl, iteD (fun c => ?_) (fun c => ?_)⟩
      · have hz : zs ≠ [] := fun e => by rw [e] at hlz; simp at hlz
        refine ⟨_, rfl, .inl ⟨rfl, _, SqL.of h5⟩, _, rfl, 1, rfl, p5, _, _, _, rfl, rfl, .inl (.inl h5), last_int hz, p5, _, _, rfl, rfl, h5, szt (by rw [List.length_map]; omega), ?_⟩
        exact ⟨zs ++ [zs.getLast hz], _, rfl, kp.mut f5, by rw [upd_ne ne35]; exact h3, by rw [upd_ne ne56.symm]; exact h6, by rw [upd_same, List.map_append]; rfl, by rw [List.length_append, hlz]; rfl⟩
      · refine ⟨_, rfl, .inl ⟨rfl, _, SqL.of h5⟩, _, rfl, _, _, rfl, rfl, (by show (0 : Int) < 94; decide), _, _, rfl, rfl, p5, _, _, rfl, rfl, h5, szt (by rw [List.length_map]; omega), ?_⟩
        exact ⟨zs ++ [1 + z % 94], _, rfl, kp.mut f5, by rw [upd_ne ne35]; exact h3, by rw [upd_ne ne56.symm]; exact h6, by rw [upd_same, List.map_append]; rfl, by rw [List.length_append, hlz]; rfl⟩
    · rintro σ H' ⟨zs, y, rfl, kp, h3, h6, h5, hlz⟩
      rw [List.length_map] at hlz
      refine ⟨_, rfl, 1, _, rfl, ⟨by omega, by omega, by omega, by omega⟩, ?_⟩
      refine for_range (lo := 1) (n := ((2 : Int) + mm - 1).toNat) (fun i σ H' => ∃ (os : List (Option Int)) (y2 : Option V), σ = [some (.ref a), some (.int (j : Int)), some (.int 12), some (.ref p3), some (.int (2 + mm)), some (.ref p5), y, y2] ∧ Kp H H' ∧ H' p3 = some (.lst (nums.map V.int)) ∧ H' p5 = some (.lst (os.map oI)) ∧ os.length = n)
        ⟨zs.map some, none, rfl, kp, h3, by rw [some_oI]; exact h5, by rw [List.length_map]; omega⟩ ?_ ?_
      · rintro i σ H' hi ⟨os, y2, rfl, kp, h3, h5, hlo⟩
        have e3 : atI (nums.map V.int) ((3 : Int) + (1 + (i : Int)) - 1) = some (.int (nums.getD (i + 3) 0)) := by
          have z := getD_at (ns := nums) (j := i + 3) (by omega)
          rw [← z]
          congr 1
          omega
        refine ⟨_, rfl, _, rfl, _, _, rfl, rfl, _, _, rfl, rfl, p3, _, _, _, rfl, rfl, .inl (.inl h3), e3, _, _, rfl, rfl, ⟨by decide, by decide⟩, _, _, rfl, rfl, (by show (0 : Int) < 9; decide), _, rfl, p3, _, _, _, rfl, rfl, .inl (.inl h3), getD_at (j := 2) (by omega), _, _, rfl, rfl, ⟨by decide, by decide⟩, _, _, rfl, rfl, (by show (0 : Int) < 9; decide), _, _, rfl, rfl, _, rfl, iteD (fun c => ?_) (fun c => ?_)⟩
        · refine ⟨_, rfl, _, rfl, _, rfl, p3, _, _, _, rfl, rfl, .inl (.inl h3), getD_at (j := 2) (by omega), _, _, rfl, rfl, ⟨by decide, by decide⟩, _, _, rfl, rfl, (by show (0 : Int) < 2; decide), _, _, rfl, rfl, _, _, rfl, rfl, _, rfl, iteD (fun c => ?_) (fun c => ?_)⟩
          · refine ⟨_, rfl, _, rfl, p5, _, _, i + 1, rfl, rfl, h5, ?_, ?_⟩
            · rw [List.length_map]
              unfold ixN
              rw [if_pos (by omega), if_pos (by omega)]
              congr 1
              omega
            · exact ⟨os.set (i + 1) none, _, rfl, kp.mut f5, by rw [upd_ne ne35]; exact h3, by rw [upd_same, List.map_set]; rfl, by rw [List.length_set]; exact hlo⟩
          · exact ⟨os, _, rfl, kp, h3, h5, hlo⟩
        · exact ⟨os, _, rfl, kp, h3, h5, hlo⟩
      · rintro σ H' ⟨os, y2, rfl, kp, h3, h5, hlo⟩
        exact ⟨_, rfl, k os p5 H' kp f5 h5 (by omega) (by omega)⟩
/-! ### stretches -/
def hasO (os : List (Option Int)) (p : Nat) : Bool := (os.getD p none).isSome
def valO (os : List (Option Int)) (p : Nat) : Int := (os.getD p none).getD 0
def legN (os : List (Option Int)) (i : Nat) : List Nat := (List.range i).filter (hasO os)
theorem legN_yes {os : List (Option Int)} {i : Nat} (h : hasO os i = true) : legN os (i + 1) = legN os i ++ [i] := by
  unfold legN
  rw [List.range_succ, List.filter_append]
  simp [h]
theorem legN_no {os : List (Option Int)} {i : Nat} (h : hasO os i = false) : legN os (i + 1) = legN os i := by
  unfold legN
  rw [List.range_succ, List.filter_append]
  simp [h]
theorem legN_len (os : List (Option Int)) (i : Nat) : (legN os i).length ≤ i := by
  unfold legN
  exact Nat.le_trans (List.length_filter_le _ _) (by rw [List.length_range]; exact Nat.le_refl _)
theorem legN_mem {os : List (Option Int)} {i p : Nat} (h : p ∈ legN os i) : p < i ∧ hasO os p = true := by
  unfold legN at h
  simp only [List.mem_filter, List.mem_range] at h
  exact h
theorem oI_at {os : List (Option Int)} {p : Nat} (h : p < os.length) : (os.map oI)[p]? = some (oI (os.getD p none)) := by
  rw [List.getElem?_map, List.getD_eq_getElem?_getD, List.getElem?_eq_getElem h]
  rfl
theorem oI_has {os : List (Option Int)} {p : Nat} (h : hasO os p = true) : oI (os.getD p none) = .int (valO os p) := by
  unfold hasO at h
  unfold valO
  cases e : os.getD p none with
  | none => rw [e] at h; cases h
  | some z => rfl
theorem oI_not {os : List (Option Int)} {p : Nat} (h : hasO os p = false) : oI (os.getD p none) = .non := by
  unfold hasO at h
  cases e : os.getD p none with
  | none => rfl
  | some z => rw [e] at h; cases h
def dLeg (os : List (Option Int)) (p : Nat) : PyData := .tuple [.int (p : Int), .int (valO os p)]
/-- the k-th legible place -/
def lgA (os : List (Option Int)) (k : Nat) : Nat := (legN os os.length).getD k 0
def unl (os : List (Option Int)) (k : Nat) : Bool := !decide (V.int (valO os (lgA os k)) = V.int (valO os (lgA os (k + 1))))
def strN (os : List (Option Int)) (i : Nat) : List Nat := (List.range i).filter (unl os)
def dStr (os : List (Option Int)) (k : Nat) : PyData := .tuple [.int (lgA os k : Int), .int (lgA os (k + 1) : Int), .int (valO os (lgA os k)), .int (valO os (lgA os (k + 1)))]
theorem strN_yes {os : List (Option Int)} {i : Nat} (h : unl os i = true) : strN os (i + 1) = strN os i ++ [i] := by
  unfold strN
  rw [List.range_succ, List.filter_append]
  simp [h]
theorem strN_no {os : List (Option Int)} {i : Nat} (h : unl os i = false) : strN os (i + 1) = strN os i := by
  unfold strN
  rw [List.range_succ, List.filter_append]
  simp [h]
theorem strN_len (os : List (Option Int)) (i : Nat) : (strN os i).length ≤ i := by
  unfold strN
  exact Nat.le_trans (List.length_filter_le _ _) (by rw [List.length_range]; exact Nat.le_refl _)
/-- how many pairs of neighbours there are -/
def prs (os : List (Option Int)) : Nat := (legN os os.length).length - 1
def dStrs (os : List (Option Int)) : List PyData := (strN os (prs os)).map (dStr os)
theorem nl_strs {os : List (Option Int)} {l : List Nat} : ∀ d ∈ l.map (dStr os), Nl d := by
  intro d hd
  obtain ⟨p, _, rfl⟩ := List.mem_map.mp hd
  exact .tup (by intro d hd; simp only [List.mem_cons, List.not_mem_nil, or_false] at hd; rcases hd with rfl | rfl | rfl | rfl <;> exact .int _)
theorem nl_legs {os : List (Option Int)} {l : List Nat} : ∀ d ∈ l.map (dLeg os), Nl d := by
  intro d hd
  obtain ⟨p, _, rfl⟩ := List.mem_map.mp hd
  exact .tup (by intro d hd; simp only [List.mem_cons, List.not_mem_nil, or_false] at hd; rcases hd with rfl | rfl <;> exact .int _)
theorem cut_tail (ws : List V) : cutV ws (some 1) none = ws.tail := by
  unfold cutV
  rw [HT.sIx_none]
  have e : HT.sIx ws.length 0 (some 1) = min 1 ws.length := HT.sIx_nat ws.length 0 1
  rw [e]
  cases ws with
  | nil => rfl
  | cons w r =>
    rw [show min 1 (w :: r).length = 1 by rw [List.length_cons]; omega]
    show ((w :: r).drop 1).take _ = r
    rw [List.drop_one, List.tail_cons]
    exact List.take_of_length_le (by rw [List.length_cons]; omega)
theorem lgA_at {os : List (Option Int)} {k : Nat} (h : k < (legN os os.length).length) : (legN os os.length)[k]? = some (lgA os k) := by
  unfold lgA
  rw [List.getD_eq_getElem?_getD, List.getElem?_eq_getElem h]
  rfl
theorem dp_pair {K : PySem.W.Frag} {H : Hp} {v : V} {x y : PyData} (h : Dp K H v (.tuple [x, y])) : ∃ (t : Addr) (a b : V), v = .ref t ∧ SqT K H t [a, b] ∧ Dp K H a x ∧ Dp K H b y := by
  cases h with
  | tup h t =>
    cases t with | cons h1 t =>
    cases t with | cons h2 t =>
    cases t
    exact ⟨_, _, _, rfl, h, h1, h2⟩
theorem dp_intV {K : PySem.W.Frag} {H : Hp} {v : V} {z : Int} (h : Dp K H v (.int z)) : v = .int z := by
  cases h
  rfl
def sp_p_stretches (K : PySem.W.Frag) : Sp := fun vs H Q _ => ∃ (a : Addr) (os : List (Option Int)), vs = [.ref a] ∧ SqL K H a (os.map oI) ∧ os.length ≤ 1000 ∧
  ∀ (p : Addr) (ws : List V) (H' : Hp), Kp H H' → H p = none → H' p = some (.lst ws) → DpAll K H' ws (dStrs os) → Q (.ref p) H'
theorem ok_p_stretches (T : Txt K mg) : FnOk P w K mg base CX0 1 T.f_p_stretches T.d_p_stretches ["values"] (sp_p_stretches K) := by
  refine T.F_p_stretches.ok sc_p_stretches (fun vs H Q E h => ?_) (fun cdv A outer s H vs Q E hr h => ?_)
  · obtain ⟨a, os, rfl, _⟩ := h
    rfl
  · obtain ⟨a, os, rfl, hS, hlen, k⟩ := h
    refine ⟨_, (pss_cons (ps_setLc (i := 1) (own := [("place", 2), ("sign", 3)]) (by rfl) sc_p_stretches.nd rfl rfl (sw_true rfl rfl rfl (by decide +kernel)) (pi_enum (by rfl) T.m_enumerate (pa_cons (pv 0) pa_nil)) (blkOk_by (own := [("place", 2), ("sign", 3)]) (N := ["values", "legible", "place", "sign", "found", "first", "written", "second", "other"]) (sc := defScope s_p_stretches) (by decide +kernel)) (fun _ _ _ _ _ => (pgK K rfl (pg_tup (n := 2) rfl (pgs_cons (pg_name (i := 2) sc_p_stretches.nd rfl (by first | exact Or.inl rfl | exact Or.inr rfl)) (pgs_cons (pg_name (i := 3) sc_p_stretches.nd rfl (by first | exact Or.inl rfl | exact Or.inr rfl)) pgs_nil))))) (fun _ _ _ _ _ => (pts_one (pt_cmpR op_notN (pv 3) pe_non (nomark _)))) (fun _ _ _ _ _ => (pe_tup (pa_cons (pv 2) (pa_cons (pv 3) pa_nil)))))
      (pss_cons (ps_set (i := 4) sc_p_stretches.nd rfl (by first | exact Or.inl rfl | exact Or.inr rfl) (pe_lst pa_nil))
      (pss_cons (ps_for PassesOwn.never rfl (pi_zip (by rfl) T.m_zip (pa_cons (pv 1) (pa_cons (pe_slice sl_list (pv 1) (po_some pe_int) po_none) pa_nil))) (pg_tup (n := 2) rfl (pgs_cons (pg_tup (n := 2) rfl (pgs_cons (pg_name (i := 5) sc_p_stretches.nd rfl (by first | exact Or.inl rfl | exact Or.inr rfl)) (pgs_cons (pg_name (i := 6) sc_p_stretches.nd rfl (by first | exact Or.inl rfl | exact Or.inr rfl)) pgs_nil))) (pgs_cons (pg_tup (n := 2) rfl (pgs_cons (pg_name (i := 7) sc_p_stretches.nd rfl (by first | exact Or.inl rfl | exact Or.inr rfl)) (pgs_cons (pg_name (i := 8) sc_p_stretches.nd rfl (by first | exact Or.inl rfl | exact Or.inr rfl)) pgs_nil))) pgs_nil)))
      (pss_one (ps_if (pt_cmpR op_ne (pv 6) (pv 8) (nomark _))
      (pss_one (ps_expr (pe_bm PySem.F.plainAttrs_list PySem.F.slot_list_append PySem.F.type_list_append mt_append (pv 4) (pa_cons (pe_tup (pa_cons (pv 5) (pa_cons (pv 7) (pa_cons (pv 6) (pa_cons (pv 8) pa_nil))))) pa_nil))))
      pss_nil)))
      (pss_one (ps_ret (pv 4)))))), ?_⟩
    refine ⟨_, rfl, a, _, rfl, hS, fun D hD => ?_⟩
    refine lc_it (walk_enum (K := K) (a := a) (xs := os.map oI)) (fun i H' => ∃ ws : List V, Kp H H' ∧ H' D = some (.lst ws) ∧ DpAll K H' ws ((legN os i).map (dLeg os))) ⟨[], Kp.new hD, upd_same, .nil⟩ (fun i H' _ ⟨_, kp, _⟩ => kp.sqL hS) ?_ ?_
    · rintro i x H' H'' hi ⟨ws, kp, hDl, hw⟩ ⟨t, i', v, rfl, nt, rfl, ei, ev⟩
      cases Option.some.inj ei
      rw [List.length_map] at hi
      have ev : (os.map oI)[i]? = some v := ev
      rw [oI_at hi] at ev
      cases Option.some.inj ev
      generalize h_H2 : upd H' t _ = H2
      have k_H2 : Kp H' H2 := by rw [← h_H2]; exact .new nt
      have q_H2 := (congrFun h_H2 t).symm.trans upd_same
      clear h_H2
      have hD2 := k_H2.same _ _ rfl hDl
      have kp2 := kp.trans k_H2
      have hw2 := k_H2.dpAll hw
      have hlw := DpAll.len hw2
      rw [List.length_map] at hlw
      have hll := legN_len os i
      refine ⟨t, _, rfl, .inl (.inl q_H2), rfl, _, _, rfl, _, _, rfl, rfl, rfl, ?_⟩
      cases hh : hasO os i with
      | false =>
        refine ⟨_, rfl, rfl, _, rfl, iteFo (by show (!decide (oI (os.getD i none) = V.non)) = false; rw [oI_not hh]; rfl) ?_⟩
        exact ⟨ws, kp2, hD2, by rw [legN_no hh]; exact hw2⟩
      | true =>
        refine ⟨_, rfl, rfl, _, rfl, iteTo (by show (!decide (oI (os.getD i none) = V.non)) = true; rw [oI_has hh]; rfl) ?_⟩
        refine ⟨_, rfl, _, rfl, szl (by show 2 ≤ 100000; decide), fun u nu => ?_⟩
        generalize h_H3 : upd H2 u _ = H3
        have k_H3 : Kp H2 H3 := by rw [← h_H3]; exact .new nu
        have q_H3 := (congrFun h_H3 u).symm.trans upd_same
        clear h_H3
        have hD3 := k_H3.same _ _ rfl hD2
        refine ⟨ws, hD3, szt (by omega), _, (kp2.trans k_H3).mut hD, upd_same, ?_⟩
        rw [legN_yes hh, List.map_append]
        refine DpAll.mut hD3 ?_ (DpAll.snoc (k_H3.dpAll hw2) (.tup (.inl (.inl q_H3)) (.cons (.int _) (.cons (by rw [oI_has hh]; exact .int _) .nil))))
        intro d hd
        rw [← List.map_append] at hd
        exact nl_legs d hd
    · rintro H1 ⟨ls, k1, hD1, hl1⟩
      rw [List.length_map] at hl1
      have hll := DpAll.len hl1
      rw [List.length_map] at hll
      have hlm := legN_len os os.length
      refine ⟨Nat.zero_le _, fun p4 n4 => ?_⟩
      generalize h_H2 : upd H1 p4 _ = H2
      have k_H2 : Kp H1 H2 := by rw [← h_H2]; exact .new n4
      have q_H2 := (congrFun h_H2 p4).symm.trans upd_same
      clear h_H2
      have hD2 := k_H2.same _ _ rfl hD1
      have f4 := k1.free _ n4
      have neD4 : D ≠ p4 := ne_of_none hD1 n4
      refine ⟨_, rfl, _, rfl, _, rfl, D, _, rfl, .inl (.inl hD2), fun p5 n5 => ?_⟩
      generalize h_H3 : upd H2 p5 _ = H3
      have k_H3 : Kp H2 H3 := by rw [← h_H3]; exact .new n5
      have q_H3 := (congrFun h_H3 p5).symm.trans upd_same
      clear h_H3
      rw [cut_tail] at q_H3
      have ne45 : p4 ≠ p5 := ne_of_none q_H2 n5
      have kp3 := (k1.trans k_H2).trans k_H3
      have hD3 := k_H3.same _ _ rfl hD2
      have hl3 := (k_H2.trans k_H3).dpAll hl1
      refine ⟨D, p5, ls, ls.tail, rfl, .inl (.inl hD3), .inl (.inl q_H3), ?_⟩
      refine for_it (walk_zip (K := K) (a := D) (b := p5) (xs := ls) (ys := ls.tail) (n := prs os) (by rw [List.length_tail]; unfold prs; omega)) (fun i σ H' => ∃ (ws : List V) (y1 y2 y3 y4 : Option V), σ = [some (.ref a), some (.ref D), none, none, some (.ref p4), y1, y2, y3, y4] ∧ Kp H H' ∧ H' D = some (.lst ls) ∧ H' p5 = some (.lst ls.tail) ∧ DpAll K H' ls ((legN os os.length).map (dLeg os)) ∧ H' p4 = some (.lst ws) ∧ DpAll K H' ws ((strN os i).map (dStr os)))
        ⟨[], none, none, none, none, rfl, kp3, hD3, q_H3, hl3, k_H3.same _ _ rfl q_H2, .nil⟩ (fun i σ H' _ ⟨_, _, _, _, _, _, _, h1, h2, _⟩ => ⟨.inl (.inl h1), .inl (.inl h2)⟩) ?_ ?_
      · rintro i x σ H' H'' hi ⟨ws, y1, y2, y3, y4, rfl, kp, hd, h5, hl, h4, hw⟩ ⟨t, u, v, rfl, nt, rfl, eu, ev⟩
        have hi1 : i < (legN os os.length).length := by unfold prs at hi; omega
        have hi2 : i + 1 < (legN os os.length).length := by unfold prs at hi; omega
        have g1 : ((legN os os.length).map (dLeg os))[i]? = some (dLeg os (lgA os i)) := by rw [List.getElem?_map, lgA_at hi1]; rfl
        have g2 : ((legN os os.length).map (dLeg os))[i + 1]? = some (dLeg os (lgA os (i + 1))) := by rw [List.getElem?_map, lgA_at hi2]; rfl
        obtain ⟨u', eu', du⟩ := DpAll.get hl g1
        have eu : ls[i]? = some u := eu
        rw [eu] at eu'
        cases Option.some.inj eu'
        obtain ⟨v', ev', dv⟩ := DpAll.get hl g2
        have ev : ls.tail[i]? = some v := ev
        rw [List.getElem?_tail] at ev
        rw [ev] at ev'
        cases Option.some.inj ev'
        obtain ⟨t1, a1, b1, rfl, s1, da1, db1⟩ := dp_pair du
        obtain ⟨t2, a2, b2, rfl, s2, da2, db2⟩ := dp_pair dv
        cases dp_intV da1
        cases dp_intV db1
        cases dp_intV da2
        cases dp_intV db2
        generalize h_H4 : upd H' t _ = H4
        have k_H4 : Kp H' H4 := by rw [← h_H4]; exact .new nt
        have q_H4 := (congrFun h_H4 t).symm.trans upd_same
        clear h_H4
        have kp4 := kp.trans k_H4
        have hlw := DpAll.len hw
        rw [List.length_map] at hlw
        have hsl := strN_len os i
        have r4 := k_H4.same _ _ rfl h4
        refine ⟨t, _, rfl, .inl (.inl q_H4), rfl, _, _, rfl, t1, _, rfl, k_H4.sqT s1, rfl, _, _, rfl, _, _, rfl, rfl, _, _, rfl, t2, _, rfl, k_H4.sqT s2, rfl, _, _, rfl, _, _, rfl, rfl, rfl, ?_⟩
        refine ⟨_, rfl, _, rfl, rfl, _, rfl, iteB (fun c => ?_) (fun c => ?_)⟩
        · have c : unl os i = true := c
          refine ⟨_, rfl, .inl ⟨rfl, _, SqL.of r4⟩, _, rfl, _, rfl, _, rfl, _, rfl, szl (by show 4 ≤ 100000; decide), fun u nu => ?_⟩
          generalize h_H5 : upd H4 u _ = H5
          have k_H5 : Kp H4 H5 := by rw [← h_H5]; exact .new nu
          have q_H5 := (congrFun h_H5 u).symm.trans upd_same
          clear h_H5
          have r5 := k_H5.same _ _ rfl r4
          have k25 := k_H4.trans k_H5
          refine ⟨p4, _, _, rfl, rfl, r5, szt (by omega), ?_⟩
          refine ⟨_, _, _, _, _, rfl, (kp4.trans k_H5).mut f4, by rw [upd_ne neD4]; exact k25.same _ _ rfl hd, by rw [upd_ne ne45.symm]; exact k25.same _ _ rfl h5, DpAll.mut r5 nl_legs (k25.dpAll hl), upd_same, ?_⟩
          rw [strN_yes c, List.map_append]
          refine DpAll.mut r5 ?_ (DpAll.snoc (k25.dpAll hw) (.tup (.inl (.inl q_H5)) (.cons (.int _) (.cons (.int _) (.cons (.int _) (.cons (.int _) .nil))))))
          intro d hd
          rw [← List.map_append] at hd
          exact nl_strs d hd
        · have c : unl os i = false := c
          exact ⟨_, _, _, _, _, rfl, kp4, k_H4.same _ _ rfl hd, k_H4.same _ _ rfl h5, k_H4.dpAll hl, r4, by rw [strN_no c]; exact k_H4.dpAll hw⟩
      · rintro σ H' ⟨ws, y1, y2, y3, y4, rfl, kp, hd, h5, hl, h4, hw⟩
        exact ⟨_, rfl, k p4 ws H' kp f4 h4 hw⟩
/-! ### the law's own stretches -/
theorem fil_legN (os : List (Option Int)) (i : Nat) : fil (hasO os) i = (legN os i).map (fun (x : Nat) => (x : Int)) := rfl
def sp_l_due (K : PySem.W.Frag) : Sp := sp_p_stretches K
theorem ok_l_due (T : Txt K mg) : FnOk P w K mg base CX0 1 T.f_l_due T.d_l_due ["_law_values_here"] (sp_l_due K) := by
  refine T.F_l_due.ok sc_l_due (fun vs H Q E h => ?_) (fun cdv A outer s H vs Q E hr h => ?_)
  · obtain ⟨a, os, rfl, _⟩ := h
    rfl
  · obtain ⟨a, os, rfl, hS, hlen, k⟩ := h
    refine ⟨_, (pss_cons (ps_setLc (i := 1) (own := [("_law_place", 2)]) (g := gName 2) (by rfl) sc_l_due.nd rfl rfl (sw_true rfl rfl rfl (by decide +kernel)) (pi_range1 (by rfl) T.m_range (pa_cons (pe_callB call_len_seq (by rfl) T.m_len PySem.boot_len (pa_cons (pv 0) pa_nil)) pa_nil)) (blkOk_by (own := [("_law_place", 2)]) (N := ["_law_values_here", "_law_places", "_law_place", "_law_found", "_law_k", "_law_one", "_law_other"]) (sc := defScope s_l_due) (by decide +kernel)) (fun _ _ _ _ _ => (pg_name (i := 2) sc_l_due.nd rfl (by first | exact Or.inl rfl | exact Or.inr rfl))) (fun _ _ _ _ _ => (pts_one (pt_cmpR op_notN (pe_ix (ix_listK K rfl) (pv 0) (pv 2) (fun _ _ => rfl)) pe_non (nomark _)))) (fun _ _ _ _ _ => (pv 2)))
      (pss_cons (ps_set (i := 3) sc_l_due.nd rfl (by first | exact Or.inl rfl | exact Or.inr rfl) (pe_lst pa_nil))
      (pss_cons (ps_for PassesOwn.never rfl (pi_range2 (by rfl) T.m_range (pa_cons pe_int (pa_cons (pe_callB call_len_seq (by rfl) T.m_len PySem.boot_len (pa_cons (pv 1) pa_nil)) pa_nil))) (pg_name (i := 4) sc_l_due.nd rfl (by first | exact Or.inl rfl | exact Or.inr rfl))
      (pss_cons (ps_set (i := 5) sc_l_due.nd rfl (by first | exact Or.inl rfl | exact Or.inr rfl) (pe_ix ix_list (pv 0) (pe_ix ix_list (pv 1) (pe_op op_sub (pv 4) pe_int) (fun _ _ => rfl)) (fun _ _ => rfl)))
      (pss_cons (ps_set (i := 6) sc_l_due.nd rfl (by first | exact Or.inl rfl | exact Or.inr rfl) (pe_ix ix_list (pv 0) (pe_ix ix_list (pv 1) (pv 4) (fun _ _ => rfl)) (fun _ _ => rfl)))
      (pss_one (ps_if (pt_cmpR op_ne (pv 5) (pv 6) (nomark _))
      (pss_one (ps_expr (pe_bm PySem.F.plainAttrs_list PySem.F.slot_list_append PySem.F.type_list_append mt_append (pv 3) (pa_cons (pe_tup (pa_cons (pe_ix ix_list (pv 1) (pe_op op_sub (pv 4) pe_int) (fun _ _ => rfl)) (pa_cons (pe_ix ix_list (pv 1) (pv 4) (fun _ _ => rfl)) (pa_cons (pv 5) (pa_cons (pv 6) pa_nil))))) pa_nil))))
      pss_nil)))))
      (pss_one (ps_ret (pv 3)))))), ?_⟩
    refine ⟨_, rfl, a, _, rfl, .inl hS, _, rfl, by omega, by rw [List.length_map]; omega, fun D hD => ?_⟩
    rw [Int.toNat_natCast, List.length_map]
    refine lc_range (lo := 0) (n := os.length) (fun i H' => Kp H H' ∧ H' D = some (.lst ((fil (hasO os) i).map V.int))) ⟨Kp.new hD, upd_same⟩ (fun i H' hi ⟨kp, hDl⟩ => ?_) (fun H1 ⟨k1, hD1⟩ => ?_)
    · have ez : (0 : Int) + (i : Int) = (i : Int) := Int.zero_add _
      rw [ez]
      refine ⟨rfl, ?_⟩
      refine ⟨_, rfl, _, rfl, a, _, _, _, rfl, rfl, kp.sqL hS, atI_nat (oI_at hi), rfl, _, rfl, ?_⟩
      cases hh : hasO os i with
      | false =>
        rw [oI_not hh]
        exact iteFo rfl ⟨kp, by rw [fil_no hh]; exact hDl⟩
      | true =>
        rw [oI_has hh]
        refine iteTo rfl ⟨_, rfl, _, hDl, szt (by rw [List.length_map]; have := fil_len (hasO os) i; omega), kp.mut hD, ?_⟩
        rw [upd_same, fil_yes hh, List.map_append]
        rfl
    rw [fil_legN] at hD1
    have hlm := legN_len os os.length
    refine ⟨Nat.zero_le _, fun p3 n3 => ?_⟩
    generalize h_H2 : upd H1 p3 _ = H2
    have k_H2 : Kp H1 H2 := by rw [← h_H2]; exact .new n3
    have q_H2 := (congrFun h_H2 p3).symm.trans upd_same
    clear h_H2
    have f3 := k1.free _ n3
    have neD3 : D ≠ p3 := ne_of_none hD1 n3
    have hlD : ((((legN os os.length).map (fun (x : Nat) => (x : Int))).map V.int).length : Int) = ((legN os os.length).length : Int) := by rw [List.length_map, List.length_map]
    refine ⟨_, rfl, D, _, rfl, .inl (.inl (.inl (k_H2.same _ _ rfl hD1))), 1, _, rfl, ⟨by decide, by decide, by rw [hlD]; omega, by rw [hlD]; omega⟩, ?_⟩
    rw [show ((((((legN os os.length).map (fun (x : Nat) => (x : Int))).map V.int).length : Int)) - 1).toNat = prs os by rw [hlD]; unfold prs; omega]
    have at_k : ∀ i : Nat, i < (legN os os.length).length → atI (((legN os os.length).map (fun (x : Nat) => (x : Int))).map V.int) (i : Int) = some (.int (lgA os i : Int)) := by
      intro i h
      refine atI_nat ?_
      rw [List.getElem?_map, List.getElem?_map, lgA_at h]
      rfl
    have lg_in : ∀ i : Nat, i < (legN os os.length).length → lgA os i < os.length ∧ hasO os (lgA os i) = true := fun i h => legN_mem (List.mem_of_getElem? (lgA_at h))
    have at_v : ∀ i : Nat, i < (legN os os.length).length → atI (os.map oI) (lgA os i : Int) = some (.int (valO os (lgA os i))) := by
      intro i h
      have z := lg_in i h
      rw [← oI_has z.2]
      exact atI_nat (oI_at z.1)
    refine for_range (lo := 1) (n := prs os) (fun i σ H' => ∃ (ws : List V) (y4 y5 y6 : Option V), σ = [some (.ref a), some (.ref D), none, some (.ref p3), y4, y5, y6] ∧ Kp H H' ∧ H' D = some (.lst (((legN os os.length).map (fun (x : Nat) => (x : Int))).map V.int)) ∧ H' p3 = some (.lst ws) ∧ DpAll K H' ws ((strN os i).map (dStr os)))
        ⟨[], none, none, none, rfl, k1.trans k_H2, k_H2.same _ _ rfl hD1, q_H2, .nil⟩ ?_ ?_
    · rintro i σ H' hi ⟨ws, y4, y5, y6, rfl, kp, hd, h3, hw⟩
      have hi1 : i < (legN os os.length).length := by unfold prs at hi; omega
      have hi2 : i + 1 < (legN os os.length).length := by unfold prs at hi; omega
      have e1 : (1 : Int) + (i : Int) - 1 = (i : Int) := by omega
      have e2 : (1 : Int) + (i : Int) = ((i + 1 : Nat) : Int) := by omega
      have hlw := DpAll.len hw
      rw [List.length_map] at hlw
      have hsl := strN_len os i
      refine ⟨_, rfl, _, rfl, _, rfl, _, _, rfl, rfl, D, _, _, _, rfl, rfl, .inl (.inl hd), (by rw [e1]; exact at_k i hi1), a, _, _, _, rfl, rfl, kp.sqL hS, at_v i hi1, ?_⟩
      refine ⟨_, rfl, _, rfl, _, rfl, D, _, _, _, rfl, rfl, .inl (.inl hd), (by rw [e2]; exact at_k (i + 1) hi2), a, _, _, _, rfl, rfl, kp.sqL hS, at_v (i + 1) hi2, ?_⟩
      refine ⟨_, rfl, _, rfl, rfl, _, rfl, iteB (fun c => ?_) (fun c => ?_)⟩
      · have c : unl os i = true := c
        refine ⟨_, rfl, .inl ⟨rfl, _, SqL.of h3⟩, _, rfl, _, rfl, _, _, rfl, rfl, D, _, _, _, rfl, rfl, .inl (.inl hd), (by rw [e1]; exact at_k i hi1), _, rfl, _, rfl, D, _, _, _, rfl, rfl, .inl (.inl hd), (by rw [e2]; exact at_k (i + 1) hi2), _, rfl, _, rfl, szl (by show 4 ≤ 100000; decide), fun u nu => ?_⟩
        generalize h_H5 : upd H' u _ = H5
        have k_H5 : Kp H' H5 := by rw [← h_H5]; exact .new nu
        have q_H5 := (congrFun h_H5 u).symm.trans upd_same
        clear h_H5
        have r5 := k_H5.same _ _ rfl h3
        refine ⟨p3, _, _, rfl, rfl, r5, szt (by omega), ?_⟩
        refine ⟨_, _, _, _, rfl, (kp.trans k_H5).mut f3, by rw [upd_ne neD3]; exact k_H5.same _ _ rfl hd, upd_same, ?_⟩
        rw [strN_yes c, List.map_append]
        refine DpAll.mut r5 ?_ (DpAll.snoc (k_H5.dpAll hw) (.tup (.inl (.inl q_H5)) (.cons (.int _) (.cons (.int _) (.cons (.int _) (.cons (.int _) .nil))))))
        intro d hd
        rw [← List.map_append] at hd
        exact nl_strs d hd
      · have c : unl os i = false := c
        exact ⟨_, _, _, _, rfl, kp, hd, h3, by rw [strN_no c]; exact hw⟩
    · rintro σ H' ⟨ws, y4, y5, y6, rfl, kp, hd, h3, hw⟩
      exact ⟨_, rfl, k p3 ws H' kp f3 h3 hw⟩
/-! ### law -/
def sp_law (K : PySem.W.Frag) : Sp := fun vs H Q _ => ∃ (a : Addr) (ns : List Int), vs = [.ref a] ∧ SqL K H a (ns.map V.int) ∧ ns.length ≤ 63 ∧ ∀ H', Q (.bl true) H'
theorem dm_strs {os : List (Option Int)} (h : os.length ≤ 1000) : Dm 4 (.list (dStrs os)) := by
  refine .lst (fun d hd => ?_) (by unfold dStrs; rw [List.length_map]; have h1 := strN_len os (prs os); have h2 := legN_len os os.length; unfold prs at *; omega)
  obtain ⟨k, _, rfl⟩ := List.mem_map.mp hd
  refine .tup (fun d hd => ?_) (by show 4 ≤ 10000; decide)
  simp only [List.mem_cons, List.not_mem_nil, or_false] at hd
  rcases hd with rfl | rfl | rfl | rfl <;> exact .int _ _
theorem ok_law (T : Txt K mg) {f : Addr} {fd : FuncData} (F : Fun K "law" "law" s_law f fd) : FnOk P w K mg base CX0 8 f fd ["_law_script"] (sp_law K) := by
  refine F.ok sc_law (fun vs H Q E h => ?_) (fun cdv A outer s H vs Q E hr h => ?_)
  · obtain ⟨a, ns, rfl, _⟩ := h
    rfl
  · obtain ⟨a, ns, rfl, hS, hlen, k⟩ := h
    refine ⟨_, (pss_cons (ps_for PassesOwn.never rfl (pi_tup (pe_tup (pa_cons pe_int (pa_cons pe_int (pa_cons pe_int pa_nil))))) (pg_name (i := 1) sc_law.nd rfl (by first | exact Or.inl rfl | exact Or.inr rfl))
      (pss_cons (ps_set (i := 2) sc_law.nd rfl (by first | exact Or.inl rfl | exact Or.inr rfl) (pe_call (ok_l_values T) (hr.mono (by decide)) rfl T.g_l_values T.F_l_values.kp T.b_l_values .nil pass0 (pa_cons (pv 0) (pa_cons (pv 1) (pa_cons pe_int pa_nil)))))
      (pss_cons (ps_set (i := 3) sc_law.nd rfl (by first | exact Or.inl rfl | exact Or.inr rfl) (pe_callTy call_list_of (by rfl) T.m_list (by decide +kernel) (pa_cons (pv 2) pa_nil)))
      (pss_cons (ps_set (i := 4) sc_law.nd rfl (by first | exact Or.inl rfl | exact Or.inr rfl) (pe_call (ok_p_stretches T) (hr.mono (by decide)) rfl T.g_p_stretches T.F_p_stretches.kp T.b_p_stretches .nil pass0 (pa_cons (pv 3) pa_nil)))
      (pss_cons (ps_if (PW.pt (pw_or (pt_not (pt_val (pe_call (ok_l_like T 4) (hr.mono (by decide)) rfl T.g_l_like T.F_l_like.kp T.b_l_like .nil pass0 (pa_cons (pv 4) (pa_cons (pe_call (ok_l_due T) (hr.mono (by decide)) rfl T.g_l_due T.F_l_due.kp T.b_l_due .nil pass0 (pa_cons (pv 2) pa_nil)) pa_nil))))) (pw_or1 (pt_cmpR (op_neD hr.units) (pv 3) (pv 2) (nomark _)))))
      (pss_one (ps_ret pe_bl))
      pss_nil)
      (pss_one (ps_expr (pe_bm PySem.F.plainAttrs_list PySem.F.slot_list_append PySem.F.type_list_append mt_append (pv 4) (pa_cons pe_int pa_nil)))))))))
      (pss_cons (ps_if (pt_not (pt_val (pe_call (ok_l_like T 4) (hr.mono (by decide)) rfl T.g_l_like T.F_l_like.kp T.b_l_like .nil pass0 (pa_cons (pe_call (ok_p_stretches T) (hr.mono (by decide)) rfl T.g_p_stretches T.F_p_stretches.kp T.b_p_stretches .nil pass0 (pa_cons (pe_lst (pa_cons pe_int pa_nil)) pa_nil)) (pa_cons (pe_lst pa_nil) pa_nil)))))
      (pss_one (ps_ret pe_bl))
      pss_nil)
      (pss_one (ps_ret (pe_and (pe_call (ok_l_like T 4) (hr.mono (by decide)) rfl T.g_l_like T.F_l_like.kp T.b_l_like .nil pass0 (pa_cons (pe_call (ok_p_stretches T) (hr.mono (by decide)) rfl T.g_p_stretches T.F_p_stretches.kp T.b_p_stretches .nil pass0 (pa_cons (pe_lst (pa_cons pe_int (pa_cons pe_non (pa_cons pe_int (pa_cons pe_int pa_nil))))) pa_nil)) (pa_cons (pe_lst (pa_cons (pe_tup (pa_cons pe_int (pa_cons pe_int (pa_cons pe_int (pa_cons pe_int pa_nil))))) pa_nil)) pa_nil))) (pe_one (pe_call (ok_l_like T 4) (hr.mono (by decide)) rfl T.g_l_like T.F_l_like.kp T.b_l_like .nil pass0 (pa_cons (pe_call (ok_p_stretches T) (hr.mono (by decide)) rfl T.g_p_stretches T.F_p_stretches.kp T.b_p_stretches .nil pass0 (pa_cons (pe_lst (pa_cons pe_int (pa_cons pe_non pa_nil))) pa_nil)) (pa_cons (pe_lst pa_nil) pa_nil))))))))), ?_⟩
    refine ⟨szl (by show 3 ≤ 100000; decide), fun p0 n0 => ?_⟩
    generalize h_H0 : upd H p0 _ = H0
    have k_H0 : Kp H H0 := by rw [← h_H0]; exact .new n0
    have q_H0 := (congrFun h_H0 p0).symm.trans upd_same
    clear h_H0
    refine ⟨p0, rfl, ⟨_, .inl (.inl q_H0)⟩, for_tup (K := K) (a := p0) (xs := [V.int 0, V.int 1, V.int 0]) (fun i σ H' => ∃ (y1 y2 y3 y4 : Option V), σ = [some (.ref a), y1, y2, y3, y4] ∧ Kp H0 H')
      ⟨none, none, none, none, rfl, .refl _⟩ (fun i σ H' _ ⟨_, _, _, _, _, kp⟩ => kp.sqT (.inl (.inl q_H0))) ?_ ?_⟩
    · rintro i x σ H' hi ⟨y1, y2, y3, y4, rfl, kp⟩
      obtain ⟨j, rfl, hj⟩ : ∃ j : Nat, x = .int (j : Int) ∧ j ≤ 1000 := by
        have hm := List.mem_of_getElem? hi
        simp only [List.mem_cons, List.not_mem_nil, or_false] at hm
        rcases hm with rfl | rfl | rfl
        · exact ⟨0, rfl, by decide⟩
        · exact ⟨1, rfl, by decide⟩
        · exact ⟨0, rfl, by decide⟩
      refine ⟨_, rfl, _, rfl, a, ns, j, rfl, (k_H0.trans kp).sqL hS, hj, fun os p1 H1 k1 f1 q1 lo hi => ?_⟩
      refine ⟨_, rfl, p1, _, rfl, .inl (.inl (.inl q1)), fun p2 n2 => ?_⟩
      generalize h_H2 : upd H1 p2 _ = H2
      have k_H2 : Kp H1 H2 := by rw [← h_H2]; exact .new n2
      have q_H2 := (congrFun h_H2 p2).symm.trans upd_same
      clear h_H2
      refine ⟨_, rfl, p2, os, rfl, .inl (.inl q_H2), by omega, fun p3 ws H3 k3 n3 q3 w3 => ?_⟩
      have k13 := k_H2.trans k3
      refine ⟨_, rfl, _, rfl, p1, os, rfl, .inl (.inl (k13.same _ _ rfl q1)), by omega, fun p4 ws4 H4 k4 n4 q4 w4 => ?_⟩
      refine ⟨_, _, .list (dStrs os), rfl, .lst (.inl (.inl (k4.same _ _ rfl q3))) (k4.dpAll w3), .lst (.inl (.inl q4)) w4, (dm_strs (by omega)).dn, fun H5 k5 => ⟨_, rfl, iteFo rfl ?_⟩⟩
      have k35 := k4.trans k5
      have dmo : Dm 4 (dOs os) := dm_dOs (by omega)
      refine ⟨_, rfl, _, rfl, dOs os, dOs os, dp_dOs (.inl (.inl ((k3.trans k35).same _ _ rfl q_H2))), dp_dOs (.inl (.inl ((k13.trans k35).same _ _ rfl q1))), dmo.shaped (by decide), dmo.shaped (by decide), _, rfl, iteFo (by rw [dmo.same (by decide)]; rfl) ?_⟩
      have q5 := k35.same _ _ rfl q3
      have lw : ws.length ≤ 1000 := by
        have z := DpAll.len w3
        unfold dStrs at z
        rw [List.length_map] at z
        have h1 := strN_len os (prs os)
        have h2 := legN_len os os.length
        unfold prs at *
        omega
      refine ⟨_, rfl, .inl ⟨rfl, _, SqL.of q5⟩, p3, _, _, rfl, rfl, q5, szt (by omega), ?_⟩
      exact ⟨_, _, _, _, rfl, ((kp.trans k1).trans k_H2).trans ((k3.trans k35).mut n3)⟩
    · rintro σ H' ⟨y1, y2, y3, y4, rfl, kp⟩
      have ev : ∀ (os : List (Option Int)) (p : Addr) (ws : List V) (H1 : Hp) (d : PyData), H1 p = some (.lst ws) → DpAll K H1 ws (dStrs os) → dStrs os = [] → Dp K H1 (.ref p) (.list []) := by
        intro os p ws H1 d hp hw he
        rw [he] at hw
        exact .lst (.inl (.inl hp)) hw
      refine ⟨szl (by show 1 ≤ 100000; decide), fun p1 n1 => ?_⟩
      generalize h_H1 : upd H' p1 _ = H1
      have k_H1 : Kp H' H1 := by rw [← h_H1]; exact .new n1
      have q_H1 := (congrFun h_H1 p1).symm.trans upd_same
      clear h_H1
      refine ⟨p1, [some 5], rfl, .inl (.inl q_H1), by decide, fun p2 ws H2 k2 n2 q2 w2 => ?_⟩
      refine ⟨Nat.zero_le _, fun p3 n3 => ?_⟩
      generalize h_H3 : upd H2 p3 _ = H3
      have k_H3 : Kp H2 H3 := by rw [← h_H3]; exact .new n3
      have q_H3 := (congrFun h_H3 p3).symm.trans upd_same
      clear h_H3
      refine ⟨_, _, .list [], rfl, k_H3.dp (ev _ _ _ _ .none q2 w2 (by decide +kernel)), .lst (.inl (.inl q_H3)) .nil, .lst (by intro d hd; simp at hd) (Nat.zero_le _), fun H4 k4 => ⟨_, rfl, iteFo rfl ?_⟩⟩
      refine ⟨szl (by show 4 ≤ 100000; decide), fun p5 n5 => ?_⟩
      generalize h_H5 : upd H4 p5 _ = H5
      have k_H5 : Kp H4 H5 := by rw [← h_H5]; exact .new n5
      have q_H5 := (congrFun h_H5 p5).symm.trans upd_same
      clear h_H5
      refine ⟨p5, [some 3, none, some 3, some 4], rfl, .inl (.inl q_H5), by decide, fun p6 ws6 H6 k6 n6 q6 w6 => ?_⟩
      refine ⟨szl (by show 4 ≤ 100000; decide), fun p7 n7 => ?_⟩
      generalize h_H7 : upd H6 p7 _ = H7
      have k_H7 : Kp H6 H7 := by rw [← h_H7]; exact .new n7
      have q_H7 := (congrFun h_H7 p7).symm.trans upd_same
      clear h_H7
      refine ⟨szl (by show 1 ≤ 100000; decide), fun p8 n8 => ?_⟩
      generalize h_H8 : upd H7 p8 _ = H8
      have k_H8 : Kp H7 H8 := by rw [← h_H8]; exact .new n8
      have q_H8 := (congrFun h_H8 p8).symm.trans upd_same
      clear h_H8
      have e6 : dStrs [some 3, none, some 3, some 4] = [.tuple [.int 2, .int 3, .int 3, .int 4]] := by rfl
      rw [e6] at w6
      refine ⟨_, _, .list [.tuple [.int 2, .int 3, .int 3, .int 4]], rfl, (k_H7.trans k_H8).dp (.lst (.inl (.inl q6)) w6), .lst (.inl (.inl q_H8)) (.cons (.tup (.inl (.inl (k_H8.same _ _ rfl q_H7))) (.cons (.int _) (.cons (.int _) (.cons (.int _) (.cons (.int _) .nil))))) .nil), ?_, fun H9 k9 => ⟨_, rfl, iteTo rfl ?_⟩⟩
      · refine .lst (fun d hd => ?_) (by show 1 ≤ 10000; decide)
        rw [List.mem_singleton.mp hd]
        refine .tup (fun d hd => ?_) (by show 4 ≤ 10000; decide)
        simp only [List.mem_cons, List.not_mem_nil, or_false] at hd
        rcases hd with rfl | rfl | rfl | rfl <;> exact .int _ _
      refine ⟨szl (by show 2 ≤ 100000; decide), fun pA nA => ?_⟩
      generalize h_HA : upd H9 pA _ = HA
      have k_HA : Kp H9 HA := by rw [← h_HA]; exact .new nA
      have q_HA := (congrFun h_HA pA).symm.trans upd_same
      clear h_HA
      refine ⟨pA, [some 5, none], rfl, .inl (.inl q_HA), by decide, fun pB wsB HB kB nB qB wB => ?_⟩
      refine ⟨Nat.zero_le _, fun pC nC => ?_⟩
      generalize h_HC : upd HB pC _ = HC
      have k_HC : Kp HB HC := by rw [← h_HC]; exact .new nC
      have q_HC := (congrFun h_HC pC).symm.trans upd_same
      clear h_HC
      exact ⟨_, _, .list [], rfl, k_HC.dp (ev _ _ _ _ .none qB wB (by decide +kernel)), .lst (.inl (.inl q_HC)) .nil, .lst (by intro d hd; simp at hd) (Nat.zero_le _), fun H4 k4 => k _⟩
end
theorem all_mk {l : PySem.W.OpenLaw} {w : World} {K : PySem.W.Frag} {h : Heap} {mg : Str → Option Value} {fa : Addr} (X : K.In h) (G : h.Ns mainGlobals mg) (hfa : mg "law" = some (.ref fa))
    {f1 : Addr} {od1 an1 : Option Addr} {sl1 : Array (Option Value)} {oc1 kV1 dc1 pm1 cd1 ct1 : Value}
    {f2 : Addr} {od2 an2 : Option Addr} {sl2 : Array (Option Value)} {oc2 kV2 dc2 pm2 cd2 ct2 : Value}
    {f3 : Addr} {od3 an3 : Option Addr} {sl3 : Array (Option Value)} {oc3 kV3 dc3 pm3 cd3 ct3 : Value}
    {f4 : Addr} {od4 an4 : Option Addr} {sl4 : Array (Option Value)} {oc4 kV4 dc4 pm4 cd4 ct4 : Value}
    {f5 : Addr} {od5 an5 : Option Addr} {sl5 : Array (Option Value)} {oc5 kV5 dc5 pm5 cd5 ct5 : Value}
    {f6 : Addr} {od6 an6 : Option Addr} {sl6 : Array (Option Value)} {oc6 kV6 dc6 pm6 cd6 ct6 : Value}
    {f7 : Addr} {od7 an7 : Option Addr} {sl7 : Array (Option Value)} {oc7 kV7 dc7 pm7 cd7 ct7 : Value}
    (a1 : PySem.W.nsIn K mainGlobals "stretches" = some (some (.ref f1)))
    (l1 : K.lookup f1 = some ⟨oc1, od1, .func (PySem.W.fnOf "stretches" "stretches" (defArgs s_p_stretches) (defBody s_p_stretches) (defScope s_p_stretches) .none kV1 dc1 pm1 an1 cd1 ct1), sl1⟩)
    (c1 : PySem.W.codeIn K cd1 "stretches" = true)
    (k1 : PySem.W.keepIn K (.ref f1) = true)
    (a2 : PySem.W.nsIn K mainGlobals "_law_cell" = some (some (.ref f2)))
    (l2 : K.lookup f2 = some ⟨oc2, od2, .func (PySem.W.fnOf "_law_cell" "_law_cell" (defArgs s_l_cell) (defBody s_l_cell) (defScope s_l_cell) .none kV2 dc2 pm2 an2 cd2 ct2), sl2⟩)
    (c2 : PySem.W.codeIn K cd2 "_law_cell" = true)
    (k2 : PySem.W.keepIn K (.ref f2) = true)
    (a3 : PySem.W.nsIn K mainGlobals "_law_row" = some (some (.ref f3)))
    (l3 : K.lookup f3 = some ⟨oc3, od3, .func (PySem.W.fnOf "_law_row" "_law_row" (defArgs s_l_row) (defBody s_l_row) (defScope s_l_row) .none kV3 dc3 pm3 an3 cd3 ct3), sl3⟩)
    (c3 : PySem.W.codeIn K cd3 "_law_row" = true)
    (k3 : PySem.W.keepIn K (.ref f3) = true)
    (a4 : PySem.W.nsIn K mainGlobals "_law_like" = some (some (.ref f4)))
    (l4 : K.lookup f4 = some ⟨oc4, od4, .func (PySem.W.fnOf "_law_like" "_law_like" (defArgs s_l_like) (defBody s_l_like) (defScope s_l_like) .none kV4 dc4 pm4 an4 cd4 ct4), sl4⟩)
    (c4 : PySem.W.codeIn K cd4 "_law_like" = true)
    (k4 : PySem.W.keepIn K (.ref f4) = true)
    (a5 : PySem.W.nsIn K mainGlobals "_law_values" = some (some (.ref f5)))
    (l5 : K.lookup f5 = some ⟨oc5, od5, .func (PySem.W.fnOf "_law_values" "_law_values" (defArgs s_l_values) (defBody s_l_values) (defScope s_l_values) .none kV5 dc5 pm5 an5 cd5 ct5), sl5⟩)
    (c5 : PySem.W.codeIn K cd5 "_law_values" = true)
    (k5 : PySem.W.keepIn K (.ref f5) = true)
    (a6 : PySem.W.nsIn K mainGlobals "_law_due" = some (some (.ref f6)))
    (l6 : K.lookup f6 = some ⟨oc6, od6, .func (PySem.W.fnOf "_law_due" "_law_due" (defArgs s_l_due) (defBody s_l_due) (defScope s_l_due) .none kV6 dc6 pm6 an6 cd6 ct6), sl6⟩)
    (c6 : PySem.W.codeIn K cd6 "_law_due" = true)
    (k6 : PySem.W.keepIn K (.ref f6) = true)
    (a7 : PySem.W.nsIn K mainGlobals "law" = some (some (.ref f7)))
    (l7 : K.lookup f7 = some ⟨oc7, od7, .func (PySem.W.fnOf "law" "law" (defArgs s_law) (defBody s_law) (defScope s_law) .none kV7 dc7 pm7 an7 cd7 ct7), sl7⟩)
    (c7 : PySem.W.codeIn K cd7 "law" = true)
    (k7 : PySem.W.keepIn K (.ref f7) = true)
    (z_zip : PySem.W.nsIn K mainGlobals "zip" = some none)
    (z_enumerate : PySem.W.nsIn K mainGlobals "enumerate" = some none)
    (z_len : PySem.W.nsIn K mainGlobals "len" = some none)
    (z_range : PySem.W.nsIn K mainGlobals "range" = some none)
    (z_isinstance : PySem.W.nsIn K mainGlobals "isinstance" = some none)
    (z_bool : PySem.W.nsIn K mainGlobals "bool" = some none)
    (z_int : PySem.W.nsIn K mainGlobals "int" = some none)
    (z_str : PySem.W.nsIn K mainGlobals "str" = some none)
    (z_all : PySem.W.nsIn K mainGlobals "all" = some none)
    (z_list : PySem.W.nsIn K mainGlobals "list" = some none)
    (z_tuple : PySem.W.nsIn K mainGlobals "tuple" = some none) :
    ∃ fd : FuncData, (∀ (s : Shared) (v : Value), BindsTo s fd ⟨[v], []⟩ [("_law_script", v)]) ∧ ∀ base : Heap, K.In base → base.Ns mainGlobals mg → FnOk l.prog w K mg base CX0 8 fa fd ["_law_script"] (sp_law K) := by
  have e := hfa.symm.trans (PySem.W.mg_of X G a7)
  cases e
  let T : Txt K mg :=
    { f_p_stretches := f1,
      d_p_stretches := _,
      F_p_stretches := fun_mk (st := s_p_stretches) l1 c1 k1,
      b_p_stretches := (fun_mk (st := s_p_stretches) l1 c1 k1).binds (ps := ["values"]) fun _ _ _ _ _ _ us hl => match us, hl with | [_], _ => rfl,
      g_p_stretches := PySem.W.mg_of X G a1,
      f_l_cell := f2,
      d_l_cell := _,
      F_l_cell := fun_mk (st := s_l_cell) l2 c2 k2,
      b_l_cell := (fun_mk (st := s_l_cell) l2 c2 k2).binds (ps := ["_law_script", "_law_at"]) fun _ _ _ _ _ _ us hl => match us, hl with | [_, _], _ => rfl,
      g_l_cell := PySem.W.mg_of X G a2,
      f_l_row := f3,
      d_l_row := _,
      F_l_row := fun_mk (st := s_l_row) l3 c3 k3,
      b_l_row := (fun_mk (st := s_l_row) l3 c3 k3).binds (ps := ["_law_cell_here", "_law_many", "_law_size"]) fun _ _ _ _ _ _ us hl => match us, hl with | [_, _, _], _ => rfl,
      g_l_row := PySem.W.mg_of X G a3,
      f_l_like := f4,
      d_l_like := _,
      F_l_like := fun_mk (st := s_l_like) l4 c4 k4,
      b_l_like := (fun_mk (st := s_l_like) l4 c4 k4).binds (ps := ["_law_found", "_law_due_here"]) fun _ _ _ _ _ _ us hl => match us, hl with | [_, _], _ => rfl,
      g_l_like := PySem.W.mg_of X G a4,
      f_l_values := f5,
      d_l_values := _,
      F_l_values := fun_mk (st := s_l_values) l5 c5 k5,
      b_l_values := (fun_mk (st := s_l_values) l5 c5 k5).binds (ps := ["_law_script", "_law_at", "_law_most"]) fun _ _ _ _ _ _ us hl => match us, hl with | [_, _, _], _ => rfl,
      g_l_values := PySem.W.mg_of X G a5,
      f_l_due := f6,
      d_l_due := _,
      F_l_due := fun_mk (st := s_l_due) l6 c6 k6,
      b_l_due := (fun_mk (st := s_l_due) l6 c6 k6).binds (ps := ["_law_values_here"]) fun _ _ _ _ _ _ us hl => match us, hl with | [_], _ => rfl,
      g_l_due := PySem.W.mg_of X G a6,
      m_zip := PySem.W.mg_none_of X G z_zip,
      m_enumerate := PySem.W.mg_none_of X G z_enumerate,
      m_len := PySem.W.mg_none_of X G z_len,
      m_range := PySem.W.mg_none_of X G z_range,
      m_isinstance := PySem.W.mg_none_of X G z_isinstance,
      m_bool := PySem.W.mg_none_of X G z_bool,
      m_int := PySem.W.mg_none_of X G z_int,
      m_str := PySem.W.mg_none_of X G z_str,
      m_all := PySem.W.mg_none_of X G z_all,
      m_list := PySem.W.mg_none_of X G z_list,
      m_tuple := PySem.W.mg_none_of X G z_tuple }
  exact ⟨PySem.W.fnOf "law" "law" (defArgs s_law) (defBody s_law) (defScope s_law) .none kV7 dc7 pm7 an7 cd7 ct7, fun s v => .of_eq rfl, fun base _ _ => ok_law T (fun_mk (st := s_law) l7 c7 k7)⟩
end Mw
open PySem PySem.W PyProof.Rows
set_option maxRecDepth 100000 in
set_option maxHeartbeats 0 in
theorem PySem.Challenge.cw_mastword_k14_rows_that_differ_holds : PySem.Challenge.rw_mastword_k14_rows_that_differ.Holds := by
  w_on; o_law; k_head; (case hw => w_witness2)
  k_fill
  refine L2.walk_of (l := PySem.Challenge.rw_mastword_k14_rows_that_differ) (n := 63) (k := 8) (x := "_law_script") (CX := fun _ => L2.CX0) (sp := fun w => Mw.sp_law _) rfl (by decide) rfl ⟨rfl, by decide, by decide⟩ (fun w h Y => PySem.W.kIn_of Y) ?F (fun _ _ a ns hl _ hS => ⟨a, ns, rfl, hS, hl, fun _ => rfl⟩) (fun _ _ _ _ _ h => h)
  case F =>
    intro w mg fa h KX G hmg
    refine' Mw.all_mk KX G hmg ?a1 ?l1 ?c1 ?k1 ?a2 ?l2 ?c2 ?k2 ?a3 ?l3 ?c3 ?k3 ?a4 ?l4 ?c4 ?k4 ?a5 ?l5 ?c5 ?k5 ?a6 ?l6 ?c6 ?k6 ?a7 ?l7 ?c7 ?k7 ?z_zip ?z_enumerate ?z_len ?z_range ?z_isinstance ?z_bool ?z_int ?z_str ?z_all ?z_list ?z_tuple
    (case a1 => k_is)
    (case l1 => k_is)
    (case c1 => k_is)
    (case k1 => k_is)
    (case a2 => k_is)
    (case l2 => k_is)
    (case c2 => k_is)
    (case k2 => k_is)
    (case a3 => k_is)
    (case l3 => k_is)
    (case c3 => k_is)
    (case k3 => k_is)
    (case a4 => k_is)
    (case l4 => k_is)
    (case c4 => k_is)
    (case k4 => k_is)
    (case a5 => k_is)
    (case l5 => k_is)
    (case c5 => k_is)
    (case k5 => k_is)
    (case a6 => k_is)
    (case l6 => k_is)
    (case c6 => k_is)
    (case k6 => k_is)
    (case a7 => k_is)
    (case l7 => k_is)
    (case c7 => k_is)
    (case k7 => k_is)
    (case z_zip => k_is)
    (case z_enumerate => k_is)
    (case z_len => k_is)
    (case z_range => k_is)
    (case z_isinstance => k_is)
    (case z_bool => k_is)
    (case z_int => k_is)
    (case z_str => k_is)
    (case z_all => k_is)
    (case z_list => k_is)
    (case z_tuple => k_is)
