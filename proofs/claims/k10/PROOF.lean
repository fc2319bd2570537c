import PyProof.Rows.All
import Wide.All
import OpenK.AllK
import Wide.FinOn
import HandS.ForMost
import HandS.ForExc
import HandS.AnyAll
import HandS.EndTab
import HandS.ExcIs
import HandS.ExcField
import HandS.ExcInit
import HandS.IsInst
import HandS.Conv
import HandS.Replace
import HandS.Flow
import HandS.Walk
import HandS.Evl
import KE.KExcIs
import HandS.EndOwn
import HandS.CallRecv
import PySem.Challenge.RW_mastword_k10_why_a_keeper_waits
set_option Elab.async false
set_option linter.all false
set_option maxRecDepth 100000
set_option maxHeartbeats 2000000
namespace Mw
open PySem PySem.Spec PyProof.Rows L2
/-! ### what is kept: every tracked thing but the tables of code objects, which stay tables -/
def isT : HO → Bool
  | .tbl _ => true
  | _ => false
structure Kp (H H' : Hp) : Prop where
  same : ∀ a o, isT o = false → H a = some o → H' a = some o
  tab : ∀ a, GxR.TabG H a → GxR.TabG H' a
  free : ∀ a, H' a = none → H a = none
theorem Kp.refl (H : Hp) : Kp H H := ⟨fun _ _ _ h => h, fun _ h => h, fun _ h => h⟩
theorem Kp.trans {H H1 H2 : Hp} (a : Kp H H1) (b : Kp H1 H2) : Kp H H2 :=
  ⟨fun x o t h => b.same x o t (a.same x o t h), fun x h => b.tab x (a.tab x h), fun x h => a.free x (b.free x h)⟩
theorem Kp.mut {H H' : Hp} {p : Addr} {o : HO} (e : Kp H H') (h : H p = none) : Kp H (upd H' p o) := by
  refine ⟨fun a u t ha => ?_, fun a ⟨ps, ha, ht⟩ => ?_, fun a ha => ?_⟩
  · rw [upd_ne (ne_of_none ha h)]
    exact e.same a u t ha
  · obtain ⟨ps', h1, h2⟩ := e.tab a ⟨ps, ha, ht⟩
    exact ⟨ps', by rw [upd_ne (ne_of_none ha h)]; exact h1, h2⟩
  · by_cases q : a = p
    · rw [q]
      exact h
    · rw [upd_ne q] at ha
      exact e.free a ha
theorem Kp.new {H : Hp} {p : Addr} {o : HO} (h : H p = none) : Kp H (upd H p o) := (Kp.refl H).mut h
theorem Kp.rd {H H' : Hp} {a : Addr} {u : HO} (e : Kp H H') (t : isT u = false) (h : Rd H a u) : Rd H' a u := by
  rcases h with h | ⟨o, h⟩
  · exact Or.inl (e.same a _ t h)
  · exact Or.inr ⟨o, e.same a _ rfl h⟩
theorem Kp.sqL {K : PySem.W.Frag} {H H' : Hp} {a : Addr} {xs : List V} (e : Kp H H') (h : SqL K H a xs) : SqL K H' a xs := by
  rcases h with h | h
  · exact Or.inl (e.rd rfl h)
  · exact Or.inr h
theorem Kp.sqT {K : PySem.W.Frag} {H H' : Hp} {a : Addr} {xs : List V} (e : Kp H H') (h : SqT K H a xs) : SqT K H' a xs := by
  rcases h with h | h
  · exact Or.inl (e.rd rfl h)
  · exact Or.inr h
mutual
theorem Kp.dp {K : PySem.W.Frag} {H H' : Hp} (e : Kp H H') : ∀ {d : PyData} {v : V}, Dp K H v d → Dp K H' v d
  | _, _, .non => .non
  | _, _, .bl b => .bl b
  | _, _, .int i => .int i
  | _, _, .str x => .str x
  | _, _, .lst h a => .lst (e.sqL h) (Kp.dpAll e a)
  | _, _, .tup h a => .tup (e.sqT h) (Kp.dpAll e a)
theorem Kp.dpAll {K : PySem.W.Frag} {H H' : Hp} (e : Kp H H') : ∀ {ds : List PyData} {vs : List V}, DpAll K H vs ds → DpAll K H' vs ds
  | _, _, .nil => .nil
  | _, _, .cons h t => .cons (Kp.dp e h) (Kp.dpAll e t)
end
theorem DpAll.len {K : PySem.W.Frag} {H : Hp} : ∀ {vs : List V} {ds : List PyData}, DpAll K H vs ds → vs.length = ds.length
  | _, _, .nil => rfl
  | _, _, .cons _ t => congrArg (· + 1) (DpAll.len t)
theorem DpAll.get {K : PySem.W.Frag} {H : Hp} : ∀ {vs : List V} {ds : List PyData} {i : Nat} {d : PyData}, DpAll K H vs ds → ds[i]? = some d → ∃ v, vs[i]? = some v ∧ Dp K H v d
  | _, _, i, d, .nil, h => by simp at h
  | _, _, 0, d, .cons a _, h => by
    have e := Option.some.inj h
    subst e
    exact ⟨_, rfl, a⟩
  | _, _, i + 1, d, .cons _ t, h => DpAll.get (i := i) t h
theorem DpAll.app {K : PySem.W.Frag} {H : Hp} : ∀ {vs ws : List V} {ds es : List PyData}, DpAll K H vs ds → DpAll K H ws es → DpAll K H (vs ++ ws) (ds ++ es)
  | _, _, _, _, .nil, b => b
  | _, _, _, _, .cons a t, b => .cons a (DpAll.app t b)
/-- data without lists -/
inductive Nl : PyData → Prop
  | non : Nl .none
  | bl (b : Bool) : Nl (.bool b)
  | int (i : Int) : Nl (.int i)
  | str (x : Str) : Nl (.str x)
  | tup {ds : List PyData} : (∀ d ∈ ds, Nl d) → Nl (.tuple ds)
/-! a list may change: what has no list in it stays -/
mutual
theorem Dp.mut {K : PySem.W.Frag} {H : Hp} {p : Addr} {o : HO} {zs : List V} (hp : H p = some (.lst zs)) : ∀ {d : PyData} {v : V}, Nl d → Dp K H v d → Dp K (upd H p o) v d
  | _, _, _, .non => .non
  | _, _, _, .bl b => .bl b
  | _, _, _, .int i => .int i
  | _, _, _, .str x => .str x
  | _, _, n, .lst _ _ => nomatch n
  | _, _, n, .tup h a => by
    cases n with
    | tup n =>
      refine .tup ?_ (DpAll.mut hp n a)
      rcases h with (h | ⟨ob, h⟩) | h
      · exact .inl (.inl (by rw [upd_ne (ne_of h hp (by intro z; cases z))]; exact h))
      · exact .inl (.inr ⟨ob, by rw [upd_ne (ne_of h hp (by intro z; cases z))]; exact h⟩)
      · exact .inr h
theorem DpAll.mut {K : PySem.W.Frag} {H : Hp} {p : Addr} {o : HO} {zs : List V} (hp : H p = some (.lst zs)) : ∀ {ds : List PyData} {vs : List V}, (∀ d ∈ ds, Nl d) → DpAll K H vs ds → DpAll K (upd H p o) vs ds
  | _, _, _, .nil => .nil
  | _, _, n, .cons h t => .cons (Dp.mut hp (n _ List.mem_cons_self) h) (DpAll.mut hp (fun d hd => n d (List.mem_cons_of_mem _ hd)) t)
end
theorem DpAll.snoc {K : PySem.W.Frag} {H : Hp} {vs : List V} {ds : List PyData} {v : V} {d : PyData} (a : DpAll K H vs ds) (h : Dp K H v d) : DpAll K H (vs ++ [v]) (ds ++ [d]) := DpAll.app a (.cons h .nil)
theorem DpAll.dropLast {K : PySem.W.Frag} {H : Hp} : ∀ {vs : List V} {ds : List PyData}, DpAll K H vs ds → DpAll K H vs.dropLast ds.dropLast
  | _, _, .nil => .nil
  | _, _, .cons _ .nil => .nil
  | _, _, .cons h (.cons h2 t) => .cons h (DpAll.dropLast (.cons h2 t))
theorem dp_ints {K : PySem.W.Frag} {H : Hp} : ∀ ns : List Int, DpAll K H (ns.map V.int) (ns.map PyData.int)
  | [] => .nil
  | n :: r => .cons (.int n) (dp_ints r)
theorem dp_strs {K : PySem.W.Frag} {H : Hp} : ∀ ns : List Str, DpAll K H (ns.map V.str) (ns.map PyData.str)
  | [] => .nil
  | n :: r => .cons (.str n) (dp_strs r)
/-- a list of ints, a list of texts as data -/
def dI (ns : List Int) : PyData := .list (ns.map PyData.int)
def dS (ns : List Str) : PyData := .list (ns.map PyData.str)
theorem dp_dI {K : PySem.W.Frag} {H : Hp} {a : Addr} {ns : List Int} (h : SqL K H a (ns.map V.int)) : Dp K H (.ref a) (dI ns) := .lst h (dp_ints ns)
theorem dpAll_ints {K : PySem.W.Frag} {H : Hp} : ∀ {ns : List Int} {vs : List V}, DpAll K H vs (ns.map PyData.int) → vs = ns.map V.int
  | [], _, .nil => rfl
  | n :: r, _, .cons h t => by
    cases h
    rw [dpAll_ints t]
    rfl
theorem dp_of_dI {K : PySem.W.Frag} {H : Hp} {v : V} {ns : List Int} (h : Dp K H v (dI ns)) : ∃ a, v = .ref a ∧ SqL K H a (ns.map V.int) := by
  cases h with
  | lst h t =>
    rw [dpAll_ints t] at h
    exact ⟨_, rfl, h⟩
/-! ### small words -/
theorem at_int {ns : List Int} {j : Nat} (h : j < ns.length) : atI (ns.map V.int) (j : Int) = some (.int ns[j]) := atI_nat (by rw [List.getElem?_map, List.getElem?_eq_getElem h]; rfl)
theorem at_intZ {ns : List Int} {z : Int} (h0 : 0 ≤ z) (h : z.toNat < ns.length) : atI (ns.map V.int) z = some (.int ns[z.toNat]) := by
  have e := at_int h
  rw [Int.toNat_of_nonneg h0] at e
  exact e
theorem szl {n : Nat} (h : n ≤ 100000) : n ≤ sizeLine := Nat.le_trans h (by decide)
theorem szt {n : Nat} (h : n < 100000) : n < sizeLine := Nat.lt_of_lt_of_le h (by decide)
theorem iteB {b : Bool} {A B : Prop} (h1 : b = true → A) (h2 : b = false → B) : if b = true then A else B := by
  cases b with
  | true => rw [if_pos rfl]; exact h1 rfl
  | false => rw [if_neg Bool.false_ne_true]; exact h2 rfl
theorem iteD {c : Prop} [Decidable c] {A B : Prop} (h1 : c → A) (h2 : ¬ c → B) : if decide c = true then A else B :=
  iteB (fun h => h1 (of_decide_eq_true h)) (fun h => h2 (of_decide_eq_false h))
theorem iteN {c : Prop} [Decidable c] {A B : Prop} (h1 : ¬ c → A) (h2 : c → B) : if (!decide c) = true then A else B :=
  iteB (fun h => h1 (fun z => by rw [decide_eq_true z] at h; cases h)) (fun h => h2 (by
    by_cases z : c
    · exact z
    · rw [decide_eq_false z] at h; cases h))
theorem iteTo {b : Bool} {A B : Prop} (e : b = true) (h : A) : if b = true then A else B := by rw [if_pos e]; exact h
theorem iteFo {b : Bool} {A B : Prop} (e : b = false) (h : B) : if b = true then A else B := by rw [e, if_neg Bool.false_ne_true]; exact h
/-! ### rules with the written part by its own name (inside a comprehension) -/
section
variable {X : Cx} (K : PySem.W.Frag)
theorem ix_listK (h : X.K = K) : IxR X (rIxL K) := h ▸ ix_list
theorem ix_tupK (h : X.K = K) : IxR X (rIxT K) := h ▸ ix_tup
theorem ix_seqK (h : X.K = K) : IxR X (rIx K) := h ▸ ix_seq
def rLenSq : List V → Hp → VK → Prop := fun xs H Q => ∃ p ys, xs = [.ref p] ∧ (SqL K H p ys ∨ SqT K H p ys) ∧ Q (.int ys.length) H
theorem call_lenSK (h : X.K = K) : CallR X (.builtin "len") (rLenSq K) := h ▸ call_len_seq
def rLenV : List V → Hp → VK → Prop := fun xs H Q => ∃ x n, xs = [x] ∧ LenV K x H n ∧ Q (.int n) H
theorem call_lenK (h : X.K = K) : CallR X (.builtin "len") (rLenV K) := h ▸ call_len
theorem op_inK (h : X.K = K) : OpR X (compareOp .In) (rIn K false) := h ▸ op_in_seq
theorem op_notInK (h : X.K = K) : OpR X (compareOp .NotIn) (rIn K true) := h ▸ op_notIn_seq
theorem op_eqDK (h : X.K = K) (hu : X.A.units + 64 < cLine) : OpR X (compareOp .Eq) (rEqD K) := h ▸ op_eqD hu
theorem op_neDK (h : X.K = K) (hu : X.A.units + 64 < cLine) : OpR X (compareOp .NotEq) (rNeD K) := h ▸ op_neD hu
theorem call_isiKK (h : X.K = K) : CallR X (.builtin "isinstance") (rIsi K) := h ▸ call_isi
end
section
variable {X : Cx} (K : PySem.W.Frag)
theorem pgK {e : Expr} {n : Nat} {t : TGs} (h : X.K = K) (p : PG X e (gTup X.K n t)) : PG X e (gTup K n t) := h ▸ p
/-- isinstance(e, C), e what the suite has caught (without or with a dict of its own) -/
def rIsX (cls : Value) (d : Option Addr) (a : Addr) : List V → Hp → VK → Prop := fun xs H Q => ∃ (D : Addr) (c : V) (cv : Value) (b : Bool), cls = .ref D ∧ (d = none ∨ ∃ dd fs, d = some dd ∧ H dd = some (.xd fs)) ∧ ExcC K D ∧ xs = [.ref a, c] ∧ ClsV c cv ∧ PySem.W.kitOne K (.ref D) cv = some b ∧ Q (.bl b) H
theorem call_isX {a : Addr} {oe : Obj} {pn : List (Addr × Obj)} {cls : Value} {d : Option Addr} (h : X.K = K) (hz : Zc cls d oe) (hf : ∃ vs, oe.data = .fields vs) : CallR (X.suite a ((a, oe) :: pn)) (.builtin "isinstance") (rIsX K cls d a) := by
  subst h
  intro pins s σ H xs us Q I r h'
  obtain ⟨D, c, cv, b, rfl, hd, C, rfl, hc, hk, q⟩ := h'
  cases r with | cons rx rr =>
  cases rr with | cons rt rr =>
  cases rr
  cases rx
  have ec := hc.eq rt
  subst ec
  obtain ⟨hget, _⟩ := I.pin (a, oe) (List.mem_append_left _ List.mem_cons_self)
  obtain ⟨vs, hv⟩ := hf
  have hcl : (PySem.W.clsIn X.K D).isSome = true := by
    obtain ⟨cd, hc, _⟩ := PySem.W.any_some C.hd
    rw [hc]
    first | rfl | done
  have nc : PySem.W.notCls oe = true := by
    unfold PySem.W.notCls
    rw [hv]
  rcases hd with rfl | ⟨dd, fs, rfl, hdd⟩
  · have J : PySem.W.InstAt s.heap a oe D none := ⟨hget, hz.1, nc, by rw [hz.2]; trivial⟩
    exact PySem.W.kia_one (PySem.W.kitx_exc hcl C.hg C.hk C.hs C.ha C.hn C.ht C.hm) I.kIn J hk (fun z => nomatch z) fun tk => ⟨.bl b, H, I.kept (t' := tk) fun _ _ z => z, rfl, q⟩
  · obtain ⟨mA, hns, hr⟩ := I.hok dd _ hdd
    obtain ⟨od, ho, hl⟩ := lookIn_ns hns
    have J : PySem.W.InstAt s.heap a oe D (some od) := ⟨hget, hz.1, nc, by rw [hz.2]; exact ho⟩
    exact PySem.W.kia_one (PySem.W.kitx_exc hcl C.hg C.hk C.hs C.ha C.hn C.ht C.hm) I.kIn J hk (fun z => nomatch z) fun tk => ⟨.bl b, H, I.kept (t' := tk) fun _ _ z => z, rfl, q⟩
end
/-! ### isinstance of an own error, by what the written part says of its class -/
theorem kit_sub {K : PySem.W.Frag} {t : Value} {C : Addr} (ic : PySem.W.isClsIn K C = true) (tC : PySem.W.typeIn K (.ref C) = some (.type "type")) (h : PySem.W.subIn K t (.ref C) = some true) : PySem.W.kitOne K t (.ref C) = some true := by
  unfold PySem.W.kitOne
  by_cases e : (t == .ref C) = true
  · rw [if_pos e]
  · rw [if_neg e]
    have h2 : ((PySem.W.clsIn K C).isSome && PySem.W.typeIn K (.ref C) == some (.type "type")) = true := by
      have q : (PySem.W.clsIn K C).isSome = true := ic
      rw [q, tC]
      rfl
    show (if ((PySem.W.clsIn K C).isSome && PySem.W.typeIn K (.ref C) == some (.type "type")) = true then PySem.W.subIn K t (.ref C) else none) = some true
    rw [if_pos h2]
    exact h
theorem kit_not {K : PySem.W.Frag} {t : Value} {C : Addr} (ic : PySem.W.isClsIn K C = true) (tC : PySem.W.typeIn K (.ref C) = some (.type "type")) (h : PySem.W.subIn K t (.ref C) = some false) (hs : PySem.W.subIn K t t = some true) : PySem.W.kitOne K t (.ref C) = some false := by
  unfold PySem.W.kitOne
  have e : ¬ (t == .ref C) = true := fun e => by
    have z : t = .ref C := by simpa using e
    rw [z] at h hs
    rw [h] at hs
    cases hs
  rw [if_neg e]
  have h2 : ((PySem.W.clsIn K C).isSome && PySem.W.typeIn K (.ref C) == some (.type "type")) = true := by
    have q : (PySem.W.clsIn K C).isSome = true := ic
    rw [q, tC]
    rfl
  show (if ((PySem.W.clsIn K C).isSome && PySem.W.typeIn K (.ref C) == some (.type "type")) = true then PySem.W.subIn K t (.ref C) else none) = some false
  rw [if_pos h2]
  exact h
theorem meta_ve : PySem.W.kitMeta "ValueError" = true := by decide +kernel
theorem kit_ve {K : PySem.W.Frag} {C : Addr} (h : PySem.W.subIn K (.ref C) (.type "ValueError") = some true) : PySem.W.kitOne K (.ref C) (.type "ValueError") = some true := by
  unfold PySem.W.kitOne
  rw [if_neg (by intro z; cases z)]
  show (if PySem.W.kitMeta "ValueError" = true then PySem.W.subIn K (.ref C) (.type "ValueError") else none) = some true
  rw [if_pos meta_ve]
  exact h
theorem at_mod (z : Str) {m : Int} {n : Nat} (hn : 0 < n) (hl : z.cps.toList.length = n) : ∃ c, atI z.cps.toList (m % (n : Int)) = some c := by
  have h0 : 0 ≤ m % (n : Int) := Int.emod_nonneg _ (by omega)
  have h1 : m % (n : Int) < (n : Int) := Int.emod_lt_of_pos _ (by omega)
  have hj : (m % (n : Int)).toNat < z.cps.toList.length := by omega
  refine ⟨z.cps.toList[(m % (n : Int)).toNat], ?_⟩
  have e := atI_nat (List.getElem?_eq_getElem hj)
  rw [Int.toNat_of_nonneg h0] at e
  exact e
theorem cutV_map {lo hi : Option Int} {ns : List Int} : ∃ ms : List Int, cutV (ns.map V.int) lo hi = ms.map V.int ∧ (∀ m ∈ ms, m ∈ ns) ∧ ms.length ≤ ns.length := by
  unfold cutV
  rw [List.length_map]
  refine ⟨(ns.drop _).take _, by rw [List.map_take, List.map_drop], fun m h => List.mem_of_mem_drop (List.mem_of_mem_take h), ?_⟩
  rw [List.length_take, List.length_drop]
  omega
theorem mem_ints {ns : List Int} {i : Nat} {x : V} (h : (ns.map V.int)[i]? = some x) : ∃ z, z ∈ ns ∧ x = .int z ∧ ns[i]? = some z := by
  rw [List.getElem?_map] at h
  cases e : ns[i]? with
  | none =>
    rw [e] at h
    cases h
  | some z =>
    rw [e] at h
    exact ⟨z, List.mem_of_getElem? e, (Option.some.inj h).symm, rfl⟩
theorem mem_strs {ns : List Str} {i : Nat} {x : V} (h : (ns.map V.str)[i]? = some x) : ∃ z, z ∈ ns ∧ x = .str z ∧ ns[i]? = some z := by
  rw [List.getElem?_map] at h
  cases e : ns[i]? with
  | none =>
    rw [e] at h
    cases h
  | some z =>
    rw [e] at h
    exact ⟨z, List.mem_of_getElem? e, (Option.some.inj h).symm, rfl⟩
theorem take_snoc {α : Type} {l : List α} {i : Nat} {z : α} (h : l[i]? = some z) : l.take (i + 1) = l.take i ++ [z] := by
  rw [List.take_succ, h]
  rfl
def top (i : Nat) : Stmt := PySem.Challenge.pw_mastword_k10_why_a_keeper_waits.main.body.getD i (.Pass ⟨0, 0, 0, 0⟩)
abbrev s_p_reason : Stmt := top 3
theorem sc_p_reason : FnScope ["shown", "waits", "asleep", "fogs", "place"] ["shown", "waits", "asleep", "fogs", "place"] (defScope s_p_reason) := ⟨rfl, rfl, rfl, by decide +kernel, rfl, by decide +kernel, by decide +kernel⟩
abbrev s_p_hindrance_behind : Stmt := top 4
theorem sc_p_hindrance_behind : FnScope ["shown", "waits", "fogs", "place", "rests"] ["shown", "waits", "fogs", "place"] (defScope s_p_hindrance_behind) := ⟨rfl, rfl, rfl, by decide +kernel, rfl, by decide +kernel, by decide +kernel⟩
abbrev s_p_hindrance_ahead : Stmt := top 5
theorem sc_p_hindrance_ahead : FnScope ["shown", "fogs", "place", "rests"] ["shown", "fogs", "place"] (defScope s_p_hindrance_ahead) := ⟨rfl, rfl, rfl, by decide +kernel, rfl, by decide +kernel, by decide +kernel⟩
abbrev s_l_cell : Stmt := top 7
theorem sc_l_cell : FnScope ["_law_script", "_law_at"] ["_law_script", "_law_at"] (defScope s_l_cell) := ⟨rfl, rfl, rfl, by decide +kernel, rfl, by decide +kernel, by decide +kernel⟩
abbrev s_l_row : Stmt := top 8
theorem sc_l_row : FnScope ["_law_cell_here", "_law_many", "_law_size", "_law_row_here", "_law_rest", "_law_k", "_law_seed", "_law_mixed"] ["_law_cell_here", "_law_many", "_law_size"] (defScope s_l_row) := ⟨rfl, rfl, rfl, by decide +kernel, rfl, by decide +kernel, by decide +kernel⟩
abbrev s_l_like : Stmt := top 9
theorem sc_l_like : FnScope ["_law_found", "_law_due", "_law_k"] ["_law_found", "_law_due"] (defScope s_l_like) := ⟨rfl, rfl, rfl, by decide +kernel, rfl, by decide +kernel, by decide +kernel⟩
abbrev s_l_shown : Stmt := top 10
theorem sc_l_shown : FnScope ["_law_script", "_law_at", "_law_pick", "_law_many", "_law_nums", "_law_shown_here", "_law_asleep", "_law_fogs", "_law_place", "_law_num"] ["_law_script", "_law_at"] (defScope s_l_shown) := ⟨rfl, rfl, rfl, by decide +kernel, rfl, by decide +kernel, by decide +kernel⟩
abbrev s_l_reason : Stmt := top 11
theorem sc_l_reason : FnScope ["_law_shown_here", "_law_waits", "_law_asleep", "_law_fogs", "_law_place", "_law_rests"] ["_law_shown_here", "_law_waits", "_law_asleep", "_law_fogs", "_law_place"] (defScope s_l_reason) := ⟨rfl, rfl, rfl, by decide +kernel, rfl, by decide +kernel, by decide +kernel⟩
abbrev s_law : Stmt := top 12
theorem sc_law : FnScope ["_law_script", "_law_at", "_law_shown_here", "_law_waits", "_law_asleep", "_law_fogs", "_law_handed", "_law_place", "_law_due"] ["_law_script"] (defScope s_law) := ⟨rfl, rfl, rfl, by decide +kernel, rfl, by decide +kernel, by decide +kernel⟩
structure Txt (K : PySem.W.Frag) (mg : Str → Option Value) where
  f_p_reason : Addr
  d_p_reason : FuncData
  F_p_reason : Fun K "reason" "reason" s_p_reason f_p_reason d_p_reason
  b_p_reason : Binds K d_p_reason ["shown", "waits", "asleep", "fogs", "place"] []
  g_p_reason : mg "reason" = some (.ref f_p_reason)
  f_p_hindrance_behind : Addr
  d_p_hindrance_behind : FuncData
  F_p_hindrance_behind : Fun K "hindrance_behind" "hindrance_behind" s_p_hindrance_behind f_p_hindrance_behind d_p_hindrance_behind
  b_p_hindrance_behind : Binds K d_p_hindrance_behind ["shown", "waits", "fogs", "place"] []
  g_p_hindrance_behind : mg "hindrance_behind" = some (.ref f_p_hindrance_behind)
  f_p_hindrance_ahead : Addr
  d_p_hindrance_ahead : FuncData
  F_p_hindrance_ahead : Fun K "hindrance_ahead" "hindrance_ahead" s_p_hindrance_ahead f_p_hindrance_ahead d_p_hindrance_ahead
  b_p_hindrance_ahead : Binds K d_p_hindrance_ahead ["shown", "fogs", "place"] []
  g_p_hindrance_ahead : mg "hindrance_ahead" = some (.ref f_p_hindrance_ahead)
  f_l_cell : Addr
  d_l_cell : FuncData
  F_l_cell : Fun K "_law_cell" "_law_cell" s_l_cell f_l_cell d_l_cell
  b_l_cell : Binds K d_l_cell ["_law_script", "_law_at"] []
  g_l_cell : mg "_law_cell" = some (.ref f_l_cell)
  f_l_row : Addr
  d_l_row : FuncData
  F_l_row : Fun K "_law_row" "_law_row" s_l_row f_l_row d_l_row
  b_l_row : Binds K d_l_row ["_law_cell_here", "_law_many", "_law_size"] []
  g_l_row : mg "_law_row" = some (.ref f_l_row)
  f_l_like : Addr
  d_l_like : FuncData
  F_l_like : Fun K "_law_like" "_law_like" s_l_like f_l_like d_l_like
  b_l_like : Binds K d_l_like ["_law_found", "_law_due"] []
  g_l_like : mg "_law_like" = some (.ref f_l_like)
  f_l_shown : Addr
  d_l_shown : FuncData
  F_l_shown : Fun K "_law_shown" "_law_shown" s_l_shown f_l_shown d_l_shown
  b_l_shown : Binds K d_l_shown ["_law_script", "_law_at"] []
  g_l_shown : mg "_law_shown" = some (.ref f_l_shown)
  f_l_reason : Addr
  d_l_reason : FuncData
  F_l_reason : Fun K "_law_reason" "_law_reason" s_l_reason f_l_reason d_l_reason
  b_l_reason : Binds K d_l_reason ["_law_shown_here", "_law_waits", "_law_asleep", "_law_fogs", "_law_place"] []
  g_l_reason : mg "_law_reason" = some (.ref f_l_reason)
  u_REST : Value
  c_REST : mg "REST" = some u_REST
  r_REST : RelV (.int 0) u_REST
  u_READY : Value
  c_READY : mg "READY" = some u_READY
  r_READY : RelV (.str "ready") u_READY
  m_len : mg "len" = none
  m_range : mg "range" = none
  m_isinstance : mg "isinstance" = none
  m_bool : mg "bool" = none
  m_int : mg "int" = none
  m_str : mg "str" = none
  m_all : mg "all" = none
  m_list : mg "list" = none
  m_tuple : mg "tuple" = none
section
variable {P : Program} {w : World} {K : PySem.W.Frag} {mg : Str → Option Value} {base : Heap}
/-! ### _law_cell: an int of the script -/
def cellV (ns : List Int) (j : Nat) : Int :=
  if j < ns.length then ns.getD j 0 else if ns.length = 0 then 29 * (j : Int) + 5 else ns.getD (j % ns.length) 0 % 1000003 + 103 * (j : Int)
def sp_l_cell (K : PySem.W.Frag) : Sp := fun vs H Q _ => ∃ (l : Addr) (ns : List Int) (j : Nat), vs = [.ref l, .int j] ∧ SqL K H l (ns.map V.int) ∧ j ≤ 100000 ∧ Q (.int (cellV ns j)) H
theorem getD_at {ns : List Int} {j : Nat} (h : j < ns.length) : atI (ns.map V.int) (j : Int) = some (.int (ns.getD j 0)) := by
  rw [at_int h, List.getD_eq_getElem?_getD, List.getElem?_eq_getElem h]
  rfl
theorem ok_l_cell (T : Txt K mg) : FnOk P w K mg base CX0 1 T.f_l_cell T.d_l_cell ["_law_script", "_law_at"] (sp_l_cell K) := by
  refine T.F_l_cell.ok sc_l_cell (fun vs H Q E h => ?_) (fun cdv A outer s H vs Q E hr h => ?_)
  · obtain ⟨l, ns, j, rfl, _⟩ := h
    rfl
  · obtain ⟨l, ns, j, rfl, hS, hj, k⟩ := h
    have hlen : ((ns.map V.int).length : Int) = (ns.length : Int) := by rw [List.length_map]
    refine ⟨_, (pss_cons (ps_if (pt_cmpR op_lt (pv 1) (pe_callB call_len_seq (by rfl) T.m_len PySem.boot_len (pa_cons (pv 0) pa_nil)) (nomark _))
      (pss_one (ps_ret (pe_ix ix_list (pv 0) (pv 1) (fun _ _ => rfl))))
      pss_nil)
      (pss_cons (ps_if (pt_cmpR op_eq (pe_callB call_len_seq (by rfl) T.m_len PySem.boot_len (pa_cons (pv 0) pa_nil)) pe_int (nomark _))
      (pss_one (ps_ret (pe_op op_add (pe_op op_mul pe_int (pv 1)) pe_int)))
      pss_nil)
      (pss_one (ps_ret (pe_op op_add (pe_op op_mod (pe_ix ix_list (pv 0) (pe_op op_mod (pv 1) (pe_callB call_len_seq (by rfl) T.m_len PySem.boot_len (pa_cons (pv 0) pa_nil))) (fun _ _ => rfl)) pe_int) (pe_op op_mul pe_int (pv 1))))))), ?_⟩
    refine ⟨_, rfl, _, rfl, l, _, rfl, .inl hS, _, _, rfl, rfl, _, rfl, iteD (fun c => ?_) (fun c => ?_)⟩
    · rw [hlen] at c
      refine ⟨_, rfl, _, rfl, l, _, _, _, rfl, rfl, hS, getD_at (show j < ns.length by omega), ?_⟩
      have e : cellV ns j = ns.getD j 0 := if_pos (by omega)
      rw [e] at k
      exact k
    · rw [hlen] at c
      refine ⟨_, rfl, l, _, rfl, .inl hS, rfl, _, rfl, iteD (fun c2 => ?_) (fun c2 => ?_)⟩
      · have c3 : (ns.length : Int) = 0 := by
          have z := V.int.inj c2
          rw [hlen] at z
          exact z
        have e : cellV ns j = 29 * (j : Int) + 5 := by
          unfold cellV
          rw [if_neg (by omega), if_pos (by omega)]
        rw [e] at k
        exact ⟨_, rfl, _, _, rfl, rfl, .inl ⟨by decide, by decide⟩, _, _, rfl, rfl, k⟩
      · have c3 : ns.length ≠ 0 := fun z => c2 (by rw [hlen, z]; rfl)
        have hm : j % ns.length < ns.length := Nat.mod_lt _ (by omega)
        have e : cellV ns j = ns.getD (j % ns.length) 0 % 1000003 + 103 * (j : Int) := by
          unfold cellV
          rw [if_neg (by omega), if_neg c3]
        rw [e] at k
        have ea : atI (ns.map V.int) ((j : Int) % ((ns.map V.int).length : Int)) = some (.int (ns.getD (j % ns.length) 0)) := by
          rw [hlen, ← Int.natCast_emod]
          exact getD_at hm
        exact ⟨_, rfl, _, rfl, _, rfl, l, _, rfl, .inl hS, _, _, rfl, rfl, (by show (0 : Int) < ((ns.map V.int).length : Int); rw [hlen]; omega), l, _, _, _, rfl, rfl, hS, ea, _, _, rfl, rfl, (by show (0 : Int) < 1000003; decide), _, rfl, _, _, rfl, rfl, .inl ⟨by decide, by decide⟩, _, _, rfl, rfl, k⟩
/-! ### _law_like of one datum with itself -/
inductive Dn : Nat → PyData → Prop
  | non (n : Nat) : Dn (n + 1) .none
  | bl (n : Nat) (b : Bool) : Dn (n + 1) (.bool b)
  | int (n : Nat) (i : Int) : Dn (n + 1) (.int i)
  | str (n : Nat) (x : Str) : Dn (n + 1) (.str x)
  | lst {n : Nat} {ds : List PyData} : (∀ d ∈ ds, Dn n d) → ds.length ≤ 10000 → Dn (n + 1) (.list ds)
  | tup {n : Nat} {ds : List PyData} : (∀ d ∈ ds, Dn n d) → ds.length ≤ 10000 → Dn (n + 1) (.tuple ds)
def tyN : PyData → String
  | .none => "NoneType" | .bool _ => "bool" | .int _ => "int" | .str _ => "str" | .list _ => "list" | .tuple _ => "tuple" | .dict _ => "dict"
theorem ty_of {K : PySem.W.Frag} {H : Hp} {v : V} {d : PyData} (h : Dp K H v d) : TyX K H v (.type (tyN d)) := by
  cases h with
  | non => exact .base .non
  | bl b => exact .base (.bl b)
  | int i => exact .base (.int i)
  | str x => exact .base (.str x)
  | lst h _ =>
    rcases h with (h | ⟨o, h⟩) | ⟨o, its, n, e, c, _⟩
    · exact .base (.lst h)
    · exact .base (.frz h)
    · exact .kList e c
  | tup h _ =>
    rcases h with (h | ⟨o, h⟩) | ⟨o, its, n, e, c, _⟩
    · exact .base (.tup h)
    · exact .fTuple h
    · exact .kTuple e c
def sp_l_like (K : PySem.W.Frag) (n : Nat) : Sp := fun vs H Q _ => ∃ (u v : V) (d : PyData), vs = [u, v] ∧ Dp K H u d ∧ Dp K H v d ∧ Dn n d ∧ ∀ H', Kp H H' → Q (.bl true) H'
theorem fn_none {P : Program} {w : World} {K : PySem.W.Frag} {mg : Str → Option Value} {base : Heap} {f : Addr} {fd : FuncData} {ps : List Str} {sp : Sp} {k : Nat} (h : ∀ vs H Q E, ¬ sp vs H Q E) : FnOk P w K mg base CX0 k f fd ps sp :=
  ⟨fun vs H Q E q => (h vs H Q E q).elim, fun _ _ _ H _ _ vs Q E _ _ _ _ q => (h vs H Q E q).elim⟩
theorem bl_all {n : Nat} : ((List.replicate n true).map V.bl) = List.replicate n (V.bl true) := List.map_replicate
theorem all_rep (n : Nat) : (List.replicate n true).all id = true := by
  rw [List.all_eq_true]
  intro x hx
  rw [List.eq_of_mem_replicate hx]
  rfl
theorem k_bb : kitB "bool" "bool" = some true := by decide +kernel
theorem k_bi : kitB "bool" "int" = some true := by decide +kernel
theorem k_bs : kitB "bool" "str" = some false := by decide +kernel
theorem k_bl : kitB "bool" "list" = some false := by decide +kernel
theorem k_bt : kitB "bool" "tuple" = some false := by decide +kernel
theorem k_ib : kitB "int" "bool" = some false := by decide +kernel
theorem k_ii : kitB "int" "int" = some true := by decide +kernel
theorem k_is : kitB "int" "str" = some false := by decide +kernel
theorem k_il : kitB "int" "list" = some false := by decide +kernel
theorem k_it : kitB "int" "tuple" = some false := by decide +kernel
theorem k_sb : kitB "str" "bool" = some false := by decide +kernel
theorem k_si : kitB "str" "int" = some false := by decide +kernel
theorem k_ss : kitB "str" "str" = some true := by decide +kernel
theorem k_sl : kitB "str" "list" = some false := by decide +kernel
theorem k_st : kitB "str" "tuple" = some false := by decide +kernel
theorem k_lb : kitB "list" "bool" = some false := by decide +kernel
theorem k_li : kitB "list" "int" = some false := by decide +kernel
theorem k_ls : kitB "list" "str" = some false := by decide +kernel
theorem k_ll : kitB "list" "list" = some true := by decide +kernel
theorem k_lt : kitB "list" "tuple" = some false := by decide +kernel
theorem k_tb : kitB "tuple" "bool" = some false := by decide +kernel
theorem k_ti : kitB "tuple" "int" = some false := by decide +kernel
theorem k_ts : kitB "tuple" "str" = some false := by decide +kernel
theorem k_tl : kitB "tuple" "list" = some false := by decide +kernel
theorem k_tt : kitB "tuple" "tuple" = some true := by decide +kernel
theorem dec_self {x : V} : decide (x = x) = true := decide_eq_true rfl
theorem ok_l_like (T : Txt K mg) : ∀ n : Nat, FnOk P w K mg base CX0 n T.f_l_like T.d_l_like ["_law_found", "_law_due"] (sp_l_like K n)
  | 0 => fn_none fun vs H Q E ⟨u, v, d, _, _, _, h, _⟩ => nomatch h
  | n + 1 => by
    have IH := ok_l_like T n
    refine T.F_l_like.ok sc_l_like (fun vs H Q E h => ?_) (fun cdv A outer s H vs Q E hr h => ?_)
    · obtain ⟨u, v, d, rfl, _⟩ := h
      rfl
    · obtain ⟨u, v, d, rfl, hu, hv, hn, k⟩ := h
      have tu := ty_of hu
      have tv := ty_of hv
      refine ⟨_, (pss_cons (ps_if (pt_cmpR op_isN (pv 1) pe_non (nomark _))
      (pss_one (ps_ret (pe_cmpR op_isN (pv 0) pe_non (nomark _))))
      pss_nil)
      (pss_cons (ps_if (pt_val (pe_callB call_isi (by rfl) T.m_isinstance (by decide +kernel) (pa_cons (pv 1) (pa_cons (pe_bltn (v := .ty "bool") (by rfl) T.m_bool (by decide +kernel) rfl) pa_nil))))
      (pss_one (ps_ret (pe_and (pe_callB call_isi (by rfl) T.m_isinstance (by decide +kernel) (pa_cons (pv 0) (pa_cons (pe_bltn (v := .ty "bool") (by rfl) T.m_bool (by decide +kernel) rfl) pa_nil))) (pe_one (pe_cmpR op_eq (pv 0) (pv 1) (nomark _))))))
      pss_nil)
      (pss_cons (ps_if (pt_val (pe_callB call_isi (by rfl) T.m_isinstance (by decide +kernel) (pa_cons (pv 1) (pa_cons (pe_bltn (v := .ty "int") (by rfl) T.m_int (by decide +kernel) rfl) pa_nil))))
      (pss_one (ps_ret (pe_and (pe_callB call_isi (by rfl) T.m_isinstance (by decide +kernel) (pa_cons (pv 0) (pa_cons (pe_bltn (v := .ty "int") (by rfl) T.m_int (by decide +kernel) rfl) pa_nil))) (pe_and (pe_not (pe_callB call_isi (by rfl) T.m_isinstance (by decide +kernel) (pa_cons (pv 0) (pa_cons (pe_bltn (v := .ty "bool") (by rfl) T.m_bool (by decide +kernel) rfl) pa_nil)))) (pe_one (pe_cmpR op_eq (pv 0) (pv 1) (nomark _)))))))
      pss_nil)
      (pss_cons (ps_if (pt_val (pe_callB call_isi (by rfl) T.m_isinstance (by decide +kernel) (pa_cons (pv 1) (pa_cons (pe_bltn (v := .ty "str") (by rfl) T.m_str (by decide +kernel) rfl) pa_nil))))
      (pss_one (ps_ret (pe_and (pe_callB call_isi (by rfl) T.m_isinstance (by decide +kernel) (pa_cons (pv 0) (pa_cons (pe_bltn (v := .ty "str") (by rfl) T.m_str (by decide +kernel) rfl) pa_nil))) (pe_one (pe_cmpR op_eq (pv 0) (pv 1) (nomark _))))))
      pss_nil)
      (pss_cons (ps_if (PW.pt (pw_or (pt_cmpR op_ne (pe_callB call_isi (by rfl) T.m_isinstance (by decide +kernel) (pa_cons (pv 1) (pa_cons (pe_bltn (v := .ty "list") (by rfl) T.m_list (by decide +kernel) rfl) pa_nil))) (pe_callB call_isi (by rfl) T.m_isinstance (by decide +kernel) (pa_cons (pv 0) (pa_cons (pe_bltn (v := .ty "list") (by rfl) T.m_list (by decide +kernel) rfl) pa_nil))) (nomark _)) (pw_or1 (pt_cmpR op_ne (pe_callB call_isi (by rfl) T.m_isinstance (by decide +kernel) (pa_cons (pv 1) (pa_cons (pe_bltn (v := .ty "tuple") (by rfl) T.m_tuple (by decide +kernel) rfl) pa_nil))) (pe_callB call_isi (by rfl) T.m_isinstance (by decide +kernel) (pa_cons (pv 0) (pa_cons (pe_bltn (v := .ty "tuple") (by rfl) T.m_tuple (by decide +kernel) rfl) pa_nil))) (nomark _)))))
      (pss_one (ps_ret pe_bl))
      pss_nil)
      (pss_one (ps_ret (pe_and (pe_cmpR op_eq (pe_callB call_len (by rfl) T.m_len PySem.boot_len (pa_cons (pv 0) pa_nil)) (pe_callB call_len (by rfl) T.m_len PySem.boot_len (pa_cons (pv 1) pa_nil)) (nomark _)) (pe_one (pe_callB (cr_all rfl) (by rfl) T.m_all (by decide +kernel) (pa_cons (pe_lc (own := [("_law_k", 2)]) (g := gName 2) (tt := tYes) (by rfl) sc_l_like.nd (pi_range1 (by rfl) T.m_range (pa_cons (pe_callB call_len (by rfl) T.m_len PySem.boot_len (pa_cons (pv 1) pa_nil)) pa_nil)) (blkOk_by (own := [("_law_k", 2)]) (N := ["_law_found", "_law_due", "_law_k"]) (sc := defScope s_l_like) (by decide +kernel)) (fun _ _ _ _ _ => (pg_name (i := 2) sc_l_like.nd rfl (by first | exact Or.inl rfl | exact Or.inr rfl))) (fun _ _ _ _ _ => pts_nil) (fun _ _ _ _ _ => (pe_call IH hr rfl T.g_l_like T.F_l_like.kp T.b_l_like .nil pass0 (pa_cons (pe_ix (ix_seqK K rfl) (pv 0) (pv 2) (fun _ _ => rfl)) (pa_cons (pe_ix (ix_seqK K rfl) (pv 1) (pv 2) (fun _ _ => rfl)) pa_nil))))) pa_nil))))))))))), ?_⟩
      cases hn with
      | non n =>
        cases hu
        cases hv
        refine ⟨_, rfl, rfl, _, rfl, iteTo dec_self ?_⟩
        exact ⟨_, rfl, rfl, k _ (.refl _)⟩
      | bl n b =>
        cases hu
        cases hv
        refine ⟨_, rfl, rfl, _, rfl, iteFo rfl ?_⟩
        refine ⟨_, rfl, _, _, _, _, true, rfl, .ty _, tv, kit_ty k_bb, _, rfl, iteTo rfl ?_⟩
        refine ⟨_, rfl, _, _, _, _, true, rfl, .ty _, tu, kit_ty k_bb, _, rfl, iteTo rfl ?_⟩
        refine ⟨_, rfl, _, rfl, rfl, ?_⟩
        rw [dec_self]
        exact k _ (.refl _)
      | int n i =>
        cases hu
        cases hv
        refine ⟨_, rfl, rfl, _, rfl, iteFo rfl ?_⟩
        refine ⟨_, rfl, _, _, _, _, false, rfl, .ty _, tv, kit_ty k_ib, _, rfl, iteFo rfl ?_⟩
        refine ⟨_, rfl, _, _, _, _, true, rfl, .ty _, tv, kit_ty k_ii, _, rfl, iteTo rfl ?_⟩
        refine ⟨_, rfl, _, _, _, _, true, rfl, .ty _, tu, kit_ty k_ii, _, rfl, iteTo rfl ?_⟩
        refine ⟨_, rfl, _, _, _, _, false, rfl, .ty _, tu, kit_ty k_ib, _, rfl, _, rfl, iteTo rfl ?_⟩
        refine ⟨_, rfl, _, rfl, rfl, ?_⟩
        rw [dec_self]
        exact k _ (.refl _)
      | str n x =>
        cases hu
        cases hv
        refine ⟨_, rfl, rfl, _, rfl, iteFo rfl ?_⟩
        refine ⟨_, rfl, _, _, _, _, false, rfl, .ty _, tv, kit_ty k_sb, _, rfl, iteFo rfl ?_⟩
        refine ⟨_, rfl, _, _, _, _, false, rfl, .ty _, tv, kit_ty k_si, _, rfl, iteFo rfl ?_⟩
        refine ⟨_, rfl, _, _, _, _, true, rfl, .ty _, tv, kit_ty k_ss, _, rfl, iteTo rfl ?_⟩
        refine ⟨_, rfl, _, _, _, _, true, rfl, .ty _, tu, kit_ty k_ss, _, rfl, iteTo rfl ?_⟩
        refine ⟨_, rfl, _, rfl, rfl, ?_⟩
        rw [dec_self]
        exact k _ (.refl _)
      | lst hd hl =>
        rename_i ds
        cases hu with | lst hsu hau =>
        cases hv with | lst hsv hav =>
        rename_i a xs b ys
        have lx := DpAll.len hau
        have ly := DpAll.len hav
        refine ⟨_, rfl, rfl, _, rfl, iteFo rfl ?_⟩
        refine ⟨_, rfl, _, _, _, _, false, rfl, .ty _, tv, kit_ty k_lb, _, rfl, iteFo rfl ?_⟩
        refine ⟨_, rfl, _, _, _, _, false, rfl, .ty _, tv, kit_ty k_li, _, rfl, iteFo rfl ?_⟩
        refine ⟨_, rfl, _, _, _, _, false, rfl, .ty _, tv, kit_ty k_ls, _, rfl, iteFo rfl ?_⟩
        refine ⟨_, rfl, _, _, _, _, true, rfl, .ty _, tv, kit_ty k_ll, _, rfl, _, _, _, _, true, rfl, .ty _, tu, kit_ty k_ll, rfl, _, rfl, iteFo rfl ?_⟩
        refine ⟨_, rfl, _, _, _, _, false, rfl, .ty _, tv, kit_ty k_lt, _, rfl, _, _, _, _, false, rfl, .ty _, tu, kit_ty k_lt, rfl, _, rfl, iteFo rfl ?_⟩
        refine ⟨_, rfl, _, _, rfl, .inl ⟨_, hsu, rfl⟩, _, rfl, _, _, rfl, .inl ⟨_, hsv, rfl⟩, rfl, _, rfl, iteTo (decide_eq_true (congrArg (fun z : Nat => V.int (z : Int)) (lx.trans ly.symm))) ?_⟩
        refine ⟨_, rfl, _, _, rfl, .inl ⟨_, hsv, rfl⟩, _, rfl, by omega, by omega, fun D hD => ?_⟩
        rw [Int.toNat_natCast]
        refine lc_range (lo := 0) (n := ys.length) (fun i H' => Kp H H' ∧ H' D = some (.lst (List.replicate i (V.bl true)))) ⟨Kp.new hD, upd_same⟩ (fun i H' hi ⟨kp, hDl⟩ => ?_) (fun H' ⟨kp, hDl⟩ => ?_)
        · have e0 : (0 : Int) + (i : Int) = (i : Int) := Int.zero_add _
          obtain ⟨d, hdi⟩ : ∃ d, ds[i]? = some d := ⟨_, List.getElem?_eq_getElem (by omega)⟩
          obtain ⟨x, hx, dx⟩ := DpAll.get hau hdi
          obtain ⟨y, hy, dy⟩ := DpAll.get hav hdi
          refine ⟨rfl, ?_⟩
          refine ⟨_, rfl, _, rfl, .inl ⟨_, _, _, x, rfl, rfl, kp.sqL hsu, by rw [e0]; exact atI_nat hx, _, rfl, _, rfl, .inl ⟨_, _, _, y, rfl, rfl, kp.sqL hsv, by rw [e0]; exact atI_nat hy, ?_⟩⟩⟩
          refine ⟨x, y, d, rfl, kp.dp dx, kp.dp dy, hd d (List.mem_of_getElem? hdi), fun H2 k2 => ⟨_, k2.same _ _ rfl hDl, szt (by rw [List.length_replicate]; omega), ?_⟩⟩
          exact ⟨(kp.trans k2).mut hD, by rw [upd_same, List.replicate_succ']⟩
        · refine ⟨D, List.replicate ys.length true, rfl, .inl (.inl (by rw [bl_all]; exact hDl)), ?_⟩
          rw [all_rep]
          exact k _ kp
      | tup hd hl =>
        rename_i ds
        cases hu with | tup hsu hau =>
        cases hv with | tup hsv hav =>
        rename_i a xs b ys
        have lx := DpAll.len hau
        have ly := DpAll.len hav
        refine ⟨_, rfl, rfl, _, rfl, iteFo rfl ?_⟩
        refine ⟨_, rfl, _, _, _, _, false, rfl, .ty _, tv, kit_ty k_tb, _, rfl, iteFo rfl ?_⟩
        refine ⟨_, rfl, _, _, _, _, false, rfl, .ty _, tv, kit_ty k_ti, _, rfl, iteFo rfl ?_⟩
        refine ⟨_, rfl, _, _, _, _, false, rfl, .ty _, tv, kit_ty k_ts, _, rfl, iteFo rfl ?_⟩
        refine ⟨_, rfl, _, _, _, _, false, rfl, .ty _, tv, kit_ty k_tl, _, rfl, _, _, _, _, false, rfl, .ty _, tu, kit_ty k_tl, rfl, _, rfl, iteFo rfl ?_⟩
        refine ⟨_, rfl, _, _, _, _, true, rfl, .ty _, tv, kit_ty k_tt, _, rfl, _, _, _, _, true, rfl, .ty _, tu, kit_ty k_tt, rfl, _, rfl, iteFo rfl ?_⟩
        refine ⟨_, rfl, _, _, rfl, .inr ⟨_, hsu, rfl⟩, _, rfl, _, _, rfl, .inr ⟨_, hsv, rfl⟩, rfl, _, rfl, iteTo (decide_eq_true (congrArg (fun z : Nat => V.int (z : Int)) (lx.trans ly.symm))) ?_⟩
        refine ⟨_, rfl, _, _, rfl, .inr ⟨_, hsv, rfl⟩, _, rfl, by omega, by omega, fun D hD => ?_⟩
        rw [Int.toNat_natCast]
        refine lc_range (lo := 0) (n := ys.length) (fun i H' => Kp H H' ∧ H' D = some (.lst (List.replicate i (V.bl true)))) ⟨Kp.new hD, upd_same⟩ (fun i H' hi ⟨kp, hDl⟩ => ?_) (fun H' ⟨kp, hDl⟩ => ?_)
        · have e0 : (0 : Int) + (i : Int) = (i : Int) := Int.zero_add _
          obtain ⟨d, hdi⟩ : ∃ d, ds[i]? = some d := ⟨_, List.getElem?_eq_getElem (by omega)⟩
          obtain ⟨x, hx, dx⟩ := DpAll.get hau hdi
          obtain ⟨y, hy, dy⟩ := DpAll.get hav hdi
          refine ⟨rfl, ?_⟩
          refine ⟨_, rfl, _, rfl, .inr (.inl ⟨_, _, _, x, rfl, rfl, kp.sqT hsu, by rw [e0]; exact atI_nat hx, _, rfl, _, rfl, .inr (.inl ⟨_, _, _, y, rfl, rfl, kp.sqT hsv, by rw [e0]; exact atI_nat hy, ?_⟩)⟩)⟩
          refine ⟨x, y, d, rfl, kp.dp dx, kp.dp dy, hd d (List.mem_of_getElem? hdi), fun H2 k2 => ⟨_, k2.same _ _ rfl hDl, szt (by rw [List.length_replicate]; omega), ?_⟩⟩
          exact ⟨(kp.trans k2).mut hD, by rw [upd_same, List.replicate_succ']⟩
        · refine ⟨D, List.replicate ys.length true, rfl, .inl (.inl (by rw [bl_all]; exact hDl)), ?_⟩
          rw [all_rep]
          exact k _ kp
/-! ### _law_row: so many ints from nought to below a size -/
def Drawn0 (many size : Int) (xs : List Int) : Prop := (xs.length : Int) = many ∧ ∀ x ∈ xs, 0 ≤ x ∧ x < size
def sp_l_row : Sp := fun vs H Q _ => ∃ (c many size : Int), vs = [.int c, .int many, .int size] ∧ 0 ≤ many ∧ many ≤ 1000 ∧ 0 < size ∧ size < 1073741824 ∧
  ∀ (xs : List Int) (p : Addr) (H' : Hp), H p = none → Kp H H' → H' p = some (.lst (xs.map V.int)) → Drawn0 many size xs → Q (.ref p) H'
theorem snoc_in {size z : Int} {xs : List Int} (hs : 0 < size) (h : ∀ x ∈ xs, 0 ≤ x ∧ x < size) : ∀ x ∈ xs ++ [z % size], 0 ≤ x ∧ x < size := by
  intro x hx
  rcases List.mem_append.mp hx with hx | hx
  · exact h x hx
  · rw [List.mem_singleton.mp hx]
    exact ⟨Int.emod_nonneg _ (by omega), Int.emod_lt_of_pos _ hs⟩
theorem ok_l_row (T : Txt K mg) : FnOk P w K mg base CX0 1 T.f_l_row T.d_l_row ["_law_cell_here", "_law_many", "_law_size"] sp_l_row := by
  refine T.F_l_row.ok sc_l_row (fun vs H Q E h => ?_) (fun cdv A outer s H vs Q E hr h => ?_)
  · obtain ⟨c, many, size, rfl, _⟩ := h
    rfl
  · obtain ⟨c, many, size, rfl, hm0, hm1, hs0, hs1, k⟩ := h
    refine ⟨_, (pss_cons (ps_set (i := 3) sc_l_row.nd rfl (by first | exact Or.inl rfl | exact Or.inr rfl) (pe_lst pa_nil))
      (pss_cons (ps_if (pt_cmpR op_ge (pv 0) (pe_op op_pow pe_int pe_int) (nomark _))
      (pss_cons (ps_set (i := 4) sc_l_row.nd rfl (by first | exact Or.inl rfl | exact Or.inr rfl) (pe_op op_sub (pv 0) (pe_op op_pow pe_int pe_int)))
      (pss_cons (ps_for PassesOwn.never rfl (pi_range1 (by rfl) T.m_range (pa_cons (pv 1) pa_nil)) (pg_name (i := 5) sc_l_row.nd rfl (by first | exact Or.inl rfl | exact Or.inr rfl))
      (pss_cons (ps_expr (pe_bm PySem.F.plainAttrs_list PySem.F.slot_list_append PySem.F.type_list_append mt_append (pv 3) (pa_cons (pe_op op_mod (pv 4) (pv 2)) pa_nil)))
      (pss_one (ps_set (i := 4) sc_l_row.nd rfl (by first | exact Or.inl rfl | exact Or.inr rfl) (pe_op op_fdiv (pv 4) (pv 2))))))
      (pss_one (ps_ret (pv 3)))))
      pss_nil)
      (pss_cons (ps_set (i := 6) sc_l_row.nd rfl (by first | exact Or.inl rfl | exact Or.inr rfl) (pe_op op_mod (pv 0) pe_int))
      (pss_cons (ps_for PassesOwn.never rfl (pi_range1 (by rfl) T.m_range (pa_cons (pv 1) pa_nil)) (pg_name (i := 5) sc_l_row.nd rfl (by first | exact Or.inl rfl | exact Or.inr rfl))
      (pss_cons (ps_set (i := 6) sc_l_row.nd rfl (by first | exact Or.inl rfl | exact Or.inr rfl) (pe_op op_mod (pe_op op_add (pe_op op_add (pe_op op_mul (pv 6) pe_int) pe_int) (pv 5)) pe_int))
      (pss_cons (ps_set (i := 7) sc_l_row.nd rfl (by first | exact Or.inl rfl | exact Or.inr rfl) (pe_op op_mod (pe_op op_fdiv (pe_op op_mul (pv 6) (pe_op op_add (pe_op op_mod (pv 6) pe_int) pe_int)) pe_int) pe_int))
      (pss_one (ps_expr (pe_bm PySem.F.plainAttrs_list PySem.F.slot_list_append PySem.F.type_list_append mt_append (pv 3) (pa_cons (pe_op op_mod (pv 7) (pv 2)) pa_nil)))))))
      (pss_one (ps_ret (pv 3))))))), ?_⟩
    refine ⟨Nat.zero_le _, fun p np => ?_⟩
    generalize h_H1 : upd H p _ = H1
    have k_H1 : Kp H H1 := by rw [← h_H1]; exact .new np
    have q_H1 := (congrFun h_H1 p).symm.trans upd_same
    clear h_H1
    refine ⟨_, rfl, _, _, rfl, rfl, ⟨by decide, by decide, by decide⟩, _, _, rfl, rfl, _, rfl, iteD (fun c1 => ?_) (fun c1 => ?_)⟩
    · refine ⟨_, rfl, _, _, rfl, rfl, ⟨by decide, by decide, by decide⟩, _, _, rfl, rfl, ?_⟩
      refine ⟨_, rfl, many, rfl, by omega, by omega, ?_⟩
      refine for_range (lo := 0) (n := many.toNat) (fun i σ H' => ∃ (xs : List Int) (r : Int) (y : Option V), σ = [some (.int c), some (.int many), some (.int size), some (.ref p), some (.int r), y, none, none] ∧ Kp H H' ∧ H' p = some (.lst (xs.map V.int)) ∧ xs.length = i ∧ ∀ x ∈ xs, 0 ≤ x ∧ x < size)
        ⟨[], _, none, rfl, k_H1, q_H1, rfl, by simp⟩ ?_ ?_
      · rintro i σ H' hi ⟨xs, r, y, rfl, kp, hp, hl, hb⟩
        refine ⟨_, rfl, .inl ⟨rfl, _, SqL.of hp⟩, _, rfl, _, rfl, _, _, rfl, rfl, hs0, p, _, _, rfl, rfl, hp, szt (by rw [List.length_map]; omega), ?_⟩
        refine ⟨_, rfl, _, rfl, _, _, rfl, rfl, ⟨hs0, hs1⟩, ?_⟩
        refine ⟨xs ++ [r % size], _, _, rfl, kp.mut np, ?_, by rw [List.length_append, hl]; rfl, snoc_in hs0 hb⟩
        rw [upd_same, List.map_append]
        rfl
      · rintro σ H' ⟨xs, r, y, rfl, kp, hp, hl, hb⟩
        exact ⟨_, rfl, k xs p H' np kp hp ⟨by omega, hb⟩⟩
    · refine ⟨_, rfl, _, _, rfl, rfl, (by show (0 : Int) < 2147483647; decide), ?_⟩
      refine ⟨_, rfl, many, rfl, by omega, by omega, ?_⟩
      refine for_range (lo := 0) (n := many.toNat) (fun i σ H' => ∃ (xs : List Int) (r : Int) (y y2 : Option V), σ = [some (.int c), some (.int many), some (.int size), some (.ref p), none, y, some (.int r), y2] ∧ Kp H H' ∧ H' p = some (.lst (xs.map V.int)) ∧ xs.length = i ∧ ∀ x ∈ xs, 0 ≤ x ∧ x < size)
        ⟨[], _, none, none, rfl, k_H1, q_H1, rfl, by simp⟩ ?_ ?_
      · rintro i σ H' hi ⟨xs, r, y, y2, rfl, kp, hp, hl, hb⟩
        refine ⟨_, rfl, _, _, rfl, rfl, .inr ⟨by decide, by decide⟩, _, _, rfl, rfl, _, rfl, _, _, rfl, rfl, _, _, rfl, rfl, (by show (0 : Int) < 2147483647; decide), ?_⟩
        generalize hr2 : (fun (i j : Int) => V.int (i % j)) _ _ = sv
        obtain ⟨r2, rfl⟩ : ∃ r2 : Int, sv = .int r2 := ⟨_, hr2.symm⟩
        clear hr2
        have b0 : 0 ≤ r2 % 65521 := Int.emod_nonneg _ (by decide)
        have b1 : r2 % 65521 < 65521 := Int.emod_lt_of_pos _ (by decide)
        refine ⟨_, rfl, _, rfl, _, _, rfl, rfl, (by show (0 : Int) < 65521; decide), _, _, rfl, rfl, _, _, rfl, rfl, .inr ⟨by omega, by omega⟩, _, _, rfl, rfl, ⟨by decide, by decide⟩, _, _, rfl, rfl, (by show (0 : Int) < 1000003; decide), ?_⟩
        refine ⟨_, rfl, .inl ⟨rfl, _, SqL.of hp⟩, _, rfl, _, rfl, _, _, rfl, rfl, hs0, p, _, _, rfl, rfl, hp, szt (by rw [List.length_map]; omega), ?_⟩
        refine ⟨xs ++ [r2 * (r2 % 65521 + 3) / 1009 % 1000003 % size], r2, _, _, rfl, kp.mut np, ?_, by rw [List.length_append, hl]; rfl, snoc_in hs0 hb⟩
        rw [upd_same, List.map_append]
        rfl
      · rintro σ H' ⟨xs, r, y, y2, rfl, kp, hp, hl, hb⟩
        exact ⟨_, rfl, k xs p H' np kp hp ⟨by omega, hb⟩⟩
/-! ### data of few levels can be compared -/
theorem lay_all {ds : List PyData} (h : ∀ d ∈ ds, PyData.canLay0 d = true) : PyData.canLayAll0 ds = true := by
  induction ds with
  | nil => simp [PyData.canLayAll0]
  | cons d r ih => simp [PyData.canLayAll0, h d List.mem_cons_self, ih fun x hx => h x (List.mem_cons_of_mem _ hx)]
theorem dep_all {ds : List PyData} {n : Nat} (h : ∀ d ∈ ds, PyData.depth d ≤ n) : PyData.depthAll ds ≤ n := by
  induction ds with
  | nil => simp [PyData.depthAll]
  | cons d r ih =>
    have h1 := h d List.mem_cons_self
    have h2 := ih fun x hx => h x (List.mem_cons_of_mem _ hx)
    simp only [PyData.depthAll]
    omega
/-- the same without texts -/
inductive Dm : Nat → PyData → Prop
  | non (n : Nat) : Dm (n + 1) .none
  | bl (n : Nat) (b : Bool) : Dm (n + 1) (.bool b)
  | int (n : Nat) (i : Int) : Dm (n + 1) (.int i)
  | lst {n : Nat} {ds : List PyData} : (∀ d ∈ ds, Dm n d) → ds.length ≤ 10000 → Dm (n + 1) (.list ds)
  | tup {n : Nat} {ds : List PyData} : (∀ d ∈ ds, Dm n d) → ds.length ≤ 10000 → Dm (n + 1) (.tuple ds)
theorem Dm.dn {n : Nat} {d : PyData} (h : Dm n d) : Dn n d := by
  induction h with
  | non n => exact .non _
  | bl n b => exact .bl _ _
  | int n i => exact .int _ _
  | lst h1 h2 ih => exact .lst ih h2
  | tup h1 h2 ih => exact .tup ih h2
theorem Dm.lay {n : Nat} {d : PyData} (h : Dm n d) : PyData.canLay0 d = true ∧ PyData.depth d ≤ n := by
  induction h with
  | non n => exact ⟨by simp [PyData.canLay0], by simp [PyData.depth]⟩
  | bl n b => exact ⟨by simp [PyData.canLay0], by simp [PyData.depth]⟩
  | int n i => exact ⟨by simp [PyData.canLay0], by simp [PyData.depth]⟩
  | lst h1 h2 ih =>
    refine ⟨by simp only [PyData.canLay0]; exact lay_all fun d hd => (ih d hd).1, ?_⟩
    have := dep_all fun d hd => (ih d hd).2
    simp only [PyData.depth]
    omega
  | tup h1 h2 ih =>
    refine ⟨by simp only [PyData.canLay0]; exact lay_all fun d hd => (ih d hd).1, ?_⟩
    have := dep_all fun d hd => (ih d hd).2
    simp only [PyData.depth]
    omega
theorem Dm.shaped {n : Nat} {d : PyData} (h : Dm n d) (hn : n ≤ 64) : SeqAt.shaped d = true := by
  have ⟨h1, h2⟩ := h.lay
  show (PyData.canLay0 d && decide (PyData.depth d ≤ 64)) = true
  rw [h1, decide_eq_true (by omega)]
  rfl
theorem Dm.same {n : Nat} {d : PyData} (h : Dm n d) (hn : n ≤ 64) : PyData.eqv d d = true := SeqAt.eqv_refl _ (SeqAt.canLay_of_shaped (h.shaped hn))
theorem dm_dI {n : Nat} {ns : List Int} (h : ns.length ≤ 10000) : Dm (n + 2) (dI ns) := .lst (fun d hd => by obtain ⟨z, _, rfl⟩ := List.mem_map.mp hd; exact .int _ _) (by rw [List.length_map]; exact h)
/-! ### _law_shown: arms, whether a sign waits, sleepers, fogs -/
def fil (f : Nat → Bool) (n : Nat) : List Int := ((List.range n).filter f).map (fun (x : Nat) => (x : Int))
theorem fil_yes {f : Nat → Bool} {n : Nat} (h : f n = true) : fil f (n + 1) = fil f n ++ [(n : Int)] := by
  unfold fil
  rw [List.range_succ, List.filter_append, List.map_append]
  simp [h]
theorem fil_no {f : Nat → Bool} {n : Nat} (h : f n = false) : fil f (n + 1) = fil f n := by
  unfold fil
  rw [List.range_succ, List.filter_append, List.map_append]
  simp [h]
theorem fil_len (f : Nat → Bool) (n : Nat) : (fil f n).length ≤ n := by
  unfold fil
  rw [List.length_map]
  exact Nat.le_trans (List.length_filter_le _ _) (by rw [List.length_range]; exact Nat.le_refl _)
theorem fil_mem {f : Nat → Bool} {n : Nat} {x : Int} : x ∈ fil f n ↔ ∃ p : Nat, x = (p : Int) ∧ p < n ∧ f p = true := by
  unfold fil
  simp only [List.mem_map, List.mem_filter, List.mem_range]
  constructor
  · rintro ⟨p, ⟨h1, h2⟩, rfl⟩
    exact ⟨p, rfl, h1, h2⟩
  · rintro ⟨p, rfl, h1, h2⟩
    exact ⟨p, ⟨h1, h2⟩, rfl⟩
structure Arms (sh : List Int) (n : Nat) : Prop where
  len : sh.length = n
  lo : 2 ≤ n
  hi : n ≤ 12
  ok : ∀ x ∈ sh, 0 ≤ x ∧ x ≤ 94
def sp_l_shown (K : PySem.W.Frag) : Sp := fun vs H Q _ => ∃ (a : Addr) (ns : List Int) (j : Nat), vs = [.ref a, .int (j : Int)] ∧ SqL K H a (ns.map V.int) ∧ j ≤ 1000 ∧
  ∀ (n : Nat) (sh : List Int) (wt : Bool) (fA fB : Nat → Bool) (t p1 p2 p3 : Addr) (H' : Hp), Kp H H' → H' t = some (.tup [.ref p1, .bl wt, .ref p2, .ref p3]) → H p1 = none → H' p1 = some (.lst (sh.map V.int)) →
    H' p2 = some (.lst ((fil fA n).map V.int)) → H' p3 = some (.lst ((fil fB n).map V.int)) → (∀ p, fB p = true → p + 1 < n) → Arms sh n → H p2 = none → H p3 = none → Q (.ref t) H'
theorem four (a z : Int) (h : 0 ≤ a ∧ a ≤ 94) : ∃ v : Int, atI [V.int 0, V.int 0, V.int a, V.int 7] (z % 4) = some (.int v) ∧ 0 ≤ v ∧ v ≤ 94 := by
  have h0 : 0 ≤ z % 4 := Int.emod_nonneg _ (by decide)
  have h1 : z % 4 < 4 := Int.emod_lt_of_pos _ (by decide)
  generalize z % 4 = m at h0 h1
  have hm : m = 0 ∨ m = 1 ∨ m = 2 ∨ m = 3 := by omega
  rcases hm with rfl | rfl | rfl | rfl
  · exact ⟨0, rfl, by decide, by decide⟩
  · exact ⟨0, rfl, by decide, by decide⟩
  · exact ⟨a, rfl, h.1, h.2⟩
  · exact ⟨7, rfl, by decide, by decide⟩
theorem ok_l_shown (T : Txt K mg) : FnOk P w K mg base CX0 2 T.f_l_shown T.d_l_shown ["_law_script", "_law_at"] (sp_l_shown K) := by
  refine T.F_l_shown.ok sc_l_shown (fun vs H Q E h => ?_) (fun cdv A outer s H vs Q E hr h => ?_)
  · obtain ⟨a, ns, j, rfl, _⟩ := h
    rfl
  · obtain ⟨a, ns, j, rfl, hS, hj, k⟩ := h
    refine ⟨_, (pss_cons (ps_set (i := 2) sc_l_shown.nd rfl (by first | exact Or.inl rfl | exact Or.inr rfl) (pe_call (ok_l_cell T) (hr.mono (by decide)) rfl T.g_l_cell T.F_l_cell.kp T.b_l_cell .nil pass0 (pa_cons (pv 0) (pa_cons (pv 1) pa_nil))))
      (pss_cons (ps_set (i := 3) sc_l_shown.nd rfl (by first | exact Or.inl rfl | exact Or.inr rfl) (pe_op op_add pe_int (pe_op op_mod (pv 2) pe_int)))
      (pss_cons (ps_set (i := 4) sc_l_shown.nd rfl (by first | exact Or.inl rfl | exact Or.inr rfl) (pe_call (ok_l_row T) (hr.mono (by decide)) rfl T.g_l_row T.F_l_row.kp T.b_l_row .nil pass0 (pa_cons (pe_call (ok_l_cell T) (hr.mono (by decide)) rfl T.g_l_cell T.F_l_cell.kp T.b_l_cell .nil pass0 (pa_cons (pv 0) (pa_cons (pe_op op_add (pv 1) pe_int) pa_nil))) (pa_cons (pe_op op_mul pe_int (pv 3)) (pa_cons (pe_op op_mul pe_int pe_int) pa_nil)))))
      (pss_cons (ps_set (i := 5) sc_l_shown.nd rfl (by first | exact Or.inl rfl | exact Or.inr rfl) (pe_lst pa_nil))
      (pss_cons (ps_set (i := 6) sc_l_shown.nd rfl (by first | exact Or.inl rfl | exact Or.inr rfl) (pe_lst pa_nil))
      (pss_cons (ps_set (i := 7) sc_l_shown.nd rfl (by first | exact Or.inl rfl | exact Or.inr rfl) (pe_lst pa_nil))
      (pss_cons (ps_for PassesOwn.never rfl (pi_range1 (by rfl) T.m_range (pa_cons (pv 3) pa_nil)) (pg_name (i := 8) sc_l_shown.nd rfl (by first | exact Or.inl rfl | exact Or.inr rfl))
      (pss_cons (ps_set (i := 9) sc_l_shown.nd rfl (by first | exact Or.inl rfl | exact Or.inr rfl) (pe_ix ix_list (pv 4) (pe_op op_mul pe_int (pv 8)) (fun _ _ => rfl)))
      (pss_cons (ps_expr (pe_bm PySem.F.plainAttrs_list PySem.F.slot_list_append PySem.F.type_list_append mt_append (pv 5) (pa_cons (pe_ix ix_tup (pe_tup (pa_cons pe_int (pa_cons pe_int (pa_cons (pe_op op_add pe_int (pe_op op_mod (pv 9) pe_int)) (pa_cons pe_int pa_nil))))) (pe_op op_mod (pe_op op_fdiv (pv 9) pe_int) pe_int) (fun _ _ => rfl)) pa_nil)))
      (Evl.pss_cut (ps_if (pt_cmpR op_eq (pe_op op_mod (pe_ix ix_list (pv 4) (pe_op op_add (pe_op op_mul pe_int (pv 8)) pe_int) (fun _ _ => rfl)) (pe_op op_add pe_int (pe_op op_mod (pe_op op_fdiv (pv 2) pe_int) pe_int))) pe_int (nomark _))
      (pss_one (ps_expr (pe_bm PySem.F.plainAttrs_list PySem.F.slot_list_append PySem.F.type_list_append mt_append (pv 6) (pa_cons (pv 8) pa_nil))))
      pss_nil)
      (pss_one (ps_if (PW.pt (pw_and (pt_cmpR op_eq (pe_op op_mod (pe_ix ix_list (pv 4) (pe_op op_add (pe_op op_mul pe_int (pv 8)) pe_int) (fun _ _ => rfl)) (pe_op op_add pe_int (pe_op op_mod (pe_op op_fdiv (pv 2) pe_int) pe_int))) pe_int (nomark _)) (pw_and1 (pt_cmpR op_lt (pv 8) (pe_op op_sub (pv 3) pe_int) (nomark _)))))
      (pss_one (ps_expr (pe_bm PySem.F.plainAttrs_list PySem.F.slot_list_append PySem.F.type_list_append mt_append (pv 7) (pa_cons (pv 8) pa_nil))))
      pss_nil))))))
      (pss_one (ps_ret (pe_tup (pa_cons (pv 5) (pa_cons (pe_cmpR op_eq (pe_op op_mod (pe_op op_fdiv (pv 2) pe_int) pe_int) pe_int (nomark _)) (pa_cons (pv 6) (pa_cons (pv 7) pa_nil)))))))))))))), ?_⟩
    refine ⟨_, rfl, _, rfl, a, ns, j, rfl, hS, by omega, ?_⟩
    generalize cellV ns j = pick
    have m0 : 0 ≤ pick % 11 := Int.emod_nonneg _ (by decide)
    have m1 : pick % 11 < 11 := Int.emod_lt_of_pos _ (by decide)
    refine ⟨_, rfl, _, _, rfl, rfl, (by show (0 : Int) < 11; decide), _, _, rfl, rfl, ?_⟩
    obtain ⟨n, hn⟩ : ∃ n : Nat, (2 : Int) + pick % 11 = (n : Int) := ⟨((2 : Int) + pick % 11).toNat, by omega⟩
    refine ⟨_, rfl, _, rfl, _, _, rfl, rfl, a, ns, j + 1, rfl, hS, by omega, ?_⟩
    refine ⟨_, rfl, _, _, rfl, rfl, .inl ⟨by decide, by decide⟩, _, _, rfl, rfl, .inl ⟨by decide, by decide⟩, _, _, _, rfl, by omega, by omega, by decide, by decide, fun nums p4 H1 n4 k1 q1 ⟨hl, hb⟩ => ?_⟩
    refine ⟨Nat.zero_le _, fun p5 n5 => ?_⟩
    generalize h_H2 : upd H1 p5 _ = H2
    have k_H2 : Kp H1 H2 := by rw [← h_H2]; exact .new n5
    have q_H2 := (congrFun h_H2 p5).symm.trans upd_same
    clear h_H2
    refine ⟨Nat.zero_le _, fun p6 n6 => ?_⟩
    generalize h_H3 : upd H2 p6 _ = H3
    have k_H3 : Kp H2 H3 := by rw [← h_H3]; exact .new n6
    have q_H3 := (congrFun h_H3 p6).symm.trans upd_same
    clear h_H3
    refine ⟨Nat.zero_le _, fun p7 n7 => ?_⟩
    generalize h_H4 : upd H3 p7 _ = H4
    have k_H4 : Kp H3 H4 := by rw [← h_H4]; exact .new n7
    have q_H4 := (congrFun h_H4 p7).symm.trans upd_same
    clear h_H4
    have ne56 : p5 ≠ p6 := ne_of_none q_H2 n6
    have ne57 : p5 ≠ p7 := ne_of_none (k_H3.same _ _ rfl q_H2) n7
    have ne67 : p6 ≠ p7 := ne_of_none q_H3 n7
    have ne45 : p4 ≠ p5 := ne_of_none q1 n5
    have ne46 : p4 ≠ p6 := ne_of_none (k_H2.same _ _ rfl q1) n6
    have ne47 : p4 ≠ p7 := ne_of_none (k_H3.same _ _ rfl (k_H2.same _ _ rfl q1)) n7
    have f5 := k1.free _ n5
    have f6 := k1.free _ (k_H2.free _ n6)
    have f7 := k1.free _ (k_H2.free _ (k_H3.free _ n7))
    have k4 := ((k1.trans k_H2).trans k_H3).trans k_H4
    obtain ⟨da, hda⟩ : ∃ da : Int, (2 : Int) + pick / 11 % 9 = da := ⟨_, rfl⟩
    obtain ⟨db, hdb⟩ : ∃ db : Int, (2 : Int) + pick / 99 % 9 = db := ⟨_, rfl⟩
    have hda0 : 0 < da := by have := Int.emod_nonneg (pick / 11) (show (9 : Int) ≠ 0 by decide); omega
    have hdb0 : 0 < db := by have := Int.emod_nonneg (pick / 99) (show (9 : Int) ≠ 0 by decide); omega
    let fA : Nat → Bool := fun p => decide (nums.getD (3 * p + 1) 0 % da = 1)
    let fB : Nat → Bool := fun p => decide (nums.getD (3 * p + 2) 0 % db = 1) && decide (p + 1 < n)
    have hln : nums.length = 3 * n := by omega
    refine ⟨_, rfl, _, rfl, by omega, by omega, ?_⟩
    refine for_range (lo := 0) (n := ((2 : Int) + pick % 11).toNat) (fun i σ H' => ∃ (sh : List Int) (y y2 : Option V), σ = [some (.ref a), some (.int (j : Int)), some (.int pick), some (.int (2 + pick % 11)), some (.ref p4), some (.ref p5), some (.ref p6), some (.ref p7), y, y2] ∧ Kp H H' ∧ H' p4 = some (.lst (nums.map V.int)) ∧ H' p5 = some (.lst (sh.map V.int)) ∧ H' p6 = some (.lst ((fil fA i).map V.int)) ∧ H' p7 = some (.lst ((fil fB i).map V.int)) ∧ sh.length = i ∧ ∀ x ∈ sh, 0 ≤ x ∧ x ≤ 94)
        ⟨[], none, none, rfl, k4, k_H4.same _ _ rfl (k_H3.same _ _ rfl (k_H2.same _ _ rfl q1)), k_H4.same _ _ rfl (k_H3.same _ _ rfl q_H2), k_H4.same _ _ rfl q_H3, q_H4, rfl, by simp⟩ ?_ ?_
    · rintro i σ H' hi ⟨sh, y, y2, rfl, kp, h4, h5, h6, h7, hsl, hsb⟩
      have ez : (0 : Int) + (i : Int) = (i : Int) := Int.zero_add _
      rw [ez]
      have e0 : atI (nums.map V.int) (3 * (i : Int)) = some (.int (nums.getD (3 * i) 0)) := by
        have := getD_at (ns := nums) (j := 3 * i) (by omega)
        rw [← this]
        congr 1
      have e1 : atI (nums.map V.int) (3 * (i : Int) + 1) = some (.int (nums.getD (3 * i + 1) 0)) := by
        have := getD_at (ns := nums) (j := 3 * i + 1) (by omega)
        rw [← this]
        congr 1
      have e2 : atI (nums.map V.int) (3 * (i : Int) + 2) = some (.int (nums.getD (3 * i + 2) 0)) := by
        have := getD_at (ns := nums) (j := 3 * i + 2) (by omega)
        rw [← this]
        congr 1
      refine ⟨_, rfl, _, rfl, _, _, rfl, rfl, .inl ⟨by decide, by decide⟩, p4, _, _, _, rfl, rfl, .inl (.inl h4), e0, ?_⟩
      generalize nums.getD (3 * i) 0 = num
      have b0 : 0 ≤ num % 94 := Int.emod_nonneg _ (by decide)
      have b1 : num % 94 < 94 := Int.emod_lt_of_pos _ (by decide)
      obtain ⟨v, hv, v0, v1⟩ := four (1 + num % 94) (num / 94) ⟨by omega, by omega⟩
      refine ⟨_, rfl, .inl ⟨rfl, _, SqL.of h5⟩, _, rfl, _, _, rfl, rfl, (by show (0 : Int) < 94; decide), _, _, rfl, rfl, szl (by show 4 ≤ 100000; decide), fun t nt => ?_⟩
      generalize h_H5 : upd H' t _ = H5
      have k_H5 : Kp H' H5 := by rw [← h_H5]; exact .new nt
      have q_H5 := (congrFun h_H5 t).symm.trans upd_same
      clear h_H5
      refine ⟨_, rfl, _, _, rfl, rfl, ⟨by decide, by decide⟩, _, _, rfl, rfl, (by show (0 : Int) < 4; decide), t, _, _, _, rfl, rfl, .inl (.inl q_H5), hv, p5, _, _, rfl, rfl, k_H5.same _ _ rfl h5, szt (by rw [List.length_map]; omega), ?_⟩
      have kp5 : Kp H (upd H5 p5 (.lst (sh.map V.int ++ [.int v]))) := (kp.trans k_H5).mut f5
      have g4 : (upd H5 p5 (.lst (sh.map V.int ++ [.int v]))) p4 = some (.lst (nums.map V.int)) := by rw [upd_ne ne45]; exact k_H5.same _ _ rfl h4
      have g5 : (upd H5 p5 (.lst (sh.map V.int ++ [.int v]))) p5 = some (.lst ((sh ++ [v]).map V.int)) := by rw [upd_same, List.map_append]; rfl
      have g6 : (upd H5 p5 (.lst (sh.map V.int ++ [.int v]))) p6 = some (.lst ((fil fA i).map V.int)) := by rw [upd_ne ne56.symm]; exact k_H5.same _ _ rfl h6
      have g7 : (upd H5 p5 (.lst (sh.map V.int ++ [.int v]))) p7 = some (.lst ((fil fB i).map V.int)) := by rw [upd_ne ne57.symm]; exact k_H5.same _ _ rfl h7
      generalize upd H5 p5 (.lst (sh.map V.int ++ [.int v])) = H6 at kp5 g4 g5 g6 g7
      let Mid : L2.St → Hp → Prop := fun σ' H'' => σ' = [some (.ref a), some (.int (j : Int)), some (.int pick), some (.int (2 + pick % 11)), some (.ref p4), some (.ref p5), some (.ref p6), some (.ref p7), some (.int (i : Int)), some (.int num)] ∧ Kp H H'' ∧ H'' p4 = some (.lst (nums.map V.int)) ∧ H'' p5 = some (.lst ((sh ++ [v]).map V.int)) ∧ H'' p6 = some (.lst ((fil fA (i + 1)).map V.int)) ∧ H'' p7 = some (.lst ((fil fB i).map V.int))
      refine ⟨Mid, ?_, ?_⟩
      · refine ⟨_, rfl, _, rfl, _, _, rfl, rfl, .inl ⟨by decide, by decide⟩, _, _, rfl, rfl, p4, _, _, _, rfl, rfl, .inl (.inl g4), e1, _, rfl, _, _, rfl, rfl, ⟨by decide, by decide⟩, _, _, rfl, rfl, (by show (0 : Int) < 9; decide), _, _, rfl, rfl, _, _, rfl, rfl, (by rw [hda]; exact hda0), rfl, _, rfl, iteD (fun c => ?_) (fun c => ?_)⟩
        · have c := V.int.inj c
          have hf : fA i = true := decide_eq_true (by rw [← hda]; exact c)
          refine ⟨_, rfl, .inl ⟨rfl, _, SqL.of g6⟩, _, rfl, p6, _, _, rfl, rfl, g6, szt (by rw [List.length_map]; have := fil_len fA i; omega), ?_⟩
          refine ⟨rfl, kp5.mut f6, by rw [upd_ne ne46]; exact g4, by rw [upd_ne ne56]; exact g5, ?_, by rw [upd_ne ne67.symm]; exact g7⟩
          rw [upd_same, fil_yes hf, List.map_append]
          rfl
        · have hf : fA i = false := decide_eq_false (fun z => c (by rw [hda]; exact congrArg V.int z))
          exact ⟨rfl, kp5, g4, g5, by rw [fil_no hf]; exact g6, g7⟩
      rintro σ' H'' ⟨rfl, kp6, r4, r5, r6, r7⟩
      have fin : ∀ H3 : Hp, Kp H H3 → H3 p4 = some (.lst (nums.map V.int)) → H3 p5 = some (.lst ((sh ++ [v]).map V.int)) → H3 p6 = some (.lst ((fil fA (i + 1)).map V.int)) → H3 p7 = some (.lst ((fil fB (i + 1)).map V.int)) →
          ∃ (sh : List Int) (y y2 : Option V), [some (.ref a), some (.int (j : Int)), some (.int pick), some (.int (2 + pick % 11)), some (.ref p4), some (.ref p5), some (.ref p6), some (.ref p7), some (.int (i : Int)), some (.int num)] = [some (.ref a), some (.int (j : Int)), some (.int pick), some (.int (2 + pick % 11)), some (.ref p4), some (.ref p5), some (.ref p6), some (.ref p7), y, y2] ∧ Kp H H3 ∧ H3 p4 = some (.lst (nums.map V.int)) ∧ H3 p5 = some (.lst (sh.map V.int)) ∧ H3 p6 = some (.lst ((fil fA (i + 1)).map V.int)) ∧ H3 p7 = some (.lst ((fil fB (i + 1)).map V.int)) ∧ sh.length = i + 1 ∧ ∀ x ∈ sh, 0 ≤ x ∧ x ≤ 94 := by
        intro H3 a1 a2 a3 a4 a5
        refine ⟨sh ++ [v], _, _, rfl, a1, a2, a3, a4, a5, by rw [List.length_append, hsl]; rfl, fun x hx => ?_⟩
        rcases List.mem_append.mp hx with hx | hx
        · exact hsb x hx
        · rw [List.mem_singleton.mp hx]
          exact ⟨v0, v1⟩
      refine ⟨_, rfl, _, rfl, _, _, rfl, rfl, .inl ⟨by decide, by decide⟩, _, _, rfl, rfl, p4, _, _, _, rfl, rfl, .inl (.inl r4), e2, _, rfl, _, _, rfl, rfl, ⟨by decide, by decide⟩, _, _, rfl, rfl, (by show (0 : Int) < 9; decide), _, _, rfl, rfl, _, _, rfl, rfl, (by rw [hdb]; exact hdb0), rfl, _, rfl, iteD (fun c => ?_) (fun c => ?_)⟩
      · have c := V.int.inj c
        have c' : nums.getD (3 * i + 2) 0 % db = 1 := by rw [← hdb]; exact c
        refine ⟨_, rfl, _, rfl, _, _, rfl, rfl, _, _, rfl, rfl, _, rfl, iteD (fun c2 => ?_) (fun c2 => ?_)⟩
        · have hf : fB i = true := by
            show (decide _ && decide _) = true
            rw [decide_eq_true c', decide_eq_true (show i + 1 < n by omega)]
            rfl
          refine ⟨_, rfl, .inl ⟨rfl, _, SqL.of r7⟩, _, rfl, p7, _, _, rfl, rfl, r7, szt (by rw [List.length_map]; have := fil_len fB i; omega), ?_⟩
          refine fin _ (kp6.mut f7) (by rw [upd_ne ne47]; exact r4) (by rw [upd_ne ne57]; exact r5) (by rw [upd_ne ne67]; exact r6) ?_
          rw [upd_same, fil_yes hf, List.map_append]
          rfl
        · have hf : fB i = false := by
            show (decide _ && decide _) = false
            rw [decide_eq_false (show ¬ i + 1 < n by omega), Bool.and_false]
          exact fin _ kp6 r4 r5 r6 (by rw [fil_no hf]; exact r7)
      · have hf : fB i = false := by
          show (decide _ && decide _) = false
          rw [decide_eq_false (fun z : nums.getD (3 * i + 2) 0 % db = 1 => c (by rw [hdb]; exact congrArg V.int z)), Bool.false_and]
        exact fin _ kp6 r4 r5 r6 (by rw [fil_no hf]; exact r7)
    · rintro σ H' ⟨sh, y, y2, rfl, kp, h4, h5, h6, h7, hsl, hsb⟩
      have hN : ((2 : Int) + pick % 11).toNat = n := by omega
      rw [hN] at h6 h7 hsl
      refine ⟨_, rfl, _, rfl, _, _, rfl, rfl, ⟨by decide, by decide⟩, _, _, rfl, rfl, (by show (0 : Int) < 2; decide), rfl, _, rfl, _, rfl, szl (by show 4 ≤ 100000; decide), fun t nt => ?_⟩
      generalize h_H5 : upd H' t _ = H5
      have k_H5 : Kp H' H5 := by rw [← h_H5]; exact .new nt
      have q_H5 := (congrFun h_H5 t).symm.trans upd_same
      clear h_H5
      refine k n sh _ fA fB t p5 p6 p7 H5 (kp.trans k_H5) q_H5 f5 (k_H5.same _ _ rfl h5) (k_H5.same _ _ rfl h6) (k_H5.same _ _ rfl h7) (fun p hp => ?_) ⟨hsl, by omega, by omega, hsb⟩ f6 f7
      have hp : (decide _ && decide (p + 1 < n)) = true := hp
      rw [Bool.and_eq_true] at hp
      exact of_decide_eq_true hp.2
/-! ### why a keeper does nothing -/
def rs (sh : List Int) (i : Nat) : Bool := decide (V.int (sh.getD i 0) = V.int 0)
def inL (z : Int) (xs : List Int) : Bool := inV (.int z) (xs.map V.int)
theorem rs_iff {sh : List Int} {i : Nat} : rs sh i = true ↔ sh.getD i 0 = 0 := by
  unfold rs
  rw [decide_eq_true_iff]
  exact ⟨fun h => V.int.inj h, fun h => by rw [h]⟩
theorem rs_no {sh : List Int} {i : Nat} : rs sh i = false ↔ sh.getD i 0 ≠ 0 := by
  rw [← Bool.not_eq_true, rs_iff]
theorem flat_ints (xs : List Int) : (xs.map V.int).all flatV = true := by
  rw [List.all_eq_true]
  intro x hx
  obtain ⟨z, _, rfl⟩ := List.mem_map.mp hx
  rfl
def whyV (sh : List Int) (wt : Bool) (asl fg : List Int) (p : Nat) : Str :=
  if inL p asl = true then "asleep" else
  if 0 < p ∧ inL ((p : Int) - 1) fg = true then "fog behind" else
  if (rs sh p = true ∧ p = 0 ∧ wt = false) ∨ (rs sh p = true ∧ 0 < p ∧ rs sh (p - 1) = true) then "nothing comes" else
  if rs sh p = false ∧ 0 < p ∧ rs sh (p - 1) = false then "still shown behind" else
  if p + 1 < sh.length ∧ inL p fg = true then "fog ahead" else
  if p + 1 < sh.length ∧ rs sh p = true ∧ rs sh (p + 1) = false then "not clear ahead" else
  if p + 1 < sh.length ∧ rs sh p = false ∧ rs sh (p + 1) = true then "not copied ahead" else "ready"
def behO (sh : List Int) (wt : Bool) (fg : List Int) (p : Nat) : Option Str :=
  if p = 0 then (if rs sh p = true ∧ wt = false then some "nothing comes" else none) else
  if inL ((p : Int) - 1) fg = true then some "fog behind" else
  if rs sh p = rs sh (p - 1) then (if rs sh p = true then some "nothing comes" else some "still shown behind") else none
def ahdO (sh : List Int) (fg : List Int) (p : Nat) : Option Str :=
  if p + 1 = sh.length then none else
  if inL p fg = true then some "fog ahead" else
  if rs sh p = rs sh (p + 1) then none else (if rs sh p = true then some "not clear ahead" else some "not copied ahead")
def oV : Option Str → V
  | none => .non
  | some s => .str s
theorem why_prog {sh : List Int} {wt : Bool} {asl fg : List Int} {p : Nat} (h : p < sh.length) : whyV sh wt asl fg p = if inL p asl = true then ("asleep" : Str) else (behO sh wt fg p).getD ((ahdO sh fg p).getD ("ready" : Str)) := by
  unfold whyV behO ahdO
  by_cases h0 : p = 0
  · subst h0
    by_cases h1 : 0 + 1 = sh.length
    · have h6 : sh.length = 1 := by omega
      cases rs sh 0 <;> cases wt <;> cases inL ((0 : Nat) : Int) asl <;> simp [h6]
    · have h2 : 1 < sh.length := by omega
      have h3 : ¬ (1 = sh.length) := by omega
      cases rs sh 0 <;> cases rs sh 1 <;> cases wt <;> cases inL ((0 : Nat) : Int) asl <;> cases inL ((0 : Nat) : Int) fg <;> simp [h2, h3]
  · have h4 : 0 < p := by omega
    by_cases h1 : p + 1 = sh.length
    · have h5 : ¬ (p + 1 < sh.length) := by omega
      cases rs sh p <;> cases rs sh (p - 1) <;> cases inL (p : Int) asl <;> cases inL ((p : Int) - 1) fg <;> simp [h0, h1, h4, h5]
    · have h2 : p + 1 < sh.length := by omega
      cases rs sh p <;> cases rs sh (p - 1) <;> cases rs sh (p + 1) <;> cases inL (p : Int) asl <;> cases inL ((p : Int) - 1) fg <;> cases inL (p : Int) fg <;> simp [h0, h1, h2, h4]
def Told1 (o : Option Str) : Prop := o = none ∨ ∃ s, o = some s ∧ s.length ≤ 100 ∧ (((s.length : Nat) : Int) != 0) = true
theorem beh_told (sh : List Int) (wt : Bool) (fg : List Int) (p : Nat) : Told1 (behO sh wt fg p) := by
  unfold behO
  have t1 : Told1 (some "nothing comes") := .inr ⟨_, rfl, by decide +kernel, by decide +kernel⟩
  have t2 : Told1 (some "fog behind") := .inr ⟨_, rfl, by decide +kernel, by decide +kernel⟩
  have t3 : Told1 (some "still shown behind") := .inr ⟨_, rfl, by decide +kernel, by decide +kernel⟩
  have t0 : Told1 none := .inl rfl
  repeat' split
  all_goals first | exact t0 | exact t1 | exact t2 | exact t3
theorem ahd_told (sh : List Int) (fg : List Int) (p : Nat) : Told1 (ahdO sh fg p) := by
  unfold ahdO
  have t1 : Told1 (some "fog ahead") := .inr ⟨_, rfl, by decide +kernel, by decide +kernel⟩
  have t2 : Told1 (some "not clear ahead") := .inr ⟨_, rfl, by decide +kernel, by decide +kernel⟩
  have t3 : Told1 (some "not copied ahead") := .inr ⟨_, rfl, by decide +kernel, by decide +kernel⟩
  have t0 : Told1 none := .inl rfl
  repeat' split
  all_goals first | exact t0 | exact t1 | exact t2 | exact t3
def sp_p_hindrance_behind (K : PySem.W.Frag) : Sp := fun vs H Q _ => ∃ (a f : Addr) (sh fg : List Int) (wt : Bool) (p : Nat), vs = [.ref a, .bl wt, .ref f, .int (p : Int)] ∧ SqL K H a (sh.map V.int) ∧ SqL K H f (fg.map V.int) ∧ p < sh.length ∧ Q (oV (behO sh wt fg p)) H
theorem at_pred {sh : List Int} {p : Nat} (h0 : p ≠ 0) (h : p < sh.length) : atI (sh.map V.int) ((p : Int) - 1) = some (.int (sh.getD (p - 1) 0)) := by
  have e := getD_at (ns := sh) (j := p - 1) (by omega)
  rw [← e]
  congr 1
  omega
theorem at_succ {sh : List Int} {p : Nat} (h : p + 1 < sh.length) : atI (sh.map V.int) ((p : Int) + 1) = some (.int (sh.getD (p + 1) 0)) := by
  have e := getD_at (ns := sh) (j := p + 1) h
  rw [← e]
  congr 1
theorem ok_p_hindrance_behind (T : Txt K mg) : FnOk P w K mg base CX0 1 T.f_p_hindrance_behind T.d_p_hindrance_behind ["shown", "waits", "fogs", "place"] (sp_p_hindrance_behind K) := by
  refine T.F_p_hindrance_behind.ok sc_p_hindrance_behind (fun vs H Q E h => ?_) (fun cdv A outer s H vs Q E hr h => ?_)
  · obtain ⟨a, f, sh, fg, wt, p, rfl, _⟩ := h
    rfl
  · obtain ⟨a, f, sh, fg, wt, p, rfl, hS, hF, hp, k⟩ := h
    unfold behO at k
    refine ⟨_, (pss_cons (ps_set (i := 4) sc_p_hindrance_behind.nd rfl (by first | exact Or.inl rfl | exact Or.inr rfl) (pe_cmpR op_eq (pe_ix ix_list (pv 0) (pv 3) (fun _ _ => rfl)) (pe_glob rfl T.c_REST T.r_REST) (nomark _)))
      (pss_cons (ps_if (pt_cmpR op_eq (pv 3) pe_int (nomark _))
      (pss_one (ps_ret (pe_ifExp (PW.pt (pw_and (pt_val (pv 4)) (pw_and1 (pt_not (pt_val (pv 1)))))) pe_str pe_non)))
      pss_nil)
      (pss_cons (ps_if (pt_cmpR op_in_seq (pe_op op_sub (pv 3) pe_int) (pv 2) rfl)
      (pss_one (ps_ret pe_str))
      pss_nil)
      (pss_cons (ps_if (pt_cmpR op_eq (pv 4) (pe_cmpR op_eq (pe_ix ix_list (pv 0) (pe_op op_sub (pv 3) pe_int) (fun _ _ => rfl)) (pe_glob rfl T.c_REST T.r_REST) (nomark _)) (nomark _))
      (pss_one (ps_ret (pe_ifExp (pt_val (pv 4)) pe_str pe_str)))
      pss_nil)
      (pss_one (ps_ret pe_non)))))), ?_⟩
    refine ⟨_, rfl, _, rfl, a, _, _, _, rfl, rfl, hS, getD_at hp, rfl, ?_⟩
    refine ⟨_, rfl, rfl, _, rfl, iteD (fun c => ?_) (fun c => ?_)⟩
    · have c : p = 0 := by have := V.int.inj c; omega
      rw [if_pos c] at k
      refine ⟨_, rfl, _, rfl, iteB (fun c1 => ?_) (fun c1 => ?_)⟩
      · refine ⟨_, rfl, _, rfl, ?_⟩
        cases wt with
        | true =>
          rw [if_neg (by intro z; cases z.2)] at k
          exact iteFo rfl k
        | false =>
          rw [if_pos ⟨(show rs sh p = true from c1), rfl⟩] at k
          exact iteTo rfl k
      · rw [if_neg (by intro z; have z1 : rs sh p = true := z.1; rw [show rs sh p = false from c1] at z1; cases z1)] at k
        exact k
    · have c : ¬ p = 0 := fun z => c (by rw [z]; rfl)
      rw [if_neg c] at k
      refine ⟨_, rfl, _, _, rfl, rfl, _, rfl, f, _, rfl, .inl hF, rfl, flat_ints fg, _, rfl, iteB (fun c1 => ?_) (fun c1 => ?_)⟩
      · rw [if_pos (show inL ((p : Int) - 1) fg = true from c1)] at k
        exact k
      · rw [if_neg (by intro z; rw [show inL ((p : Int) - 1) fg = false from c1] at z; cases z)] at k
        refine ⟨_, rfl, _, rfl, _, rfl, _, _, rfl, rfl, a, _, _, _, rfl, rfl, hS, at_pred c hp, rfl, rfl, _, rfl, iteD (fun c2 => ?_) (fun c2 => ?_)⟩
        · rw [if_pos (show rs sh p = rs sh (p - 1) from V.bl.inj c2)] at k
          refine ⟨_, rfl, _, rfl, iteB (fun c3 => ?_) (fun c3 => ?_)⟩
          · rw [if_pos (show rs sh p = true from c3)] at k
            exact k
          · rw [if_neg (by intro z; rw [show rs sh p = false from c3] at z; cases z)] at k
            exact k
        · rw [if_neg (fun z : rs sh p = rs sh (p - 1) => c2 (congrArg V.bl z))] at k
          exact k
def sp_p_hindrance_ahead (K : PySem.W.Frag) : Sp := fun vs H Q _ => ∃ (a f : Addr) (sh fg : List Int) (p : Nat), vs = [.ref a, .ref f, .int (p : Int)] ∧ SqL K H a (sh.map V.int) ∧ SqL K H f (fg.map V.int) ∧ p < sh.length ∧ Q (oV (ahdO sh fg p)) H
theorem ok_p_hindrance_ahead (T : Txt K mg) : FnOk P w K mg base CX0 1 T.f_p_hindrance_ahead T.d_p_hindrance_ahead ["shown", "fogs", "place"] (sp_p_hindrance_ahead K) := by
  refine T.F_p_hindrance_ahead.ok sc_p_hindrance_ahead (fun vs H Q E h => ?_) (fun cdv A outer s H vs Q E hr h => ?_)
  · obtain ⟨a, f, sh, fg, p, rfl, _⟩ := h
    rfl
  · obtain ⟨a, f, sh, fg, p, rfl, hS, hF, hp, k⟩ := h
    unfold ahdO at k
    have hlen : ((sh.map V.int).length : Int) = (sh.length : Int) := by rw [List.length_map]
    refine ⟨_, (pss_cons (ps_if (pt_cmpR op_eq (pv 2) (pe_op op_sub (pe_callB call_len_seq (by rfl) T.m_len PySem.boot_len (pa_cons (pv 0) pa_nil)) pe_int) (nomark _))
      (pss_one (ps_ret pe_non))
      pss_nil)
      (pss_cons (ps_if (pt_cmpR op_in_seq (pv 2) (pv 1) rfl)
      (pss_one (ps_ret pe_str))
      pss_nil)
      (pss_cons (ps_set (i := 3) sc_p_hindrance_ahead.nd rfl (by first | exact Or.inl rfl | exact Or.inr rfl) (pe_cmpR op_eq (pe_ix ix_list (pv 0) (pv 2) (fun _ _ => rfl)) (pe_glob rfl T.c_REST T.r_REST) (nomark _)))
      (pss_cons (ps_if (pt_cmpR op_ne (pv 3) (pe_cmpR op_eq (pe_ix ix_list (pv 0) (pe_op op_add (pv 2) pe_int) (fun _ _ => rfl)) (pe_glob rfl T.c_REST T.r_REST) (nomark _)) (nomark _))
      (pss_one (ps_ret (pe_ifExp (pt_val (pv 3)) pe_str pe_str)))
      pss_nil)
      (pss_one (ps_ret pe_non)))))), ?_⟩
    refine ⟨_, rfl, _, rfl, a, _, rfl, .inl hS, _, _, rfl, rfl, rfl, _, rfl, iteD (fun c => ?_) (fun c => ?_)⟩
    · have c := V.int.inj c
      rw [hlen] at c
      rw [if_pos (by omega)] at k
      exact k
    · have c : ¬ (p + 1 = sh.length) := fun z => c (congrArg V.int (by rw [hlen]; omega))
      rw [if_neg c] at k
      refine ⟨_, rfl, _, rfl, f, _, rfl, .inl hF, rfl, flat_ints fg, _, rfl, iteB (fun c1 => ?_) (fun c1 => ?_)⟩
      · rw [if_pos (show inL (p : Int) fg = true from c1)] at k
        exact k
      · rw [if_neg (by intro z; rw [show inL (p : Int) fg = false from c1] at z; cases z)] at k
        refine ⟨_, rfl, _, rfl, a, _, _, _, rfl, rfl, hS, getD_at hp, rfl, ?_⟩
        refine ⟨_, rfl, _, rfl, _, rfl, _, _, rfl, rfl, a, _, _, _, rfl, rfl, hS, at_succ (by omega), rfl, rfl, _, rfl, iteN (fun c2 => ?_) (fun c2 => ?_)⟩
        · rw [if_neg (fun z : rs sh p = rs sh (p + 1) => c2 (congrArg V.bl z))] at k
          refine ⟨_, rfl, _, rfl, iteB (fun c3 => ?_) (fun c3 => ?_)⟩
          · rw [if_pos (show rs sh p = true from c3)] at k
            exact k
          · rw [if_neg (by intro z; rw [show rs sh p = false from c3] at z; cases z)] at k
            exact k
        · rw [if_pos (show rs sh p = rs sh (p + 1) from V.bl.inj c2)] at k
          exact k
def sp_p_reason (K : PySem.W.Frag) : Sp := fun vs H Q _ => ∃ (a s f : Addr) (sh asl fg : List Int) (wt : Bool) (p : Nat), vs = [.ref a, .bl wt, .ref s, .ref f, .int (p : Int)] ∧ SqL K H a (sh.map V.int) ∧ SqL K H s (asl.map V.int) ∧ SqL K H f (fg.map V.int) ∧ p < sh.length ∧ Q (.str (whyV sh wt asl fg p)) H
theorem ok_p_reason (T : Txt K mg) : FnOk P w K mg base CX0 2 T.f_p_reason T.d_p_reason ["shown", "waits", "asleep", "fogs", "place"] (sp_p_reason K) := by
  refine T.F_p_reason.ok sc_p_reason (fun vs H Q E h => ?_) (fun cdv A outer s H vs Q E hr h => ?_)
  · obtain ⟨a, s, f, sh, asl, fg, wt, p, rfl, _⟩ := h
    rfl
  · obtain ⟨a, s, f, sh, asl, fg, wt, p, rfl, hS, hA, hF, hp, k⟩ := h
    rw [why_prog hp] at k
    refine ⟨_, (pss_cons (ps_if (pt_cmpR op_in_seq (pv 4) (pv 2) rfl)
      (pss_one (ps_ret pe_str))
      pss_nil)
      (pss_one (ps_ret (pe_orT (pe_call (ok_p_hindrance_behind T) (hr.mono (by decide)) rfl T.g_p_hindrance_behind T.F_p_hindrance_behind.kp T.b_p_hindrance_behind .nil pass0 (pa_cons (pv 0) (pa_cons (pv 1) (pa_cons (pv 3) (pa_cons (pv 4) pa_nil))))) (pe_orT (pe_call (ok_p_hindrance_ahead T) (hr.mono (by decide)) rfl T.g_p_hindrance_ahead T.F_p_hindrance_ahead.kp T.b_p_hindrance_ahead .nil pass0 (pa_cons (pv 0) (pa_cons (pv 3) (pa_cons (pv 4) pa_nil)))) (pe_one (pe_glob rfl T.c_READY T.r_READY))))))), ?_⟩
    refine ⟨_, rfl, _, rfl, s, _, rfl, .inl hA, rfl, flat_ints asl, _, rfl, iteB (fun c1 => ?_) (fun c1 => ?_)⟩
    · rw [if_pos (show inL (p : Int) asl = true from c1)] at k
      exact k
    · rw [if_neg (by intro z; rw [show inL (p : Int) asl = false from c1] at z; cases z)] at k
      refine ⟨_, rfl, _, rfl, _, rfl, _, rfl, a, f, sh, fg, wt, p, rfl, hS, hF, hp, ?_⟩
      rcases beh_told sh wt fg p with e | ⟨z, e, z1, z2⟩
      · rw [e] at k ⊢
        refine ⟨false, rfl, iteFo rfl ?_⟩
        refine ⟨_, rfl, _, rfl, _, rfl, a, f, sh, fg, p, rfl, hS, hF, hp, ?_⟩
        rcases ahd_told sh fg p with e | ⟨z, e, z1, z2⟩
        · rw [e] at k ⊢
          exact ⟨false, rfl, iteFo rfl k⟩
        · rw [e] at k ⊢
          exact ⟨true, ⟨szl (by omega), z2.symm⟩, iteTo rfl k⟩
      · rw [e] at k ⊢
        exact ⟨true, ⟨szl (by omega), z2.symm⟩, iteTo rfl k⟩
/-! ### the law's own reason -/
def sp_l_reason (K : PySem.W.Frag) : Sp := fun vs H Q _ => ∃ (a s f : Addr) (sh asl fg : List Int) (wt : Bool) (p : Nat), vs = [.ref a, .bl wt, .ref s, .ref f, .int (p : Int)] ∧ SqL K H a (sh.map V.int) ∧ SqL K H s (asl.map V.int) ∧ SqL K H f (fg.map V.int) ∧ p < sh.length ∧ (∀ x ∈ sh, 0 ≤ x ∧ x ≤ 94) ∧ Q (.str (whyV sh wt asl fg p)) H
theorem pos_rs {sh : List Int} {i : Nat} (hb : ∀ x ∈ sh, 0 ≤ x ∧ x ≤ 94) (hi : i < sh.length) : (sh.getD i 0 > 0) ↔ rs sh i = false := by
  rw [rs_no]
  have hm : sh.getD i 0 ∈ sh := by
    rw [List.getD_eq_getElem?_getD, List.getElem?_eq_getElem hi]
    exact List.getElem_mem hi
  have := hb _ hm
  omega
theorem ok_l_reason (T : Txt K mg) : FnOk P w K mg base CX0 1 T.f_l_reason T.d_l_reason ["_law_shown_here", "_law_waits", "_law_asleep", "_law_fogs", "_law_place"] (sp_l_reason K) := by
  refine T.F_l_reason.ok sc_l_reason (fun vs H Q E h => ?_) (fun cdv A outer s H vs Q E hr h => ?_)
  · obtain ⟨a, s, f, sh, asl, fg, wt, p, rfl, _⟩ := h
    rfl
  · obtain ⟨a, s, f, sh, asl, fg, wt, p, rfl, hS, hA, hF, hp, hb, k⟩ := h
    have hlen : ((sh.map V.int).length : Int) = (sh.length : Int) := by rw [List.length_map]
    unfold whyV at k
    refine ⟨_, (pss_cons (ps_set (i := 5) sc_l_reason.nd rfl (by first | exact Or.inl rfl | exact Or.inr rfl) (pe_cmpR op_eq (pe_ix ix_list (pv 0) (pv 4) (fun _ _ => rfl)) pe_int (nomark _)))
      (Evl.pss_cut (ps_if (pt_cmpR op_in_seq (pv 4) (pv 2) rfl)
      (pss_one (ps_ret pe_str))
      pss_nil)
      (Evl.pss_cut (ps_if (PW.pt (pw_and (pt_cmpR op_gt (pv 4) pe_int (nomark _)) (pw_and1 (pt_cmpR op_in_seq (pe_op op_sub (pv 4) pe_int) (pv 3) rfl))))
      (pss_one (ps_ret pe_str))
      pss_nil)
      (Evl.pss_cut (ps_if (PW.pt (pw_or (PW.pt (pw_and (pt_val (pv 5)) (pw_and (pt_cmpR op_eq (pv 4) pe_int (nomark _)) (pw_and1 (pt_not (pt_val (pv 1))))))) (pw_or1 (PW.pt (pw_and (pt_val (pv 5)) (pw_and (pt_cmpR op_gt (pv 4) pe_int (nomark _)) (pw_and1 (pt_cmpR op_eq (pe_ix ix_list (pv 0) (pe_op op_sub (pv 4) pe_int) (fun _ _ => rfl)) pe_int (nomark _)))))))))
      (pss_one (ps_ret pe_str))
      pss_nil)
      (Evl.pss_cut (ps_if (PW.pt (pw_and (pt_not (pt_val (pv 5))) (pw_and (pt_cmpR op_gt (pv 4) pe_int (nomark _)) (pw_and1 (pt_cmpR op_gt (pe_ix ix_list (pv 0) (pe_op op_sub (pv 4) pe_int) (fun _ _ => rfl)) pe_int (nomark _))))))
      (pss_one (ps_ret pe_str))
      pss_nil)
      (Evl.pss_cut (ps_if (PW.pt (pw_and (pt_cmpR op_lt (pv 4) (pe_op op_sub (pe_callB call_len_seq (by rfl) T.m_len PySem.boot_len (pa_cons (pv 0) pa_nil)) pe_int) (nomark _)) (pw_and1 (pt_cmpR op_in_seq (pv 4) (pv 3) rfl))))
      (pss_one (ps_ret pe_str))
      pss_nil)
      (Evl.pss_cut (ps_if (PW.pt (pw_and (pt_cmpR op_lt (pv 4) (pe_op op_sub (pe_callB call_len_seq (by rfl) T.m_len PySem.boot_len (pa_cons (pv 0) pa_nil)) pe_int) (nomark _)) (pw_and (pt_val (pv 5)) (pw_and1 (pt_cmpR op_gt (pe_ix ix_list (pv 0) (pe_op op_add (pv 4) pe_int) (fun _ _ => rfl)) pe_int (nomark _))))))
      (pss_one (ps_ret pe_str))
      pss_nil)
      (Evl.pss_cut (ps_if (PW.pt (pw_and (pt_cmpR op_lt (pv 4) (pe_op op_sub (pe_callB call_len_seq (by rfl) T.m_len PySem.boot_len (pa_cons (pv 0) pa_nil)) pe_int) (nomark _)) (pw_and (pt_not (pt_val (pv 5))) (pw_and1 (pt_cmpR op_eq (pe_ix ix_list (pv 0) (pe_op op_add (pv 4) pe_int) (fun _ _ => rfl)) pe_int (nomark _))))))
      (pss_one (ps_ret pe_str))
      pss_nil)
      (pss_one (ps_ret pe_str)))))))))), ?_⟩
    refine ⟨_, rfl, _, rfl, a, _, _, _, rfl, rfl, hS, getD_at hp, rfl, ?_⟩
    let Mid (c : Prop) : L2.St → Hp → Prop := fun σ' H' => σ' = [some (.ref a), some (.bl wt), some (.ref s), some (.ref f), some (.int (p : Int)), some (.bl (rs sh p))] ∧ H' = H ∧ ¬ c
    refine ⟨Mid (inL p asl = true), ?_, ?_⟩
    · refine ⟨_, rfl, _, rfl, s, _, rfl, .inl hA, rfl, flat_ints asl, _, rfl, iteB (fun c1 => ?_) (fun c1 => ?_)⟩
      · rw [if_pos (show inL (p : Int) asl = true from c1)] at k
        exact k
      · exact ⟨rfl, rfl, by intro z; rw [show inL (p : Int) asl = false from c1] at z; cases z⟩
    rintro σ' H' ⟨rfl, rfl, m1⟩
    rw [if_neg m1] at k
    refine ⟨Mid (0 < p ∧ inL ((p : Int) - 1) fg = true), ?_, ?_⟩
    · refine ⟨_, rfl, _, _, rfl, rfl, _, rfl, iteD (fun c1 => ?_) (fun c1 => ?_)⟩
      · refine ⟨_, rfl, _, _, rfl, rfl, _, rfl, f, _, rfl, .inl hF, rfl, flat_ints fg, _, rfl, iteB (fun c2 => ?_) (fun c2 => ?_)⟩
        · rw [if_pos ⟨by omega, (show inL ((p : Int) - 1) fg = true from c2)⟩] at k
          exact k
        · exact ⟨rfl, rfl, by intro z; rw [show inL ((p : Int) - 1) fg = false from c2] at z; cases z.2⟩
      · exact ⟨rfl, rfl, by intro z; omega⟩
    rintro σ' H' ⟨rfl, rfl, m2⟩
    rw [if_neg m2] at k
    refine ⟨Mid ((rs sh p = true ∧ p = 0 ∧ wt = false) ∨ (rs sh p = true ∧ 0 < p ∧ rs sh (p - 1) = true)), ?_, ?_⟩
    · refine ⟨_, rfl, _, rfl, iteB (fun c1 => ?_) (fun c1 => ?_)⟩
      · refine ⟨_, rfl, rfl, _, rfl, iteD (fun c2 => ?_) (fun c2 => ?_)⟩
        · have c2 : p = 0 := by have := V.int.inj c2; omega
          refine ⟨_, rfl, _, rfl, ?_⟩
          cases wt with
          | false =>
            rw [if_pos (.inl ⟨c1, c2, rfl⟩)] at k
            exact iteTo rfl k
          | true =>
            refine iteFo rfl ⟨_, rfl, _, rfl, iteTo c1 ⟨_, rfl, _, _, rfl, rfl, _, rfl, iteFo (decide_eq_false (by omega)) ⟨rfl, rfl, ?_⟩⟩⟩
            rintro (z | z)
            · cases z.2.2
            · omega
        · have c2 : p ≠ 0 := fun z => c2 (by rw [z]; rfl)
          refine ⟨_, rfl, _, rfl, iteTo c1 ⟨_, rfl, _, _, rfl, rfl, _, rfl, iteTo (decide_eq_true (by omega)) ?_⟩⟩
          refine ⟨_, rfl, _, rfl, _, _, rfl, rfl, a, _, _, _, rfl, rfl, hS, at_pred c2 hp, rfl, _, rfl, iteB (fun c3 => ?_) (fun c3 => ?_)⟩
          · rw [if_pos (.inr ⟨c1, by omega, c3⟩)] at k
            exact k
          · refine ⟨rfl, rfl, ?_⟩
            rintro (z | z)
            · omega
            · rw [show rs sh (p - 1) = false from c3] at z
              cases z.2.2
      · have c1 : rs sh p = false := c1
        refine ⟨_, rfl, _, rfl, iteFo c1 ⟨rfl, rfl, ?_⟩⟩
        rintro (z | z) <;> (rw [c1] at z; cases z.1)
    rintro σ' H' ⟨rfl, rfl, m3⟩
    rw [if_neg m3] at k
    refine ⟨Mid (rs sh p = false ∧ 0 < p ∧ rs sh (p - 1) = false), ?_, ?_⟩
    · refine ⟨_, rfl, _, rfl, iteB (fun c1 => ?_) (fun c1 => ?_)⟩
      · have c1 : rs sh p = false := by simpa using c1
        refine ⟨_, rfl, _, _, rfl, rfl, _, rfl, iteD (fun c2 => ?_) (fun c2 => ⟨rfl, rfl, by intro z; omega⟩)⟩
        have c2 : p ≠ 0 := by omega
        refine ⟨_, rfl, _, rfl, _, _, rfl, rfl, a, _, _, _, rfl, rfl, hS, at_pred c2 hp, _, _, rfl, rfl, _, rfl, iteD (fun c3 => ?_) (fun c3 => ?_)⟩
        · rw [if_pos ⟨c1, by omega, (pos_rs hb (by omega)).mp c3⟩] at k
          exact k
        · exact ⟨rfl, rfl, fun z => c3 ((pos_rs hb (by omega)).mpr z.2.2)⟩
      · have c1 : rs sh p = true := by simpa using c1
        exact ⟨rfl, rfl, by intro z; rw [c1] at z; cases z.1⟩
    rintro σ' H' ⟨rfl, rfl, m4⟩
    rw [if_neg m4] at k
    refine ⟨Mid (p + 1 < sh.length ∧ inL p fg = true), ?_, ?_⟩
    · refine ⟨_, rfl, _, rfl, a, _, rfl, .inl hS, _, _, rfl, rfl, _, _, rfl, rfl, _, rfl, iteD (fun c1 => ?_) (fun c1 => ⟨rfl, rfl, by intro z; rw [hlen] at c1; omega⟩)⟩
      rw [hlen] at c1
      refine ⟨_, rfl, _, rfl, f, _, rfl, .inl hF, rfl, flat_ints fg, _, rfl, iteB (fun c2 => ?_) (fun c2 => ?_)⟩
      · rw [if_pos ⟨by omega, (show inL (p : Int) fg = true from c2)⟩] at k
        exact k
      · exact ⟨rfl, rfl, by intro z; rw [show inL (p : Int) fg = false from c2] at z; cases z.2⟩
    rintro σ' H' ⟨rfl, rfl, m5⟩
    rw [if_neg m5] at k
    refine ⟨Mid (p + 1 < sh.length ∧ rs sh p = true ∧ rs sh (p + 1) = false), ?_, ?_⟩
    · refine ⟨_, rfl, _, rfl, a, _, rfl, .inl hS, _, _, rfl, rfl, _, _, rfl, rfl, _, rfl, iteD (fun c1 => ?_) (fun c1 => ⟨rfl, rfl, by intro z; rw [hlen] at c1; omega⟩)⟩
      rw [hlen] at c1
      refine ⟨_, rfl, _, rfl, iteB (fun c2 => ?_) (fun c2 => ⟨rfl, rfl, by intro z; rw [show rs sh p = false from c2] at z; cases z.2.1⟩)⟩
      refine ⟨_, rfl, _, rfl, _, _, rfl, rfl, a, _, _, _, rfl, rfl, hS, at_succ (by omega), _, _, rfl, rfl, _, rfl, iteD (fun c3 => ?_) (fun c3 => ?_)⟩
      · rw [if_pos ⟨by omega, c2, (pos_rs hb (by omega)).mp c3⟩] at k
        exact k
      · exact ⟨rfl, rfl, fun z => c3 ((pos_rs hb (by omega)).mpr z.2.2)⟩
    rintro σ' H' ⟨rfl, rfl, m6⟩
    rw [if_neg m6] at k
    refine ⟨Mid (p + 1 < sh.length ∧ rs sh p = false ∧ rs sh (p + 1) = true), ?_, ?_⟩
    · refine ⟨_, rfl, _, rfl, a, _, rfl, .inl hS, _, _, rfl, rfl, _, _, rfl, rfl, _, rfl, iteD (fun c1 => ?_) (fun c1 => ⟨rfl, rfl, by intro z; rw [hlen] at c1; omega⟩)⟩
      rw [hlen] at c1
      refine ⟨_, rfl, _, rfl, iteB (fun c2 => ?_) (fun c2 => ⟨rfl, rfl, by intro z; rw [z.2.1] at c2; cases c2⟩)⟩
      have c2 : rs sh p = false := by simpa using c2
      refine ⟨_, rfl, _, rfl, _, _, rfl, rfl, a, _, _, _, rfl, rfl, hS, at_succ (by omega), rfl, _, rfl, iteB (fun c3 => ?_) (fun c3 => ?_)⟩
      · rw [if_pos ⟨by omega, c2, c3⟩] at k
        exact k
      · exact ⟨rfl, rfl, by intro z; rw [show rs sh (p + 1) = false from c3] at z; cases z.2.2⟩
    rintro σ' H' ⟨rfl, rfl, m7⟩
    rw [if_neg m7] at k
    exact k
/-! ### law -/
def sp_law (K : PySem.W.Frag) : Sp := fun vs H Q _ => ∃ (a : Addr) (ns : List Int), vs = [.ref a] ∧ SqL K H a (ns.map V.int) ∧ ns.length ≤ 63 ∧ ∀ H', Q (.bl true) H'
theorem ok_law (T : Txt K mg) {f : Addr} {fd : FuncData} (F : Fun K "law" "law" s_law f fd) : FnOk P w K mg base CX0 8 f fd ["_law_script"] (sp_law K) := by
  refine F.ok sc_law (fun vs H Q E h => ?_) (fun cdv A outer s H vs Q E hr h => ?_)
  · obtain ⟨a, ns, rfl, _⟩ := h
    rfl
  · obtain ⟨a, ns, rfl, hS, hlen, k⟩ := h
    refine ⟨_, (pss_cons (ps_for PassesOwn.never rfl (pi_tup (pe_tup (pa_cons pe_int (pa_cons pe_int (pa_cons pe_int pa_nil))))) (pg_name (i := 1) sc_law.nd rfl (by first | exact Or.inl rfl | exact Or.inr rfl))
      (pss_cons (ps_asg (pe_call (ok_l_shown T) (hr.mono (by decide)) rfl T.g_l_shown T.F_l_shown.kp T.b_l_shown .nil pass0 (pa_cons (pv 0) (pa_cons (pv 1) pa_nil))) (pg_tup (n := 4) rfl (pgs_cons (pg_name (i := 2) sc_law.nd rfl (by first | exact Or.inl rfl | exact Or.inr rfl)) (pgs_cons (pg_name (i := 3) sc_law.nd rfl (by first | exact Or.inl rfl | exact Or.inr rfl)) (pgs_cons (pg_name (i := 4) sc_law.nd rfl (by first | exact Or.inl rfl | exact Or.inr rfl)) (pgs_cons (pg_name (i := 5) sc_law.nd rfl (by first | exact Or.inl rfl | exact Or.inr rfl)) pgs_nil))))))
      (pss_cons (ps_set (i := 6) sc_law.nd rfl (by first | exact Or.inl rfl | exact Or.inr rfl) (pe_lst (pa_cons (pe_callTy call_list_of (by rfl) T.m_list (by decide +kernel) (pa_cons (pv 2) pa_nil)) (pa_cons (pe_callTy call_list_of (by rfl) T.m_list (by decide +kernel) (pa_cons (pv 4) pa_nil)) (pa_cons (pe_callTy call_list_of (by rfl) T.m_list (by decide +kernel) (pa_cons (pv 5) pa_nil)) pa_nil)))))
      (pss_cons (ps_for PassesOwn.never rfl (pi_range1 (by rfl) T.m_range (pa_cons (pe_callB call_len_seq (by rfl) T.m_len PySem.boot_len (pa_cons (pv 2) pa_nil)) pa_nil)) (pg_name (i := 7) sc_law.nd rfl (by first | exact Or.inl rfl | exact Or.inr rfl))
      (pss_cons (ps_set (i := 8) sc_law.nd rfl (by first | exact Or.inl rfl | exact Or.inr rfl) (pe_call (ok_l_reason T) (hr.mono (by decide)) rfl T.g_l_reason T.F_l_reason.kp T.b_l_reason .nil pass0 (pa_cons (pv 2) (pa_cons (pv 3) (pa_cons (pv 4) (pa_cons (pv 5) (pa_cons (pv 7) pa_nil)))))))
      (pss_one (ps_if (pt_not (pt_val (pe_call (ok_l_like T 4) (hr.mono (by decide)) rfl T.g_l_like T.F_l_like.kp T.b_l_like .nil pass0 (pa_cons (pe_call (ok_p_reason T) (hr.mono (by decide)) rfl T.g_p_reason T.F_p_reason.kp T.b_p_reason .nil pass0 (pa_cons (pe_ix ix_list (pv 6) pe_int (fun _ _ => rfl)) (pa_cons (pv 3) (pa_cons (pe_ix ix_list (pv 6) pe_int (fun _ _ => rfl)) (pa_cons (pe_ix ix_list (pv 6) pe_int (fun _ _ => rfl)) (pa_cons (pv 7) pa_nil)))))) (pa_cons (pv 8) pa_nil)))))
      (pss_one (ps_ret pe_bl))
      pss_nil))))
      (pss_one (ps_if (pt_cmpR (op_neD hr.units) (pv 6) (pe_lst (pa_cons (pv 2) (pa_cons (pv 4) (pa_cons (pv 5) pa_nil)))) (nomark _))
      (pss_one (ps_ret pe_bl))
      pss_nil))))))
      (pss_one (ps_ret pe_bl))), ?_⟩
    refine ⟨szl (by show 3 ≤ 100000; decide), fun p0 n0 => ?_⟩
    generalize h_H0 : upd H p0 _ = H0
    have k_H0 : Kp H H0 := by rw [← h_H0]; exact .new n0
    have q_H0 := (congrFun h_H0 p0).symm.trans upd_same
    clear h_H0
    refine ⟨p0, rfl, ⟨_, .inl (.inl q_H0)⟩, for_tup (K := K) (a := p0) (xs := [V.int 0, V.int 2, V.int 0]) (fun i σ H' => ∃ (y1 y2 y3 y4 y5 y6 y7 y8 : Option V), σ = [some (.ref a), y1, y2, y3, y4, y5, y6, y7, y8] ∧ Kp H0 H')
      ⟨none, none, none, none, none, none, none, none, rfl, .refl _⟩ (fun i σ H' _ ⟨_, _, _, _, _, _, _, _, _, kp⟩ => kp.sqT (.inl (.inl q_H0))) ?_ ?_⟩
    · rintro i x σ H' hi ⟨y1, y2, y3, y4, y5, y6, y7, y8, rfl, kp⟩
      obtain ⟨j, rfl, hj⟩ : ∃ j : Nat, x = .int (j : Int) ∧ j ≤ 1000 := by
        have hm := List.mem_of_getElem? hi
        simp only [List.mem_cons, List.not_mem_nil, or_false] at hm
        rcases hm with rfl | rfl | rfl
        · exact ⟨0, rfl, by decide⟩
        · exact ⟨2, rfl, by decide⟩
        · exact ⟨0, rfl, by decide⟩
      refine ⟨_, rfl, _, rfl, a, ns, j, rfl, (k_H0.trans kp).sqL hS, hj, fun n sh wt fA fB t p1 p2 p3 H1 k1 qt f1 q1 q2 q3 hB ha f2 f3 => ?_⟩
      have hlA := fil_len fA n
      have hlB := fil_len fB n
      have hhi := ha.hi
      have hl := ha.len
      generalize fil fA n = asl at q2 hlA
      generalize fil fB n = fg at q3 hlB
      refine ⟨t, _, rfl, .inl (.inl qt), rfl, _, _, rfl, _, _, rfl, _, _, rfl, _, _, rfl, rfl, ?_⟩
      refine ⟨_, rfl, p1, _, rfl, .inl (.inl (.inl q1)), fun p4 n4 => ?_⟩
      generalize h_H2 : upd H1 p4 _ = H2
      have k_H2 : Kp H1 H2 := by rw [← h_H2]; exact .new n4
      have q_H2 := (congrFun h_H2 p4).symm.trans upd_same
      clear h_H2
      refine ⟨_, rfl, p2, _, rfl, .inl (.inl (.inl (k_H2.same _ _ rfl q2))), fun p5 n5 => ?_⟩
      generalize h_H3 : upd H2 p5 _ = H3
      have k_H3 : Kp H2 H3 := by rw [← h_H3]; exact .new n5
      have q_H3 := (congrFun h_H3 p5).symm.trans upd_same
      clear h_H3
      refine ⟨_, rfl, p3, _, rfl, .inl (.inl (.inl (k_H3.same _ _ rfl (k_H2.same _ _ rfl q3)))), fun p6 n6 => ?_⟩
      generalize h_H4 : upd H3 p6 _ = H4
      have k_H4 : Kp H3 H4 := by rw [← h_H4]; exact .new n6
      have q_H4 := (congrFun h_H4 p6).symm.trans upd_same
      clear h_H4
      refine ⟨szl (by show 3 ≤ 100000; decide), fun p7 n7 => ?_⟩
      generalize h_H5 : upd H4 p7 _ = H5
      have k_H5 : Kp H4 H5 := by rw [← h_H5]; exact .new n7
      have q_H5 := (congrFun h_H5 p7).symm.trans upd_same
      clear h_H5
      have k15 := ((k_H2.trans k_H3).trans k_H4).trans k_H5
      have r1 := k15.same _ _ rfl q1
      have r2 := k15.same _ _ rfl q2
      have r3 := k15.same _ _ rfl q3
      have r4 := ((k_H3.trans k_H4).trans k_H5).same _ _ rfl q_H2
      have r5 := (k_H4.trans k_H5).same _ _ rfl q_H3
      have r6 := k_H5.same _ _ rfl q_H4
      refine ⟨_, rfl, p1, _, rfl, .inl (.inl (.inl r1)), _, rfl, by omega, by rw [List.length_map]; omega, ?_⟩
      refine for_range (lo := 0) (n := ((sh.map V.int).length : Int).toNat) (fun i σ H' => ∃ (y7 y8 : Option V), σ = [some (.ref a), some (.int (j : Int)), some (.ref p1), some (.bl wt), some (.ref p2), some (.ref p3), some (.ref p7), y7, y8] ∧ Kp H5 H')
        ⟨_, _, rfl, .refl _⟩ ?_ ?_
      · rintro p σ H6 hp ⟨y7, y8, rfl, k6⟩
        have hp : p < sh.length := by rw [List.length_map] at hp; omega
        have ez : (0 : Int) + (p : Int) = (p : Int) := Int.zero_add _
        rw [ez]
        refine ⟨_, rfl, _, rfl, _, rfl, _, rfl, _, rfl, p1, p2, p3, sh, asl, fg, wt, p, rfl, .inl (.inl (k6.same _ _ rfl r1)), .inl (.inl (k6.same _ _ rfl r2)), .inl (.inl (k6.same _ _ rfl r3)), hp, ha.ok, ?_⟩
        have g7 := k6.same _ _ rfl q_H5
        refine ⟨_, rfl, p7, _, _, _, rfl, rfl, .inl (.inl g7), rfl, _, rfl, _, rfl, p7, _, _, _, rfl, rfl, .inl (.inl g7), rfl, _, rfl, p7, _, _, _, rfl, rfl, .inl (.inl g7), rfl, _, rfl, p4, p5, p6, sh, asl, fg, wt, p, rfl, .inl (.inl (k6.same _ _ rfl r4)), .inl (.inl (k6.same _ _ rfl r5)), .inl (.inl (k6.same _ _ rfl r6)), hp, ?_⟩
        exact ⟨_, rfl, _, _, _, rfl, .str _, .str _, .str _ _, fun H7 k7 => ⟨_, rfl, iteFo rfl ⟨_, _, rfl, k6.trans k7⟩⟩⟩
      · rintro σ H6 ⟨y7, y8, rfl, k6⟩
        refine ⟨_, rfl, _, rfl, _, rfl, _, rfl, szl (by show 3 ≤ 100000; decide), fun p8 n8 => ?_⟩
        generalize h_H7 : upd H6 p8 _ = H7
        have k_H7 : Kp H6 H7 := by rw [← h_H7]; exact .new n8
        have q_H7 := (congrFun h_H7 p8).symm.trans upd_same
        clear h_H7
        have k57 := k6.trans k_H7
        have dn : Dm 4 (.list [dI sh, dI asl, dI fg]) := by
          refine .lst (fun d hd => ?_) (by show 3 ≤ 10000; decide)
          simp only [List.mem_cons, List.not_mem_nil, or_false] at hd
          rcases hd with rfl | rfl | rfl
          · exact dm_dI (by omega)
          · exact dm_dI (by omega)
          · exact dm_dI (by omega)
        refine ⟨.list [dI sh, dI asl, dI fg], .list [dI sh, dI asl, dI fg], .lst (.inl (.inl (k57.same _ _ rfl q_H5))) (.cons (dp_dI (.inl (.inl (k57.same _ _ rfl r4)))) (.cons (dp_dI (.inl (.inl (k57.same _ _ rfl r5)))) (.cons (dp_dI (.inl (.inl (k57.same _ _ rfl r6)))) .nil))),
          .lst (.inl (.inl q_H7)) (.cons (dp_dI (.inl (.inl (k57.same _ _ rfl r1)))) (.cons (dp_dI (.inl (.inl (k57.same _ _ rfl r2)))) (.cons (dp_dI (.inl (.inl (k57.same _ _ rfl r3)))) .nil))), dn.shaped (by decide), dn.shaped (by decide), _, rfl, iteFo (by rw [dn.same (by decide)]; rfl) ?_⟩
        exact ⟨_, _, _, _, _, _, _, _, rfl, ((kp.trans k1).trans k15).trans k57⟩
    · rintro σ H' ⟨y1, y2, y3, y4, y5, y6, y7, y8, rfl, kp⟩
      exact k _
end
theorem all_mk {l : PySem.W.OpenLaw} {w : World} {K : PySem.W.Frag} {h : Heap} {mg : Str → Option Value} {fa : Addr} (X : K.In h) (G : h.Ns mainGlobals mg) (hfa : mg "law" = some (.ref fa))
    {f1 : Addr} {od1 an1 : Option Addr} {sl1 : Array (Option Value)} {oc1 kV1 dc1 pm1 cd1 ct1 : Value}
    {f2 : Addr} {od2 an2 : Option Addr} {sl2 : Array (Option Value)} {oc2 kV2 dc2 pm2 cd2 ct2 : Value}
    {f3 : Addr} {od3 an3 : Option Addr} {sl3 : Array (Option Value)} {oc3 kV3 dc3 pm3 cd3 ct3 : Value}
    {f4 : Addr} {od4 an4 : Option Addr} {sl4 : Array (Option Value)} {oc4 kV4 dc4 pm4 cd4 ct4 : Value}
    {f5 : Addr} {od5 an5 : Option Addr} {sl5 : Array (Option Value)} {oc5 kV5 dc5 pm5 cd5 ct5 : Value}
    {f6 : Addr} {od6 an6 : Option Addr} {sl6 : Array (Option Value)} {oc6 kV6 dc6 pm6 cd6 ct6 : Value}
    {f7 : Addr} {od7 an7 : Option Addr} {sl7 : Array (Option Value)} {oc7 kV7 dc7 pm7 cd7 ct7 : Value}
    {f8 : Addr} {od8 an8 : Option Addr} {sl8 : Array (Option Value)} {oc8 kV8 dc8 pm8 cd8 ct8 : Value}
    {f9 : Addr} {od9 an9 : Option Addr} {sl9 : Array (Option Value)} {oc9 kV9 dc9 pm9 cd9 ct9 : Value}
    {tk_REST : Tok}
    {tk_READY : Tok}
    (a1 : PySem.W.nsIn K mainGlobals "reason" = some (some (.ref f1)))
    (l1 : K.lookup f1 = some ⟨oc1, od1, .func (PySem.W.fnOf "reason" "reason" (defArgs s_p_reason) (defBody s_p_reason) (defScope s_p_reason) .none kV1 dc1 pm1 an1 cd1 ct1), sl1⟩)
    (c1 : PySem.W.codeIn K cd1 "reason" = true)
    (k1 : PySem.W.keepIn K (.ref f1) = true)
    (a2 : PySem.W.nsIn K mainGlobals "hindrance_behind" = some (some (.ref f2)))
    (l2 : K.lookup f2 = some ⟨oc2, od2, .func (PySem.W.fnOf "hindrance_behind" "hindrance_behind" (defArgs s_p_hindrance_behind) (defBody s_p_hindrance_behind) (defScope s_p_hindrance_behind) .none kV2 dc2 pm2 an2 cd2 ct2), sl2⟩)
    (c2 : PySem.W.codeIn K cd2 "hindrance_behind" = true)
    (k2 : PySem.W.keepIn K (.ref f2) = true)
    (a3 : PySem.W.nsIn K mainGlobals "hindrance_ahead" = some (some (.ref f3)))
    (l3 : K.lookup f3 = some ⟨oc3, od3, .func (PySem.W.fnOf "hindrance_ahead" "hindrance_ahead" (defArgs s_p_hindrance_ahead) (defBody s_p_hindrance_ahead) (defScope s_p_hindrance_ahead) .none kV3 dc3 pm3 an3 cd3 ct3), sl3⟩)
    (c3 : PySem.W.codeIn K cd3 "hindrance_ahead" = true)
    (k3 : PySem.W.keepIn K (.ref f3) = true)
    (a4 : PySem.W.nsIn K mainGlobals "_law_cell" = some (some (.ref f4)))
    (l4 : K.lookup f4 = some ⟨oc4, od4, .func (PySem.W.fnOf "_law_cell" "_law_cell" (defArgs s_l_cell) (defBody s_l_cell) (defScope s_l_cell) .none kV4 dc4 pm4 an4 cd4 ct4), sl4⟩)
    (c4 : PySem.W.codeIn K cd4 "_law_cell" = true)
    (k4 : PySem.W.keepIn K (.ref f4) = true)
    (a5 : PySem.W.nsIn K mainGlobals "_law_row" = some (some (.ref f5)))
    (l5 : K.lookup f5 = some ⟨oc5, od5, .func (PySem.W.fnOf "_law_row" "_law_row" (defArgs s_l_row) (defBody s_l_row) (defScope s_l_row) .none kV5 dc5 pm5 an5 cd5 ct5), sl5⟩)
    (c5 : PySem.W.codeIn K cd5 "_law_row" = true)
    (k5 : PySem.W.keepIn K (.ref f5) = true)
    (a6 : PySem.W.nsIn K mainGlobals "_law_like" = some (some (.ref f6)))
    (l6 : K.lookup f6 = some ⟨oc6, od6, .func (PySem.W.fnOf "_law_like" "_law_like" (defArgs s_l_like) (defBody s_l_like) (defScope s_l_like) .none kV6 dc6 pm6 an6 cd6 ct6), sl6⟩)
    (c6 : PySem.W.codeIn K cd6 "_law_like" = true)
    (k6 : PySem.W.keepIn K (.ref f6) = true)
    (a7 : PySem.W.nsIn K mainGlobals "_law_shown" = some (some (.ref f7)))
    (l7 : K.lookup f7 = some ⟨oc7, od7, .func (PySem.W.fnOf "_law_shown" "_law_shown" (defArgs s_l_shown) (defBody s_l_shown) (defScope s_l_shown) .none kV7 dc7 pm7 an7 cd7 ct7), sl7⟩)
    (c7 : PySem.W.codeIn K cd7 "_law_shown" = true)
    (k7 : PySem.W.keepIn K (.ref f7) = true)
    (a8 : PySem.W.nsIn K mainGlobals "_law_reason" = some (some (.ref f8)))
    (l8 : K.lookup f8 = some ⟨oc8, od8, .func (PySem.W.fnOf "_law_reason" "_law_reason" (defArgs s_l_reason) (defBody s_l_reason) (defScope s_l_reason) .none kV8 dc8 pm8 an8 cd8 ct8), sl8⟩)
    (c8 : PySem.W.codeIn K cd8 "_law_reason" = true)
    (k8 : PySem.W.keepIn K (.ref f8) = true)
    (a9 : PySem.W.nsIn K mainGlobals "law" = some (some (.ref f9)))
    (l9 : K.lookup f9 = some ⟨oc9, od9, .func (PySem.W.fnOf "law" "law" (defArgs s_law) (defBody s_law) (defScope s_law) .none kV9 dc9 pm9 an9 cd9 ct9), sl9⟩)
    (c9 : PySem.W.codeIn K cd9 "law" = true)
    (k9 : PySem.W.keepIn K (.ref f9) = true)
    (q_REST : PySem.W.nsIn K mainGlobals "REST" = some (some (.int 0 tk_REST)))
    (q_READY : PySem.W.nsIn K mainGlobals "READY" = some (some (.str "ready" tk_READY)))
    (z_len : PySem.W.nsIn K mainGlobals "len" = some none)
    (z_range : PySem.W.nsIn K mainGlobals "range" = some none)
    (z_isinstance : PySem.W.nsIn K mainGlobals "isinstance" = some none)
    (z_bool : PySem.W.nsIn K mainGlobals "bool" = some none)
    (z_int : PySem.W.nsIn K mainGlobals "int" = some none)
    (z_str : PySem.W.nsIn K mainGlobals "str" = some none)
    (z_all : PySem.W.nsIn K mainGlobals "all" = some none)
    (z_list : PySem.W.nsIn K mainGlobals "list" = some none)
    (z_tuple : PySem.W.nsIn K mainGlobals "tuple" = some none) :
    ∃ fd : FuncData, (∀ (s : Shared) (v : Value), BindsTo s fd ⟨[v], []⟩ [("_law_script", v)]) ∧ ∀ base : Heap, K.In base → base.Ns mainGlobals mg → FnOk l.prog w K mg base CX0 8 fa fd ["_law_script"] (sp_law K) := by
  have e := hfa.symm.trans (PySem.W.mg_of X G a9)
  cases e
  let T : Txt K mg :=
    { f_p_reason := f1,
      d_p_reason := _,
      F_p_reason := fun_mk (st := s_p_reason) l1 c1 k1,
      b_p_reason := (fun_mk (st := s_p_reason) l1 c1 k1).binds (ps := ["shown", "waits", "asleep", "fogs", "place"]) fun _ _ _ _ _ _ us hl => match us, hl with | [_, _, _, _, _], _ => rfl,
      g_p_reason := PySem.W.mg_of X G a1,
      f_p_hindrance_behind := f2,
      d_p_hindrance_behind := _,
      F_p_hindrance_behind := fun_mk (st := s_p_hindrance_behind) l2 c2 k2,
      b_p_hindrance_behind := (fun_mk (st := s_p_hindrance_behind) l2 c2 k2).binds (ps := ["shown", "waits", "fogs", "place"]) fun _ _ _ _ _ _ us hl => match us, hl with | [_, _, _, _], _ => rfl,
      g_p_hindrance_behind := PySem.W.mg_of X G a2,
      f_p_hindrance_ahead := f3,
      d_p_hindrance_ahead := _,
      F_p_hindrance_ahead := fun_mk (st := s_p_hindrance_ahead) l3 c3 k3,
      b_p_hindrance_ahead := (fun_mk (st := s_p_hindrance_ahead) l3 c3 k3).binds (ps := ["shown", "fogs", "place"]) fun _ _ _ _ _ _ us hl => match us, hl with | [_, _, _], _ => rfl,
      g_p_hindrance_ahead := PySem.W.mg_of X G a3,
      f_l_cell := f4,
      d_l_cell := _,
      F_l_cell := fun_mk (st := s_l_cell) l4 c4 k4,
      b_l_cell := (fun_mk (st := s_l_cell) l4 c4 k4).binds (ps := ["_law_script", "_law_at"]) fun _ _ _ _ _ _ us hl => match us, hl with | [_, _], _ => rfl,
      g_l_cell := PySem.W.mg_of X G a4,
      f_l_row := f5,
      d_l_row := _,
      F_l_row := fun_mk (st := s_l_row) l5 c5 k5,
      b_l_row := (fun_mk (st := s_l_row) l5 c5 k5).binds (ps := ["_law_cell_here", "_law_many", "_law_size"]) fun _ _ _ _ _ _ us hl => match us, hl with | [_, _, _], _ => rfl,
      g_l_row := PySem.W.mg_of X G a5,
      f_l_like := f6,
      d_l_like := _,
      F_l_like := fun_mk (st := s_l_like) l6 c6 k6,
      b_l_like := (fun_mk (st := s_l_like) l6 c6 k6).binds (ps := ["_law_found", "_law_due"]) fun _ _ _ _ _ _ us hl => match us, hl with | [_, _], _ => rfl,
      g_l_like := PySem.W.mg_of X G a6,
      f_l_shown := f7,
      d_l_shown := _,
      F_l_shown := fun_mk (st := s_l_shown) l7 c7 k7,
      b_l_shown := (fun_mk (st := s_l_shown) l7 c7 k7).binds (ps := ["_law_script", "_law_at"]) fun _ _ _ _ _ _ us hl => match us, hl with | [_, _], _ => rfl,
      g_l_shown := PySem.W.mg_of X G a7,
      f_l_reason := f8,
      d_l_reason := _,
      F_l_reason := fun_mk (st := s_l_reason) l8 c8 k8,
      b_l_reason := (fun_mk (st := s_l_reason) l8 c8 k8).binds (ps := ["_law_shown_here", "_law_waits", "_law_asleep", "_law_fogs", "_law_place"]) fun _ _ _ _ _ _ us hl => match us, hl with | [_, _, _, _, _], _ => rfl,
      g_l_reason := PySem.W.mg_of X G a8,
      u_REST := _,
      c_REST := PySem.W.mg_of X G q_REST,
      r_REST := ⟨_, rfl⟩,
      u_READY := _,
      c_READY := PySem.W.mg_of X G q_READY,
      r_READY := ⟨_, rfl⟩,
      m_len := PySem.W.mg_none_of X G z_len,
      m_range := PySem.W.mg_none_of X G z_range,
      m_isinstance := PySem.W.mg_none_of X G z_isinstance,
      m_bool := PySem.W.mg_none_of X G z_bool,
      m_int := PySem.W.mg_none_of X G z_int,
      m_str := PySem.W.mg_none_of X G z_str,
      m_all := PySem.W.mg_none_of X G z_all,
      m_list := PySem.W.mg_none_of X G z_list,
      m_tuple := PySem.W.mg_none_of X G z_tuple }
  exact ⟨PySem.W.fnOf "law" "law" (defArgs s_law) (defBody s_law) (defScope s_law) .none kV9 dc9 pm9 an9 cd9 ct9, fun s v => .of_eq rfl, fun base _ _ => ok_law T (fun_mk (st := s_law) l9 c9 k9)⟩
end Mw
open PySem PySem.W PyProof.Rows
set_option maxRecDepth 100000 in
set_option maxHeartbeats 0 in
theorem PySem.Challenge.cw_mastword_k10_why_a_keeper_waits_holds : PySem.Challenge.rw_mastword_k10_why_a_keeper_waits.Holds := by
  w_on; o_law; k_head; (case hw => w_witness2)
  k_fill
  refine L2.walk_of (l := PySem.Challenge.rw_mastword_k10_why_a_keeper_waits) (n := 63) (k := 8) (x := "_law_script") (CX := fun _ => L2.CX0) (sp := fun w => Mw.sp_law _) rfl (by decide) rfl ⟨rfl, by decide, by decide⟩ (fun w h Y => PySem.W.kIn_of Y) ?F (fun _ _ a ns hl _ hS => ⟨a, ns, rfl, hS, hl, fun _ => rfl⟩) (fun _ _ _ _ _ h => h)
  case F =>
    intro w mg fa h KX G hmg
    refine' Mw.all_mk KX G hmg ?a1 ?l1 ?c1 ?k1 ?a2 ?l2 ?c2 ?k2 ?a3 ?l3 ?c3 ?k3 ?a4 ?l4 ?c4 ?k4 ?a5 ?l5 ?c5 ?k5 ?a6 ?l6 ?c6 ?k6 ?a7 ?l7 ?c7 ?k7 ?a8 ?l8 ?c8 ?k8 ?a9 ?l9 ?c9 ?k9 ?q_REST ?q_READY ?z_len ?z_range ?z_isinstance ?z_bool ?z_int ?z_str ?z_all ?z_list ?z_tuple
    (case a1 => k_is)
    (case l1 => k_is)
    (case c1 => k_is)
    (case k1 => k_is)
    (case a2 => k_is)
    (case l2 => k_is)
    (case c2 => k_is)
    (case k2 => k_is)
    (case a3 => k_is)
    (case l3 => k_is)
    (case c3 => k_is)
    (case k3 => k_is)
    (case a4 => k_is)
    (case l4 => k_is)
    (case c4 => k_is)
    (case k4 => k_is)
    (case a5 => k_is)
    (case l5 => k_is)
    (case c5 => k_is)
    (case k5 => k_is)
    (case a6 => k_is)
    (case l6 => k_is)
    (case c6 => k_is)
    (case k6 => k_is)
    (case a7 => k_is)
    (case l7 => k_is)
    (case c7 => k_is)
    (case k7 => k_is)
    (case a8 => k_is)
    (case l8 => k_is)
    (case c8 => k_is)
    (case k8 => k_is)
    (case a9 => k_is)
    (case l9 => k_is)
    (case c9 => k_is)
    (case k9 => k_is)
    (case q_REST => k_is)
    (case q_READY => k_is)
    (case z_len => k_is)
    (case z_range => k_is)
    (case z_isinstance => k_is)
    (case z_bool => k_is)
    (case z_int => k_is)
    (case z_str => k_is)
    (case z_all => k_is)
    (case z_list => k_is)
    (case z_tuple => k_is)
