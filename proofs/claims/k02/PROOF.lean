import PyProof.Rows.All
import Wide.All
import OpenK.AllK
import Wide.FinOn
import HandS.ForMost
import HandS.ForExc
import HandS.AnyAll
import HandS.EndTab
import HandS.ExcIs
import HandS.ExcField
import HandS.ExcInit
import HandS.IsInst
import HandS.Conv
import HandS.Replace
import HandS.Flow
import PySem.Challenge.RW_mastword_k02_letters_and_signs
set_option Elab.async false
set_option linter.all false
set_option maxRecDepth 100000
set_option maxHeartbeats 2000000
namespace Mw
open PySem PySem.Spec PyProof.Rows L2
/-! ### what is kept: every tracked thing but the tables of code objects, which stay tables -/
def isT : HO → Bool
  | .tbl _ => true
  | _ => false
structure Kp (H H' : Hp) : Prop where
  same : ∀ a o, isT o = false → H a = some o → H' a = some o
  tab : ∀ a, GxR.TabG H a → GxR.TabG H' a
  free : ∀ a, H' a = none → H a = none
theorem Kp.refl (H : Hp) : Kp H H := ⟨fun _ _ _ h => h, fun _ h => h, fun _ h => h⟩
theorem Kp.trans {H H1 H2 : Hp} (a : Kp H H1) (b : Kp H1 H2) : Kp H H2 :=
  ⟨fun x o t h => b.same x o t (a.same x o t h), fun x h => b.tab x (a.tab x h), fun x h => a.free x (b.free x h)⟩
theorem Kp.mut {H H' : Hp} {p : Addr} {o : HO} (e : Kp H H') (h : H p = none) : Kp H (upd H' p o) := by
  refine ⟨fun a u t ha => ?_, fun a ⟨ps, ha, ht⟩ => ?_, fun a ha => ?_⟩
  · rw [upd_ne (ne_of_none ha h)]
    exact e.same a u t ha
  · obtain ⟨ps', h1, h2⟩ := e.tab a ⟨ps, ha, ht⟩
    exact ⟨ps', by rw [upd_ne (ne_of_none ha h)]; exact h1, h2⟩
  · by_cases q : a = p
    · rw [q]
      exact h
    · rw [upd_ne q] at ha
      exact e.free a ha
theorem Kp.new {H : Hp} {p : Addr} {o : HO} (h : H p = none) : Kp H (upd H p o) := (Kp.refl H).mut h
theorem Kp.rd {H H' : Hp} {a : Addr} {u : HO} (e : Kp H H') (t : isT u = false) (h : Rd H a u) : Rd H' a u := by
  rcases h with h | ⟨o, h⟩
  · exact Or.inl (e.same a _ t h)
  · exact Or.inr ⟨o, e.same a _ rfl h⟩
theorem Kp.sqL {K : PySem.W.Frag} {H H' : Hp} {a : Addr} {xs : List V} (e : Kp H H') (h : SqL K H a xs) : SqL K H' a xs := by
  rcases h with h | h
  · exact Or.inl (e.rd rfl h)
  · exact Or.inr h
theorem Kp.sqT {K : PySem.W.Frag} {H H' : Hp} {a : Addr} {xs : List V} (e : Kp H H') (h : SqT K H a xs) : SqT K H' a xs := by
  rcases h with h | h
  · exact Or.inl (e.rd rfl h)
  · exact Or.inr h
mutual
theorem Kp.dp {K : PySem.W.Frag} {H H' : Hp} (e : Kp H H') : ∀ {d : PyData} {v : V}, Dp K H v d → Dp K H' v d
  | _, _, .non => .non
  | _, _, .bl b => .bl b
  | _, _, .int i => .int i
  | _, _, .str x => .str x
  | _, _, .lst h a => .lst (e.sqL h) (Kp.dpAll e a)
  | _, _, .tup h a => .tup (e.sqT h) (Kp.dpAll e a)
theorem Kp.dpAll {K : PySem.W.Frag} {H H' : Hp} (e : Kp H H') : ∀ {ds : List PyData} {vs : List V}, DpAll K H vs ds → DpAll K H' vs ds
  | _, _, .nil => .nil
  | _, _, .cons h t => .cons (Kp.dp e h) (Kp.dpAll e t)
end
theorem DpAll.len {K : PySem.W.Frag} {H : Hp} : ∀ {vs : List V} {ds : List PyData}, DpAll K H vs ds → vs.length = ds.length
  | _, _, .nil => rfl
  | _, _, .cons _ t => congrArg (· + 1) (DpAll.len t)
theorem DpAll.get {K : PySem.W.Frag} {H : Hp} : ∀ {vs : List V} {ds : List PyData} {i : Nat} {d : PyData}, DpAll K H vs ds → ds[i]? = some d → ∃ v, vs[i]? = some v ∧ Dp K H v d
  | _, _, i, d, .nil, h => by simp at h
  | _, _, 0, d, .cons a _, h => by
    have e := Option.some.inj h
    subst e
    exact ⟨_, rfl, a⟩
  | _, _, i + 1, d, .cons _ t, h => DpAll.get (i := i) t h
theorem DpAll.app {K : PySem.W.Frag} {H : Hp} : ∀ {vs ws : List V} {ds es : List PyData}, DpAll K H vs ds → DpAll K H ws es → DpAll K H (vs ++ ws) (ds ++ es)
  | _, _, _, _, .nil, b => b
  | _, _, _, _, .cons a t, b => .cons a (DpAll.app t b)
theorem dp_ints {K : PySem.W.Frag} {H : Hp} : ∀ ns : List Int, DpAll K H (ns.map V.int) (ns.map PyData.int)
  | [] => .nil
  | n :: r => .cons (.int n) (dp_ints r)
theorem dp_strs {K : PySem.W.Frag} {H : Hp} : ∀ ns : List Str, DpAll K H (ns.map V.str) (ns.map PyData.str)
  | [] => .nil
  | n :: r => .cons (.str n) (dp_strs r)
/-- a list of ints, a list of texts as data -/
def dI (ns : List Int) : PyData := .list (ns.map PyData.int)
def dS (ns : List Str) : PyData := .list (ns.map PyData.str)
theorem dp_dI {K : PySem.W.Frag} {H : Hp} {a : Addr} {ns : List Int} (h : SqL K H a (ns.map V.int)) : Dp K H (.ref a) (dI ns) := .lst h (dp_ints ns)
theorem dpAll_ints {K : PySem.W.Frag} {H : Hp} : ∀ {ns : List Int} {vs : List V}, DpAll K H vs (ns.map PyData.int) → vs = ns.map V.int
  | [], _, .nil => rfl
  | n :: r, _, .cons h t => by
    cases h
    rw [dpAll_ints t]
    rfl
theorem dp_of_dI {K : PySem.W.Frag} {H : Hp} {v : V} {ns : List Int} (h : Dp K H v (dI ns)) : ∃ a, v = .ref a ∧ SqL K H a (ns.map V.int) := by
  cases h with
  | lst h t =>
    rw [dpAll_ints t] at h
    exact ⟨_, rfl, h⟩
/-! ### small words -/
theorem at_int {ns : List Int} {j : Nat} (h : j < ns.length) : atI (ns.map V.int) (j : Int) = some (.int ns[j]) := atI_nat (by rw [List.getElem?_map, List.getElem?_eq_getElem h]; rfl)
theorem at_intZ {ns : List Int} {z : Int} (h0 : 0 ≤ z) (h : z.toNat < ns.length) : atI (ns.map V.int) z = some (.int ns[z.toNat]) := by
  have e := at_int h
  rw [Int.toNat_of_nonneg h0] at e
  exact e
theorem szl {n : Nat} (h : n ≤ 100000) : n ≤ sizeLine := Nat.le_trans h (by decide)
theorem szt {n : Nat} (h : n < 100000) : n < sizeLine := Nat.lt_of_lt_of_le h (by decide)
theorem iteB {b : Bool} {A B : Prop} (h1 : b = true → A) (h2 : b = false → B) : if b = true then A else B := by
  cases b with
  | true => rw [if_pos rfl]; exact h1 rfl
  | false => rw [if_neg Bool.false_ne_true]; exact h2 rfl
theorem iteD {c : Prop} [Decidable c] {A B : Prop} (h1 : c → A) (h2 : ¬ c → B) : if decide c = true then A else B :=
  iteB (fun h => h1 (of_decide_eq_true h)) (fun h => h2 (of_decide_eq_false h))
theorem iteN {c : Prop} [Decidable c] {A B : Prop} (h1 : ¬ c → A) (h2 : c → B) : if (!decide c) = true then A else B :=
  iteB (fun h => h1 (fun z => by rw [decide_eq_true z] at h; cases h)) (fun h => h2 (by
    by_cases z : c
    · exact z
    · rw [decide_eq_false z] at h; cases h))
theorem iteTo {b : Bool} {A B : Prop} (e : b = true) (h : A) : if b = true then A else B := by rw [if_pos e]; exact h
theorem iteFo {b : Bool} {A B : Prop} (e : b = false) (h : B) : if b = true then A else B := by rw [e, if_neg Bool.false_ne_true]; exact h
/-! ### rules with the written part by its own name (inside a comprehension) -/
section
variable {X : Cx} (K : PySem.W.Frag)
theorem ix_listK (h : X.K = K) : IxR X (rIxL K) := h ▸ ix_list
theorem ix_tupK (h : X.K = K) : IxR X (rIxT K) := h ▸ ix_tup
theorem ix_seqK (h : X.K = K) : IxR X (rIx K) := h ▸ ix_seq
def rLenSq : List V → Hp → VK → Prop := fun xs H Q => ∃ p ys, xs = [.ref p] ∧ (SqL K H p ys ∨ SqT K H p ys) ∧ Q (.int ys.length) H
theorem call_lenSK (h : X.K = K) : CallR X (.builtin "len") (rLenSq K) := h ▸ call_len_seq
def rLenV : List V → Hp → VK → Prop := fun xs H Q => ∃ x n, xs = [x] ∧ LenV K x H n ∧ Q (.int n) H
theorem call_lenK (h : X.K = K) : CallR X (.builtin "len") (rLenV K) := h ▸ call_len
theorem op_inK (h : X.K = K) : OpR X (compareOp .In) (rIn K false) := h ▸ op_in_seq
theorem op_notInK (h : X.K = K) : OpR X (compareOp .NotIn) (rIn K true) := h ▸ op_notIn_seq
theorem op_eqDK (h : X.K = K) (hu : X.A.units + 64 < cLine) : OpR X (compareOp .Eq) (rEqD K) := h ▸ op_eqD hu
theorem op_neDK (h : X.K = K) (hu : X.A.units + 64 < cLine) : OpR X (compareOp .NotEq) (rNeD K) := h ▸ op_neD hu
theorem call_isiKK (h : X.K = K) : CallR X (.builtin "isinstance") (rIsi K) := h ▸ call_isi
end
def top (i : Nat) : Stmt := PySem.Challenge.pw_mastword_k02_letters_and_signs.main.body.getD i (.Pass ⟨0, 0, 0, 0⟩)
abbrev s_p_letter_of : Stmt := top 3
theorem sc_p_letter_of : FnScope ["sign"] ["sign"] (defScope s_p_letter_of) := ⟨rfl, rfl, rfl, by decide +kernel, rfl, by decide +kernel, by decide +kernel⟩
abbrev s_p_sign_of : Stmt := top 4
theorem sc_p_sign_of : FnScope ["letter"] ["letter"] (defScope s_p_sign_of) := ⟨rfl, rfl, rfl, by decide +kernel, rfl, by decide +kernel, by decide +kernel⟩
abbrev s_l_cell : Stmt := top 6
theorem sc_l_cell : FnScope ["_law_script", "_law_at"] ["_law_script", "_law_at"] (defScope s_l_cell) := ⟨rfl, rfl, rfl, by decide +kernel, rfl, by decide +kernel, by decide +kernel⟩
abbrev s_l_like : Stmt := top 7
theorem sc_l_like : FnScope ["_law_found", "_law_due", "_law_k"] ["_law_found", "_law_due"] (defScope s_l_like) := ⟨rfl, rfl, rfl, by decide +kernel, rfl, by decide +kernel, by decide +kernel⟩
abbrev s_law : Stmt := top 8
theorem sc_law : FnScope ["_law_script", "_law_letters", "_law_at", "_law_k"] ["_law_script"] (defScope s_law) := ⟨rfl, rfl, rfl, by decide +kernel, rfl, by decide +kernel, by decide +kernel⟩
structure Txt (K : PySem.W.Frag) (mg : Str → Option Value) where
  f_p_letter_of : Addr
  d_p_letter_of : FuncData
  F_p_letter_of : Fun K "letter_of" "letter_of" s_p_letter_of f_p_letter_of d_p_letter_of
  b_p_letter_of : Binds K d_p_letter_of ["sign"] []
  g_p_letter_of : mg "letter_of" = some (.ref f_p_letter_of)
  f_p_sign_of : Addr
  d_p_sign_of : FuncData
  F_p_sign_of : Fun K "sign_of" "sign_of" s_p_sign_of f_p_sign_of d_p_sign_of
  b_p_sign_of : Binds K d_p_sign_of ["letter"] []
  g_p_sign_of : mg "sign_of" = some (.ref f_p_sign_of)
  f_l_cell : Addr
  d_l_cell : FuncData
  F_l_cell : Fun K "_law_cell" "_law_cell" s_l_cell f_l_cell d_l_cell
  b_l_cell : Binds K d_l_cell ["_law_script", "_law_at"] []
  g_l_cell : mg "_law_cell" = some (.ref f_l_cell)
  f_l_like : Addr
  d_l_like : FuncData
  F_l_like : Fun K "_law_like" "_law_like" s_l_like f_l_like d_l_like
  b_l_like : Binds K d_l_like ["_law_found", "_law_due"] []
  g_l_like : mg "_law_like" = some (.ref f_l_like)
  u_LETTERS : Value
  c_LETTERS : mg "LETTERS" = some u_LETTERS
  r_LETTERS : RelV (.str "abcdefghijklmnopqrstuvwxyz") u_LETTERS
  u_FIRST_LETTER : Value
  c_FIRST_LETTER : mg "FIRST_LETTER" = some u_FIRST_LETTER
  r_FIRST_LETTER : RelV (.int 41) u_FIRST_LETTER
  m_len : mg "len" = none
  m_isinstance : mg "isinstance" = none
  m_bool : mg "bool" = none
  m_int : mg "int" = none
  m_str : mg "str" = none
  m_all : mg "all" = none
  m_list : mg "list" = none
  m_tuple : mg "tuple" = none
  m_range : mg "range" = none
section
variable {P : Program} {w : World} {K : PySem.W.Frag} {mg : Str → Option Value} {base : Heap}
/-! ### _law_cell: an int of the script -/
def cellV (ns : List Int) (j : Nat) : Int :=
  if j < ns.length then ns.getD j 0 else if ns.length = 0 then 29 * (j : Int) + 5 else ns.getD (j % ns.length) 0 % 1000003 + 103 * (j : Int)
def sp_l_cell (K : PySem.W.Frag) : Sp := fun vs H Q _ => ∃ (l : Addr) (ns : List Int) (j : Nat), vs = [.ref l, .int j] ∧ SqL K H l (ns.map V.int) ∧ j ≤ 100000 ∧ Q (.int (cellV ns j)) H
theorem getD_at {ns : List Int} {j : Nat} (h : j < ns.length) : atI (ns.map V.int) (j : Int) = some (.int (ns.getD j 0)) := by
  rw [at_int h, List.getD_eq_getElem?_getD, List.getElem?_eq_getElem h]
  rfl
theorem ok_l_cell (T : Txt K mg) : FnOk P w K mg base CX0 1 T.f_l_cell T.d_l_cell ["_law_script", "_law_at"] (sp_l_cell K) := by
  refine T.F_l_cell.ok sc_l_cell (fun vs H Q E h => ?_) (fun cdv A outer s H vs Q E hr h => ?_)
  · obtain ⟨l, ns, j, rfl, _⟩ := h
    rfl
  · obtain ⟨l, ns, j, rfl, hS, hj, k⟩ := h
    have hlen : ((ns.map V.int).length : Int) = (ns.length : Int) := by rw [List.length_map]
    refine ⟨_, (pss_cons (ps_if (pt_cmpR op_lt (pv 1) (pe_callB call_len_seq (by rfl) T.m_len PySem.boot_len (pa_cons (pv 0) pa_nil)) (nomark _))
      (pss_one (ps_ret (pe_ix ix_list (pv 0) (pv 1) (fun _ _ => rfl))))
      pss_nil)
      (pss_cons (ps_if (pt_cmpR op_eq (pe_callB call_len_seq (by rfl) T.m_len PySem.boot_len (pa_cons (pv 0) pa_nil)) pe_int (nomark _))
      (pss_one (ps_ret (pe_op op_add (pe_op op_mul pe_int (pv 1)) pe_int)))
      pss_nil)
      (pss_one (ps_ret (pe_op op_add (pe_op op_mod (pe_ix ix_list (pv 0) (pe_op op_mod (pv 1) (pe_callB call_len_seq (by rfl) T.m_len PySem.boot_len (pa_cons (pv 0) pa_nil))) (fun _ _ => rfl)) pe_int) (pe_op op_mul pe_int (pv 1))))))), ?_⟩
    refine ⟨_, rfl, _, rfl, l, _, rfl, .inl hS, _, _, rfl, rfl, _, rfl, iteD (fun c => ?_) (fun c => ?_)⟩
    · rw [hlen] at c
      refine ⟨_, rfl, _, rfl, l, _, _, _, rfl, rfl, hS, getD_at (show j < ns.length by omega), ?_⟩
      have e : cellV ns j = ns.getD j 0 := if_pos (by omega)
      rw [e] at k
      exact k
    · rw [hlen] at c
      refine ⟨_, rfl, l, _, rfl, .inl hS, rfl, _, rfl, iteD (fun c2 => ?_) (fun c2 => ?_)⟩
      · have c3 : (ns.length : Int) = 0 := by
          have z := V.int.inj c2
          rw [hlen] at z
          exact z
        have e : cellV ns j = 29 * (j : Int) + 5 := by
          unfold cellV
          rw [if_neg (by omega), if_pos (by omega)]
        rw [e] at k
        exact ⟨_, rfl, _, _, rfl, rfl, .inl ⟨by decide, by decide⟩, _, _, rfl, rfl, k⟩
      · have c3 : ns.length ≠ 0 := fun z => c2 (by rw [hlen, z]; rfl)
        have hm : j % ns.length < ns.length := Nat.mod_lt _ (by omega)
        have e : cellV ns j = ns.getD (j % ns.length) 0 % 1000003 + 103 * (j : Int) := by
          unfold cellV
          rw [if_neg (by omega), if_neg c3]
        rw [e] at k
        have ea : atI (ns.map V.int) ((j : Int) % ((ns.map V.int).length : Int)) = some (.int (ns.getD (j % ns.length) 0)) := by
          rw [hlen, ← Int.natCast_emod]
          exact getD_at hm
        exact ⟨_, rfl, _, rfl, _, rfl, l, _, rfl, .inl hS, _, _, rfl, rfl, (by show (0 : Int) < ((ns.map V.int).length : Int); rw [hlen]; omega), l, _, _, _, rfl, rfl, hS, ea, _, _, rfl, rfl, (by show (0 : Int) < 1000003; decide), _, rfl, _, _, rfl, rfl, .inl ⟨by decide, by decide⟩, _, _, rfl, rfl, k⟩
/-! ### _law_like of one datum with itself -/
inductive Dn : Nat → PyData → Prop
  | non (n : Nat) : Dn (n + 1) .none
  | bl (n : Nat) (b : Bool) : Dn (n + 1) (.bool b)
  | int (n : Nat) (i : Int) : Dn (n + 1) (.int i)
  | str (n : Nat) (x : Str) : Dn (n + 1) (.str x)
  | lst {n : Nat} {ds : List PyData} : (∀ d ∈ ds, Dn n d) → ds.length ≤ 10000 → Dn (n + 1) (.list ds)
  | tup {n : Nat} {ds : List PyData} : (∀ d ∈ ds, Dn n d) → ds.length ≤ 10000 → Dn (n + 1) (.tuple ds)
def tyN : PyData → String
  | .none => "NoneType" | .bool _ => "bool" | .int _ => "int" | .str _ => "str" | .list _ => "list" | .tuple _ => "tuple" | .dict _ => "dict"
theorem ty_of {K : PySem.W.Frag} {H : Hp} {v : V} {d : PyData} (h : Dp K H v d) : TyX K H v (.type (tyN d)) := by
  cases h with
  | non => exact .base .non
  | bl b => exact .base (.bl b)
  | int i => exact .base (.int i)
  | str x => exact .base (.str x)
  | lst h _ =>
    rcases h with (h | ⟨o, h⟩) | ⟨o, its, n, e, c, _⟩
    · exact .base (.lst h)
    · exact .base (.frz h)
    · exact .kList e c
  | tup h _ =>
    rcases h with (h | ⟨o, h⟩) | ⟨o, its, n, e, c, _⟩
    · exact .base (.tup h)
    · exact .fTuple h
    · exact .kTuple e c
def sp_l_like (K : PySem.W.Frag) (n : Nat) : Sp := fun vs H Q _ => ∃ (u v : V) (d : PyData), vs = [u, v] ∧ Dp K H u d ∧ Dp K H v d ∧ Dn n d ∧ ∀ H', Kp H H' → Q (.bl true) H'
theorem fn_none {P : Program} {w : World} {K : PySem.W.Frag} {mg : Str → Option Value} {base : Heap} {f : Addr} {fd : FuncData} {ps : List Str} {sp : Sp} {k : Nat} (h : ∀ vs H Q E, ¬ sp vs H Q E) : FnOk P w K mg base CX0 k f fd ps sp :=
  ⟨fun vs H Q E q => (h vs H Q E q).elim, fun _ _ _ H _ _ vs Q E _ _ _ _ q => (h vs H Q E q).elim⟩
theorem bl_all {n : Nat} : ((List.replicate n true).map V.bl) = List.replicate n (V.bl true) := List.map_replicate
theorem all_rep (n : Nat) : (List.replicate n true).all id = true := by
  rw [List.all_eq_true]
  intro x hx
  rw [List.eq_of_mem_replicate hx]
  rfl
theorem k_bb : kitB "bool" "bool" = some true := by decide +kernel
theorem k_bi : kitB "bool" "int" = some true := by decide +kernel
theorem k_bs : kitB "bool" "str" = some false := by decide +kernel
theorem k_bl : kitB "bool" "list" = some false := by decide +kernel
theorem k_bt : kitB "bool" "tuple" = some false := by decide +kernel
theorem k_ib : kitB "int" "bool" = some false := by decide +kernel
theorem k_ii : kitB "int" "int" = some true := by decide +kernel
theorem k_is : kitB "int" "str" = some false := by decide +kernel
theorem k_il : kitB "int" "list" = some false := by decide +kernel
theorem k_it : kitB "int" "tuple" = some false := by decide +kernel
theorem k_sb : kitB "str" "bool" = some false := by decide +kernel
theorem k_si : kitB "str" "int" = some false := by decide +kernel
theorem k_ss : kitB "str" "str" = some true := by decide +kernel
theorem k_sl : kitB "str" "list" = some false := by decide +kernel
theorem k_st : kitB "str" "tuple" = some false := by decide +kernel
theorem k_lb : kitB "list" "bool" = some false := by decide +kernel
theorem k_li : kitB "list" "int" = some false := by decide +kernel
theorem k_ls : kitB "list" "str" = some false := by decide +kernel
theorem k_ll : kitB "list" "list" = some true := by decide +kernel
theorem k_lt : kitB "list" "tuple" = some false := by decide +kernel
theorem k_tb : kitB "tuple" "bool" = some false := by decide +kernel
theorem k_ti : kitB "tuple" "int" = some false := by decide +kernel
theorem k_ts : kitB "tuple" "str" = some false := by decide +kernel
theorem k_tl : kitB "tuple" "list" = some false := by decide +kernel
theorem k_tt : kitB "tuple" "tuple" = some true := by decide +kernel
theorem dec_self {x : V} : decide (x = x) = true := decide_eq_true rfl
theorem ok_l_like (T : Txt K mg) : ∀ n : Nat, FnOk P w K mg base CX0 n T.f_l_like T.d_l_like ["_law_found", "_law_due"] (sp_l_like K n)
  | 0 => fn_none fun vs H Q E ⟨u, v, d, _, _, _, h, _⟩ => nomatch h
  | n + 1 => by
    have IH := ok_l_like T n
    refine T.F_l_like.ok sc_l_like (fun vs H Q E h => ?_) (fun cdv A outer s H vs Q E hr h => ?_)
    · obtain ⟨u, v, d, rfl, _⟩ := h
      rfl
    · obtain ⟨u, v, d, rfl, hu, hv, hn, k⟩ := h
      have tu := ty_of hu
      have tv := ty_of hv
      refine ⟨_, (pss_cons (ps_if (pt_cmpR op_isN (pv 1) pe_non (nomark _))
      (pss_one (ps_ret (pe_cmpR op_isN (pv 0) pe_non (nomark _))))
      pss_nil)
      (pss_cons (ps_if (pt_val (pe_callB call_isi (by rfl) T.m_isinstance (by decide +kernel) (pa_cons (pv 1) (pa_cons (pe_bltn (v := .ty "bool") (by rfl) T.m_bool (by decide +kernel) rfl) pa_nil))))
      (pss_one (ps_ret (pe_and (pe_callB call_isi (by rfl) T.m_isinstance (by decide +kernel) (pa_cons (pv 0) (pa_cons (pe_bltn (v := .ty "bool") (by rfl) T.m_bool (by decide +kernel) rfl) pa_nil))) (pe_one (pe_cmpR op_eq (pv 0) (pv 1) (nomark _))))))
      pss_nil)
      (pss_cons (ps_if (pt_val (pe_callB call_isi (by rfl) T.m_isinstance (by decide +kernel) (pa_cons (pv 1) (pa_cons (pe_bltn (v := .ty "int") (by rfl) T.m_int (by decide +kernel) rfl) pa_nil))))
      (pss_one (ps_ret (pe_and (pe_callB call_isi (by rfl) T.m_isinstance (by decide +kernel) (pa_cons (pv 0) (pa_cons (pe_bltn (v := .ty "int") (by rfl) T.m_int (by decide +kernel) rfl) pa_nil))) (pe_and (pe_not (pe_callB call_isi (by rfl) T.m_isinstance (by decide +kernel) (pa_cons (pv 0) (pa_cons (pe_bltn (v := .ty "bool") (by rfl) T.m_bool (by decide +kernel) rfl) pa_nil)))) (pe_one (pe_cmpR op_eq (pv 0) (pv 1) (nomark _)))))))
      pss_nil)
      (pss_cons (ps_if (pt_val (pe_callB call_isi (by rfl) T.m_isinstance (by decide +kernel) (pa_cons (pv 1) (pa_cons (pe_bltn (v := .ty "str") (by rfl) T.m_str (by decide +kernel) rfl) pa_nil))))
      (pss_one (ps_ret (pe_and (pe_callB call_isi (by rfl) T.m_isinstance (by decide +kernel) (pa_cons (pv 0) (pa_cons (pe_bltn (v := .ty "str") (by rfl) T.m_str (by decide +kernel) rfl) pa_nil))) (pe_one (pe_cmpR op_eq (pv 0) (pv 1) (nomark _))))))
      pss_nil)
      (pss_cons (ps_if (PW.pt (pw_or (pt_cmpR op_ne (pe_callB call_isi (by rfl) T.m_isinstance (by decide +kernel) (pa_cons (pv 1) (pa_cons (pe_bltn (v := .ty "list") (by rfl) T.m_list (by decide +kernel) rfl) pa_nil))) (pe_callB call_isi (by rfl) T.m_isinstance (by decide +kernel) (pa_cons (pv 0) (pa_cons (pe_bltn (v := .ty "list") (by rfl) T.m_list (by decide +kernel) rfl) pa_nil))) (nomark _)) (pw_or1 (pt_cmpR op_ne (pe_callB call_isi (by rfl) T.m_isinstance (by decide +kernel) (pa_cons (pv 1) (pa_cons (pe_bltn (v := .ty "tuple") (by rfl) T.m_tuple (by decide +kernel) rfl) pa_nil))) (pe_callB call_isi (by rfl) T.m_isinstance (by decide +kernel) (pa_cons (pv 0) (pa_cons (pe_bltn (v := .ty "tuple") (by rfl) T.m_tuple (by decide +kernel) rfl) pa_nil))) (nomark _)))))
      (pss_one (ps_ret pe_bl))
      pss_nil)
      (pss_one (ps_ret (pe_and (pe_cmpR op_eq (pe_callB call_len (by rfl) T.m_len PySem.boot_len (pa_cons (pv 0) pa_nil)) (pe_callB call_len (by rfl) T.m_len PySem.boot_len (pa_cons (pv 1) pa_nil)) (nomark _)) (pe_one (pe_callB (cr_all rfl) (by rfl) T.m_all (by decide +kernel) (pa_cons (pe_lc (own := [("_law_k", 2)]) (g := gName 2) (tt := tYes) (by rfl) sc_l_like.nd (pi_range1 (by rfl) T.m_range (pa_cons (pe_callB call_len (by rfl) T.m_len PySem.boot_len (pa_cons (pv 1) pa_nil)) pa_nil)) (blkOk_by (own := [("_law_k", 2)]) (N := ["_law_found", "_law_due", "_law_k"]) (sc := defScope s_l_like) (by decide +kernel)) (fun _ _ _ _ _ => (pg_name (i := 2) sc_l_like.nd rfl (by first | exact Or.inl rfl | exact Or.inr rfl))) (fun _ _ _ _ _ => pts_nil) (fun _ _ _ _ _ => (pe_call IH hr rfl T.g_l_like T.F_l_like.kp T.b_l_like .nil pass0 (pa_cons (pe_ix (ix_seqK K rfl) (pv 0) (pv 2) (fun _ _ => rfl)) (pa_cons (pe_ix (ix_seqK K rfl) (pv 1) (pv 2) (fun _ _ => rfl)) pa_nil))))) pa_nil))))))))))), ?_⟩
      cases hn with
      | non n =>
        cases hu
        cases hv
        refine ⟨_, rfl, rfl, _, rfl, iteTo dec_self ?_⟩
        exact ⟨_, rfl, rfl, k _ (.refl _)⟩
      | bl n b =>
        cases hu
        cases hv
        refine ⟨_, rfl, rfl, _, rfl, iteFo rfl ?_⟩
        refine ⟨_, rfl, _, _, _, _, true, rfl, .ty _, tv, kit_ty k_bb, _, rfl, iteTo rfl ?_⟩
        refine ⟨_, rfl, _, _, _, _, true, rfl, .ty _, tu, kit_ty k_bb, _, rfl, iteTo rfl ?_⟩
        refine ⟨_, rfl, _, rfl, rfl, ?_⟩
        rw [dec_self]
        exact k _ (.refl _)
      | int n i =>
        cases hu
        cases hv
        refine ⟨_, rfl, rfl, _, rfl, iteFo rfl ?_⟩
        refine ⟨_, rfl, _, _, _, _, false, rfl, .ty _, tv, kit_ty k_ib, _, rfl, iteFo rfl ?_⟩
        refine ⟨_, rfl, _, _, _, _, true, rfl, .ty _, tv, kit_ty k_ii, _, rfl, iteTo rfl ?_⟩
        refine ⟨_, rfl, _, _, _, _, true, rfl, .ty _, tu, kit_ty k_ii, _, rfl, iteTo rfl ?_⟩
        refine ⟨_, rfl, _, _, _, _, false, rfl, .ty _, tu, kit_ty k_ib, _, rfl, _, rfl, iteTo rfl ?_⟩
        refine ⟨_, rfl, _, rfl, rfl, ?_⟩
        rw [dec_self]
        exact k _ (.refl _)
      | str n x =>
        cases hu
        cases hv
        refine ⟨_, rfl, rfl, _, rfl, iteFo rfl ?_⟩
        refine ⟨_, rfl, _, _, _, _, false, rfl, .ty _, tv, kit_ty k_sb, _, rfl, iteFo rfl ?_⟩
        refine ⟨_, rfl, _, _, _, _, false, rfl, .ty _, tv, kit_ty k_si, _, rfl, iteFo rfl ?_⟩
        refine ⟨_, rfl, _, _, _, _, true, rfl, .ty _, tv, kit_ty k_ss, _, rfl, iteTo rfl ?_⟩
        refine ⟨_, rfl, _, _, _, _, true, rfl, .ty _, tu, kit_ty k_ss, _, rfl, iteTo rfl ?_⟩
        refine ⟨_, rfl, _, rfl, rfl, ?_⟩
        rw [dec_self]
        exact k _ (.refl _)
      | lst hd hl =>
        rename_i ds
        cases hu with | lst hsu hau =>
        cases hv with | lst hsv hav =>
        rename_i a xs b ys
        have lx := DpAll.len hau
        have ly := DpAll.len hav
        refine ⟨_, rfl, rfl, _, rfl, iteFo rfl ?_⟩
        refine ⟨_, rfl, _, _, _, _, false, rfl, .ty _, tv, kit_ty k_lb, _, rfl, iteFo rfl ?_⟩
        refine ⟨_, rfl, _, _, _, _, false, rfl, .ty _, tv, kit_ty k_li, _, rfl, iteFo rfl ?_⟩
        refine ⟨_, rfl, _, _, _, _, false, rfl, .ty _, tv, kit_ty k_ls, _, rfl, iteFo rfl ?_⟩
        refine ⟨_, rfl, _, _, _, _, true, rfl, .ty _, tv, kit_ty k_ll, _, rfl, _, _, _, _, true, rfl, .ty _, tu, kit_ty k_ll, rfl, _, rfl, iteFo rfl ?_⟩
        refine ⟨_, rfl, _, _, _, _, false, rfl, .ty _, tv, kit_ty k_lt, _, rfl, _, _, _, _, false, rfl, .ty _, tu, kit_ty k_lt, rfl, _, rfl, iteFo rfl ?_⟩
        refine ⟨_, rfl, _, _, rfl, .inl ⟨_, hsu, rfl⟩, _, rfl, _, _, rfl, .inl ⟨_, hsv, rfl⟩, rfl, _, rfl, iteTo (decide_eq_true (congrArg (fun z : Nat => V.int (z : Int)) (lx.trans ly.symm))) ?_⟩
        refine ⟨_, rfl, _, _, rfl, .inl ⟨_, hsv, rfl⟩, _, rfl, by omega, by omega, fun D hD => ?_⟩
        rw [Int.toNat_natCast]
        refine lc_range (lo := 0) (n := ys.length) (fun i H' => Kp H H' ∧ H' D = some (.lst (List.replicate i (V.bl true)))) ⟨Kp.new hD, upd_same⟩ (fun i H' hi ⟨kp, hDl⟩ => ?_) (fun H' ⟨kp, hDl⟩ => ?_)
        · have e0 : (0 : Int) + (i : Int) = (i : Int) := Int.zero_add _
          obtain ⟨d, hdi⟩ : ∃ d, ds[i]? = some d := ⟨_, List.getElem?_eq_getElem (by omega)⟩
          obtain ⟨x, hx, dx⟩ := DpAll.get hau hdi
          obtain ⟨y, hy, dy⟩ := DpAll.get hav hdi
          refine ⟨rfl, ?_⟩
          refine ⟨_, rfl, _, rfl, .inl ⟨_, _, _, x, rfl, rfl, kp.sqL hsu, by rw [e0]; exact atI_nat hx, _, rfl, _, rfl, .inl ⟨_, _, _, y, rfl, rfl, kp.sqL hsv, by rw [e0]; exact atI_nat hy, ?_⟩⟩⟩
          refine ⟨x, y, d, rfl, kp.dp dx, kp.dp dy, hd d (List.mem_of_getElem? hdi), fun H2 k2 => ⟨_, k2.same _ _ rfl hDl, szt (by rw [List.length_replicate]; omega), ?_⟩⟩
          exact ⟨(kp.trans k2).mut hD, by rw [upd_same, List.replicate_succ']⟩
        · refine ⟨D, List.replicate ys.length true, rfl, .inl (.inl (by rw [bl_all]; exact hDl)), ?_⟩
          rw [all_rep]
          exact k _ kp
      | tup hd hl =>
        rename_i ds
        cases hu with | tup hsu hau =>
        cases hv with | tup hsv hav =>
        rename_i a xs b ys
        have lx := DpAll.len hau
        have ly := DpAll.len hav
        refine ⟨_, rfl, rfl, _, rfl, iteFo rfl ?_⟩
        refine ⟨_, rfl, _, _, _, _, false, rfl, .ty _, tv, kit_ty k_tb, _, rfl, iteFo rfl ?_⟩
        refine ⟨_, rfl, _, _, _, _, false, rfl, .ty _, tv, kit_ty k_ti, _, rfl, iteFo rfl ?_⟩
        refine ⟨_, rfl, _, _, _, _, false, rfl, .ty _, tv, kit_ty k_ts, _, rfl, iteFo rfl ?_⟩
        refine ⟨_, rfl, _, _, _, _, false, rfl, .ty _, tv, kit_ty k_tl, _, rfl, _, _, _, _, false, rfl, .ty _, tu, kit_ty k_tl, rfl, _, rfl, iteFo rfl ?_⟩
        refine ⟨_, rfl, _, _, _, _, true, rfl, .ty _, tv, kit_ty k_tt, _, rfl, _, _, _, _, true, rfl, .ty _, tu, kit_ty k_tt, rfl, _, rfl, iteFo rfl ?_⟩
        refine ⟨_, rfl, _, _, rfl, .inr ⟨_, hsu, rfl⟩, _, rfl, _, _, rfl, .inr ⟨_, hsv, rfl⟩, rfl, _, rfl, iteTo (decide_eq_true (congrArg (fun z : Nat => V.int (z : Int)) (lx.trans ly.symm))) ?_⟩
        refine ⟨_, rfl, _, _, rfl, .inr ⟨_, hsv, rfl⟩, _, rfl, by omega, by omega, fun D hD => ?_⟩
        rw [Int.toNat_natCast]
        refine lc_range (lo := 0) (n := ys.length) (fun i H' => Kp H H' ∧ H' D = some (.lst (List.replicate i (V.bl true)))) ⟨Kp.new hD, upd_same⟩ (fun i H' hi ⟨kp, hDl⟩ => ?_) (fun H' ⟨kp, hDl⟩ => ?_)
        · have e0 : (0 : Int) + (i : Int) = (i : Int) := Int.zero_add _
          obtain ⟨d, hdi⟩ : ∃ d, ds[i]? = some d := ⟨_, List.getElem?_eq_getElem (by omega)⟩
          obtain ⟨x, hx, dx⟩ := DpAll.get hau hdi
          obtain ⟨y, hy, dy⟩ := DpAll.get hav hdi
          refine ⟨rfl, ?_⟩
          refine ⟨_, rfl, _, rfl, .inr (.inl ⟨_, _, _, x, rfl, rfl, kp.sqT hsu, by rw [e0]; exact atI_nat hx, _, rfl, _, rfl, .inr (.inl ⟨_, _, _, y, rfl, rfl, kp.sqT hsv, by rw [e0]; exact atI_nat hy, ?_⟩)⟩)⟩
          refine ⟨x, y, d, rfl, kp.dp dx, kp.dp dy, hd d (List.mem_of_getElem? hdi), fun H2 k2 => ⟨_, k2.same _ _ rfl hDl, szt (by rw [List.length_replicate]; omega), ?_⟩⟩
          exact ⟨(kp.trans k2).mut hD, by rw [upd_same, List.replicate_succ']⟩
        · refine ⟨D, List.replicate ys.length true, rfl, .inl (.inl (by rw [bl_all]; exact hDl)), ?_⟩
          rw [all_rep]
          exact k _ kp
/-! ### letter_of and sign_of -/
def abc : Str := "abcdefghijklmnopqrstuvwxyz"
theorem abc_len : abc.length = 26 := by decide +kernel
theorem abc_at {j : Nat} (h : j < 26) : atI abc.cps.toList (j : Int) = some (97 + j) := by
  have e : abc.cps.toList = (List.range 26).map (97 + ·) := by decide +kernel
  rw [e]
  exact atI_nat (by rw [List.getElem?_map, List.getElem?_range h]; rfl)
theorem abc_ix : ∀ j, j < 26 → ∃ rest, Builtin.Str.occurrences abc ⟨#[97 + j]⟩ 0 abc.length 1 = j :: rest := by
  have h : ∀ j : Fin 26, (Builtin.Str.occurrences abc ⟨#[97 + j.val]⟩ 0 abc.length 1) = [j.val] := by decide +kernel
  exact fun j hj => ⟨[], h ⟨j, hj⟩⟩
def sp_p_letter_of : Sp := fun vs H Q _ => ∃ j : Nat, vs = [.int (41 + (j : Int))] ∧ j < 26 ∧ Q (.str ⟨#[97 + j]⟩) H
def sp_p_sign_of : Sp := fun vs H Q _ => ∃ j : Nat, vs = [.str ⟨#[97 + j]⟩] ∧ j < 26 ∧ Q (.int (41 + (j : Int))) H
theorem ok_p_letter_of (T : Txt K mg) : FnOk P w K mg base CX0 1 T.f_p_letter_of T.d_p_letter_of ["sign"] sp_p_letter_of := by
  refine T.F_p_letter_of.ok sc_p_letter_of (fun vs H Q E h => ?_) (fun cdv A outer s H vs Q E hr h => ?_)
  · obtain ⟨j, rfl, _⟩ := h
    rfl
  · obtain ⟨j, rfl, hj, k⟩ := h
    refine ⟨_, (pss_one (ps_ret (pe_ix ix_str (pe_glob rfl T.c_LETTERS T.r_LETTERS) (pe_op op_sub (pv 0) (pe_glob rfl T.c_FIRST_LETTER T.r_FIRST_LETTER)) (fun _ _ => rfl)))), ?_⟩
    have e : (41 + (j : Int)) - 41 = (j : Int) := by omega
    exact ⟨_, rfl, _, _, rfl, rfl, abc, _, 97 + j, rfl, rfl, by rw [abc_len]; decide, by rw [e]; exact abc_at hj, k⟩
theorem ok_p_sign_of (T : Txt K mg) : FnOk P w K mg base CX0 1 T.f_p_sign_of T.d_p_sign_of ["letter"] sp_p_sign_of := by
  refine T.F_p_sign_of.ok sc_p_sign_of (fun vs H Q E h => ?_) (fun cdv A outer s H vs Q E hr h => ?_)
  · obtain ⟨j, rfl, _⟩ := h
    rfl
  · obtain ⟨j, rfl, hj, k⟩ := h
    obtain ⟨rest, e⟩ := abc_ix j hj
    refine ⟨_, (pss_one (ps_ret (pe_op op_add (pe_glob rfl T.c_FIRST_LETTER T.r_FIRST_LETTER) (pe_bm PySem.F.plainAttrs_str PySem.F.slot_str_index PySem.F.type_str_index mt_sindex (pe_glob rfl T.c_LETTERS T.r_LETTERS) (pa_cons (pv 0) pa_nil))))), ?_⟩
    exact ⟨rfl, _, rfl, abc, _, j, rest, rfl, rfl, e, _, _, rfl, rfl, k⟩
/-! ### law -/
def sp_law (K : PySem.W.Frag) : Sp := fun vs H Q _ => ∃ (a : Addr) (ns : List Int), vs = [.ref a] ∧ SqL K H a (ns.map V.int) ∧ ns.length ≤ 63 ∧ ∀ H', Q (.bl true) H'
theorem walked {m : Int} (h0 : 0 ≤ m) (h1 : m < 26) : ∀ x ∈ [V.int m] ++ rgV 0 26 ++ [V.int m], ∃ j : Nat, j < 26 ∧ x = .int (j : Int) := by
  have e : V.int m = .int (m.toNat : Int) := by rw [Int.toNat_of_nonneg h0]
  intro x hx
  rcases List.mem_append.mp hx with hx | hx
  · rcases List.mem_append.mp hx with hx | hx
    · rw [List.mem_singleton.mp hx]
      exact ⟨m.toNat, by omega, e⟩
    · unfold rgV at hx
      obtain ⟨i, hi, rfl⟩ := List.mem_map.mp hx
      exact ⟨i, by simpa using hi, by rw [Int.zero_add]⟩
  · rw [List.mem_singleton.mp hx]
    exact ⟨m.toNat, by omega, e⟩
theorem ok_law (T : Txt K mg) {f : Addr} {fd : FuncData} (F : Fun K "law" "law" s_law f fd) : FnOk P w K mg base CX0 5 f fd ["_law_script"] (sp_law K) := by
  refine F.ok sc_law (fun vs H Q E h => ?_) (fun cdv A outer s H vs Q E hr h => ?_)
  · obtain ⟨a, ns, rfl, _⟩ := h
    rfl
  · obtain ⟨a, ns, rfl, hS, hlen, k⟩ := h
    refine ⟨_, (pss_cons (ps_set (i := 1) sc_law.nd rfl (by first | exact Or.inl rfl | exact Or.inr rfl) pe_str)
      (pss_cons (ps_set (i := 2) sc_law.nd rfl (by first | exact Or.inl rfl | exact Or.inr rfl) (pe_op op_mod (pe_call (ok_l_cell T) (hr.mono (by decide)) rfl T.g_l_cell T.F_l_cell.kp T.b_l_cell .nil pass0 (pa_cons (pv 0) (pa_cons pe_int pa_nil))) pe_int))
      (pss_cons (ps_for PassesOwn.never rfl (pi_list (pe_op op_cat (pe_op op_cat (pe_lst (pa_cons (pv 2) pa_nil)) (pe_listRg rfl (by rfl) T.m_list (prg_1 (by rfl) T.m_range pe_int))) (pe_lst (pa_cons (pv 2) pa_nil)))) (pg_name (i := 3) sc_law.nd rfl (by first | exact Or.inl rfl | exact Or.inr rfl))
      (pss_one (ps_if (PW.pt (pw_or (pt_not (pt_val (pe_call (ok_l_like T 4) (hr.mono (by decide)) rfl T.g_l_like T.F_l_like.kp T.b_l_like .nil pass0 (pa_cons (pe_call (ok_p_sign_of T) (hr.mono (by decide)) rfl T.g_p_sign_of T.F_p_sign_of.kp T.b_p_sign_of .nil pass0 (pa_cons (pe_ix ix_str (pv 1) (pv 3) (fun _ _ => rfl)) pa_nil)) (pa_cons (pe_op op_add pe_int (pv 3)) pa_nil))))) (pw_or1 (pt_not (pt_val (pe_call (ok_l_like T 4) (hr.mono (by decide)) rfl T.g_l_like T.F_l_like.kp T.b_l_like .nil pass0 (pa_cons (pe_call (ok_p_letter_of T) (hr.mono (by decide)) rfl T.g_p_letter_of T.F_p_letter_of.kp T.b_p_letter_of .nil pass0 (pa_cons (pe_op op_add pe_int (pv 3)) pa_nil)) (pa_cons (pe_ix ix_str (pv 1) (pv 3) (fun _ _ => rfl)) pa_nil))))))))
      (pss_one (ps_ret pe_bl))
      pss_nil)))
      (pss_one (ps_ret (pe_cmpR op_eq (pe_call (ok_p_sign_of T) (hr.mono (by decide)) rfl T.g_p_sign_of T.F_p_sign_of.kp T.b_p_sign_of .nil pass0 (pa_cons (pe_call (ok_p_letter_of T) (hr.mono (by decide)) rfl T.g_p_letter_of T.F_p_letter_of.kp T.b_p_letter_of .nil pass0 (pa_cons (pe_op op_add pe_int (pv 2)) pa_nil)) pa_nil)) (pe_op op_add pe_int (pv 2)) (nomark _))))))), ?_⟩
    refine ⟨_, rfl, a, ns, 0, rfl, hS, by decide, _, _, rfl, rfl, (by show (0 : Int) < 26; decide), ?_⟩
    have m0 : 0 ≤ cellV ns 0 % 26 := Int.emod_nonneg _ (by decide)
    have m1 : cellV ns 0 % 26 < 26 := Int.emod_lt_of_pos _ (by decide)
    dsimp only
    generalize cellV ns 0 % 26 = m at m0 m1
    refine ⟨_, rfl, szl (by show 1 ≤ 100000; decide), fun p1 n1 => ⟨_, rfl, RgOk.of_le (by decide) (by decide) (by decide) (by decide), fun p2 n2 => ?_⟩⟩
    have d12 : p1 ≠ p2 := ne_of_none upd_same n2
    refine ⟨p1, p2, _, _, rfl, rfl, by rw [upd_ne d12]; exact upd_same, upd_same, by rw [rgV_length]; exact szl (by show 27 ≤ 100000; decide), fun p3 n3 => ?_⟩
    refine ⟨_, rfl, szl (by show 1 ≤ 100000; decide), fun p4 n4 => ?_⟩
    have d34 : p3 ≠ p4 := ne_of_none upd_same n4
    refine ⟨p3, p4, _, _, rfl, rfl, by rw [upd_ne d34]; exact upd_same, upd_same, by rw [List.length_append, rgV_length]; exact szl (by show 28 ≤ 100000; decide), fun p5 n5 => ?_⟩
    generalize hH : upd _ p5 (HO.lst _) = H5
    have h5 : H5 p5 = some (.lst ([V.int m] ++ rgV 0 26 ++ [V.int m])) := by rw [← hH]; exact upd_same
    clear hH n5 d34 n4 n3 d12 n2 n1
    refine ⟨p5, rfl, ⟨_, .inl (.inl h5)⟩, for_list (K := K) (a := p5) (xs := [V.int m] ++ rgV 0 26 ++ [V.int m]) (fun i σ H' => Kp H5 H' ∧ ∃ y : Option V, σ = [some (.ref a), some (.str abc), some (.int m), y])
      ⟨.refl _, none, rfl⟩ (fun i σ H' _ ⟨kp, _⟩ => kp.sqL (.inl (.inl h5))) ?_ ?_⟩
    · rintro i x σ H' hi ⟨kp, y, rfl⟩
      obtain ⟨j, hj, rfl⟩ := walked m0 m1 x (List.mem_of_getElem? hi)
      refine ⟨_, rfl, _, rfl, abc, _, 97 + j, rfl, rfl, by rw [abc_len]; decide, abc_at hj, j, rfl, hj, _, rfl, _, _, rfl, rfl, _, _, .int _, rfl, .int _, .int _, .int 3 _, fun H1 k1 => ?_⟩
      refine ⟨_, rfl, iteFo rfl ?_⟩
      refine ⟨_, rfl, _, _, rfl, rfl, j, rfl, hj, _, rfl, _, rfl, abc, _, 97 + j, rfl, rfl, by rw [abc_len]; decide, abc_at hj, _, _, .str _, rfl, .str _, .str _, .str 3 _, fun H2 k2 => ?_⟩
      refine ⟨_, rfl, iteFo rfl ?_⟩
      exact ⟨(kp.trans k1).trans k2, _, rfl⟩
    · rintro σ H' ⟨kp, y, rfl⟩
      have e : (m.toNat : Int) = m := Int.toNat_of_nonneg m0
      refine ⟨_, rfl, _, _, rfl, rfl, m.toNat, by rw [e]; rfl, by omega, m.toNat, rfl, by omega, _, rfl, _, _, rfl, rfl, rfl, ?_⟩
      dsimp only
      rw [e, dec_self]
      exact k _
end
theorem all_mk {l : PySem.W.OpenLaw} {w : World} {K : PySem.W.Frag} {h : Heap} {mg : Str → Option Value} {fa : Addr} (X : K.In h) (G : h.Ns mainGlobals mg) (hfa : mg "law" = some (.ref fa))
    {f1 : Addr} {od1 an1 : Option Addr} {sl1 : Array (Option Value)} {oc1 kV1 dc1 pm1 cd1 ct1 : Value}
    {f2 : Addr} {od2 an2 : Option Addr} {sl2 : Array (Option Value)} {oc2 kV2 dc2 pm2 cd2 ct2 : Value}
    {f3 : Addr} {od3 an3 : Option Addr} {sl3 : Array (Option Value)} {oc3 kV3 dc3 pm3 cd3 ct3 : Value}
    {f4 : Addr} {od4 an4 : Option Addr} {sl4 : Array (Option Value)} {oc4 kV4 dc4 pm4 cd4 ct4 : Value}
    {f5 : Addr} {od5 an5 : Option Addr} {sl5 : Array (Option Value)} {oc5 kV5 dc5 pm5 cd5 ct5 : Value}
    {tk_LETTERS : Tok}
    {tk_FIRST_LETTER : Tok}
    (a1 : PySem.W.nsIn K mainGlobals "letter_of" = some (some (.ref f1)))
    (l1 : K.lookup f1 = some ⟨oc1, od1, .func (PySem.W.fnOf "letter_of" "letter_of" (defArgs s_p_letter_of) (defBody s_p_letter_of) (defScope s_p_letter_of) .none kV1 dc1 pm1 an1 cd1 ct1), sl1⟩)
    (c1 : PySem.W.codeIn K cd1 "letter_of" = true)
    (k1 : PySem.W.keepIn K (.ref f1) = true)
    (a2 : PySem.W.nsIn K mainGlobals "sign_of" = some (some (.ref f2)))
    (l2 : K.lookup f2 = some ⟨oc2, od2, .func (PySem.W.fnOf "sign_of" "sign_of" (defArgs s_p_sign_of) (defBody s_p_sign_of) (defScope s_p_sign_of) .none kV2 dc2 pm2 an2 cd2 ct2), sl2⟩)
    (c2 : PySem.W.codeIn K cd2 "sign_of" = true)
    (k2 : PySem.W.keepIn K (.ref f2) = true)
    (a3 : PySem.W.nsIn K mainGlobals "_law_cell" = some (some (.ref f3)))
    (l3 : K.lookup f3 = some ⟨oc3, od3, .func (PySem.W.fnOf "_law_cell" "_law_cell" (defArgs s_l_cell) (defBody s_l_cell) (defScope s_l_cell) .none kV3 dc3 pm3 an3 cd3 ct3), sl3⟩)
    (c3 : PySem.W.codeIn K cd3 "_law_cell" = true)
    (k3 : PySem.W.keepIn K (.ref f3) = true)
    (a4 : PySem.W.nsIn K mainGlobals "_law_like" = some (some (.ref f4)))
    (l4 : K.lookup f4 = some ⟨oc4, od4, .func (PySem.W.fnOf "_law_like" "_law_like" (defArgs s_l_like) (defBody s_l_like) (defScope s_l_like) .none kV4 dc4 pm4 an4 cd4 ct4), sl4⟩)
    (c4 : PySem.W.codeIn K cd4 "_law_like" = true)
    (k4 : PySem.W.keepIn K (.ref f4) = true)
    (a5 : PySem.W.nsIn K mainGlobals "law" = some (some (.ref f5)))
    (l5 : K.lookup f5 = some ⟨oc5, od5, .func (PySem.W.fnOf "law" "law" (defArgs s_law) (defBody s_law) (defScope s_law) .none kV5 dc5 pm5 an5 cd5 ct5), sl5⟩)
    (c5 : PySem.W.codeIn K cd5 "law" = true)
    (k5 : PySem.W.keepIn K (.ref f5) = true)
    (q_LETTERS : PySem.W.nsIn K mainGlobals "LETTERS" = some (some (.str "abcdefghijklmnopqrstuvwxyz" tk_LETTERS)))
    (q_FIRST_LETTER : PySem.W.nsIn K mainGlobals "FIRST_LETTER" = some (some (.int 41 tk_FIRST_LETTER)))
    (z_len : PySem.W.nsIn K mainGlobals "len" = some none)
    (z_isinstance : PySem.W.nsIn K mainGlobals "isinstance" = some none)
    (z_bool : PySem.W.nsIn K mainGlobals "bool" = some none)
    (z_int : PySem.W.nsIn K mainGlobals "int" = some none)
    (z_str : PySem.W.nsIn K mainGlobals "str" = some none)
    (z_all : PySem.W.nsIn K mainGlobals "all" = some none)
    (z_list : PySem.W.nsIn K mainGlobals "list" = some none)
    (z_tuple : PySem.W.nsIn K mainGlobals "tuple" = some none)
    (z_range : PySem.W.nsIn K mainGlobals "range" = some none) :
    ∃ fd : FuncData, (∀ (s : Shared) (v : Value), BindsTo s fd ⟨[v], []⟩ [("_law_script", v)]) ∧ ∀ base : Heap, K.In base → base.Ns mainGlobals mg → FnOk l.prog w K mg base CX0 5 fa fd ["_law_script"] (sp_law K) := by
  have e := hfa.symm.trans (PySem.W.mg_of X G a5)
  cases e
  have T : Txt K mg :=
    { f_p_letter_of := f1,
      d_p_letter_of := _,
      F_p_letter_of := fun_mk (st := s_p_letter_of) l1 c1 k1,
      b_p_letter_of := (fun_mk (st := s_p_letter_of) l1 c1 k1).binds (ps := ["sign"]) fun _ _ _ _ _ _ us hl => match us, hl with | [_], _ => rfl,
      g_p_letter_of := PySem.W.mg_of X G a1,
      f_p_sign_of := f2,
      d_p_sign_of := _,
      F_p_sign_of := fun_mk (st := s_p_sign_of) l2 c2 k2,
      b_p_sign_of := (fun_mk (st := s_p_sign_of) l2 c2 k2).binds (ps := ["letter"]) fun _ _ _ _ _ _ us hl => match us, hl with | [_], _ => rfl,
      g_p_sign_of := PySem.W.mg_of X G a2,
      f_l_cell := f3,
      d_l_cell := _,
      F_l_cell := fun_mk (st := s_l_cell) l3 c3 k3,
      b_l_cell := (fun_mk (st := s_l_cell) l3 c3 k3).binds (ps := ["_law_script", "_law_at"]) fun _ _ _ _ _ _ us hl => match us, hl with | [_, _], _ => rfl,
      g_l_cell := PySem.W.mg_of X G a3,
      f_l_like := f4,
      d_l_like := _,
      F_l_like := fun_mk (st := s_l_like) l4 c4 k4,
      b_l_like := (fun_mk (st := s_l_like) l4 c4 k4).binds (ps := ["_law_found", "_law_due"]) fun _ _ _ _ _ _ us hl => match us, hl with | [_, _], _ => rfl,
      g_l_like := PySem.W.mg_of X G a4,
      u_LETTERS := _,
      c_LETTERS := PySem.W.mg_of X G q_LETTERS,
      r_LETTERS := ⟨_, rfl⟩,
      u_FIRST_LETTER := _,
      c_FIRST_LETTER := PySem.W.mg_of X G q_FIRST_LETTER,
      r_FIRST_LETTER := ⟨_, rfl⟩,
      m_len := PySem.W.mg_none_of X G z_len,
      m_isinstance := PySem.W.mg_none_of X G z_isinstance,
      m_bool := PySem.W.mg_none_of X G z_bool,
      m_int := PySem.W.mg_none_of X G z_int,
      m_str := PySem.W.mg_none_of X G z_str,
      m_all := PySem.W.mg_none_of X G z_all,
      m_list := PySem.W.mg_none_of X G z_list,
      m_tuple := PySem.W.mg_none_of X G z_tuple,
      m_range := PySem.W.mg_none_of X G z_range }
  exact ⟨PySem.W.fnOf "law" "law" (defArgs s_law) (defBody s_law) (defScope s_law) .none kV5 dc5 pm5 an5 cd5 ct5, fun s v => .of_eq rfl, fun base _ _ => ok_law T (fun_mk (st := s_law) l5 c5 k5)⟩
end Mw
open PySem PySem.W PyProof.Rows
set_option maxRecDepth 100000 in
set_option maxHeartbeats 0 in
theorem PySem.Challenge.cw_mastword_k02_letters_and_signs_holds : PySem.Challenge.rw_mastword_k02_letters_and_signs.Holds := by
  w_on; o_law; k_head; (case hw => w_witness2)
  k_fill
  refine L2.walk_of (l := PySem.Challenge.rw_mastword_k02_letters_and_signs) (n := 63) (k := 5) (x := "_law_script") (CX := fun _ => L2.CX0) (sp := fun w => Mw.sp_law _) rfl (by decide) rfl ⟨rfl, by decide, by decide⟩ (fun w h Y => PySem.W.kIn_of Y) ?F (fun _ _ a ns hl _ hS => ⟨a, ns, rfl, hS, hl, fun _ => rfl⟩) (fun _ _ _ _ _ h => h)
  case F =>
    intro w mg fa h KX G hmg
    refine' Mw.all_mk KX G hmg ?a1 ?l1 ?c1 ?k1 ?a2 ?l2 ?c2 ?k2 ?a3 ?l3 ?c3 ?k3 ?a4 ?l4 ?c4 ?k4 ?a5 ?l5 ?c5 ?k5 ?q_LETTERS ?q_FIRST_LETTER ?z_len ?z_isinstance ?z_bool ?z_int ?z_str ?z_all ?z_list ?z_tuple ?z_range
    (case a1 => k_is)
    (case l1 => k_is)
    (case c1 => k_is)
    (case k1 => k_is)
    (case a2 => k_is)
    (case l2 => k_is)
    (case c2 => k_is)
    (case k2 => k_is)
    (case a3 => k_is)
    (case l3 => k_is)
    (case c3 => k_is)
    (case k3 => k_is)
    (case a4 => k_is)
    (case l4 => k_is)
    (case c4 => k_is)
    (case k4 => k_is)
    (case a5 => k_is)
    (case l5 => k_is)
    (case c5 => k_is)
    (case k5 => k_is)
    (case q_LETTERS => k_is)
    (case q_FIRST_LETTER => k_is)
    (case z_len => k_is)
    (case z_isinstance => k_is)
    (case z_bool => k_is)
    (case z_int => k_is)
    (case z_str => k_is)
    (case z_all => k_is)
    (case z_list => k_is)
    (case z_tuple => k_is)
    (case z_range => k_is)
