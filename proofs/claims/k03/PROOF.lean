import PyProof.Rows.All
import Wide.All
import OpenK.AllK
import Wide.FinOn
import HandS.ForMost
import HandS.ForExc
import HandS.AnyAll
import HandS.EndTab
import HandS.ExcIs
import HandS.ExcField
import HandS.ExcInit
import HandS.IsInst
import HandS.Conv
import HandS.Replace
import HandS.Flow
import HandS.Walk
import HandS.Evl
import KE.KExcIs
import PySem.Challenge.RW_mastword_k03_signs_struck
set_option Elab.async false
set_option linter.all false
set_option maxRecDepth 100000
set_option maxHeartbeats 2000000
namespace Mw
open PySem PySem.Spec PyProof.Rows L2
/-! ### what is kept: every tracked thing but the tables of code objects, which stay tables -/
def isT : HO → Bool
  | .tbl _ => true
  | _ => false
structure Kp (H H' : Hp) : Prop where
  same : ∀ a o, isT o = false → H a = some o → H' a = some o
  tab : ∀ a, GxR.TabG H a → GxR.TabG H' a
  free : ∀ a, H' a = none → H a = none
theorem Kp.refl (H : Hp) : Kp H H := ⟨fun _ _ _ h => h, fun _ h => h, fun _ h => h⟩
theorem Kp.trans {H H1 H2 : Hp} (a : Kp H H1) (b : Kp H1 H2) : Kp H H2 :=
  ⟨fun x o t h => b.same x o t (a.same x o t h), fun x h => b.tab x (a.tab x h), fun x h => a.free x (b.free x h)⟩
theorem Kp.mut {H H' : Hp} {p : Addr} {o : HO} (e : Kp H H') (h : H p = none) : Kp H (upd H' p o) := by
  refine ⟨fun a u t ha => ?_, fun a ⟨ps, ha, ht⟩ => ?_, fun a ha => ?_⟩
  · rw [upd_ne (ne_of_none ha h)]
    exact e.same a u t ha
  · obtain ⟨ps', h1, h2⟩ := e.tab a ⟨ps, ha, ht⟩
    exact ⟨ps', by rw [upd_ne (ne_of_none ha h)]; exact h1, h2⟩
  · by_cases q : a = p
    · rw [q]
      exact h
    · rw [upd_ne q] at ha
      exact e.free a ha
theorem Kp.new {H : Hp} {p : Addr} {o : HO} (h : H p = none) : Kp H (upd H p o) := (Kp.refl H).mut h
theorem Kp.rd {H H' : Hp} {a : Addr} {u : HO} (e : Kp H H') (t : isT u = false) (h : Rd H a u) : Rd H' a u := by
  rcases h with h | ⟨o, h⟩
  · exact Or.inl (e.same a _ t h)
  · exact Or.inr ⟨o, e.same a _ rfl h⟩
theorem Kp.sqL {K : PySem.W.Frag} {H H' : Hp} {a : Addr} {xs : List V} (e : Kp H H') (h : SqL K H a xs) : SqL K H' a xs := by
  rcases h with h | h
  · exact Or.inl (e.rd rfl h)
  · exact Or.inr h
theorem Kp.sqT {K : PySem.W.Frag} {H H' : Hp} {a : Addr} {xs : List V} (e : Kp H H') (h : SqT K H a xs) : SqT K H' a xs := by
  rcases h with h | h
  · exact Or.inl (e.rd rfl h)
  · exact Or.inr h
mutual
theorem Kp.dp {K : PySem.W.Frag} {H H' : Hp} (e : Kp H H') : ∀ {d : PyData} {v : V}, Dp K H v d → Dp K H' v d
  | _, _, .non => .non
  | _, _, .bl b => .bl b
  | _, _, .int i => .int i
  | _, _, .str x => .str x
  | _, _, .lst h a => .lst (e.sqL h) (Kp.dpAll e a)
  | _, _, .tup h a => .tup (e.sqT h) (Kp.dpAll e a)
theorem Kp.dpAll {K : PySem.W.Frag} {H H' : Hp} (e : Kp H H') : ∀ {ds : List PyData} {vs : List V}, DpAll K H vs ds → DpAll K H' vs ds
  | _, _, .nil => .nil
  | _, _, .cons h t => .cons (Kp.dp e h) (Kp.dpAll e t)
end
theorem DpAll.len {K : PySem.W.Frag} {H : Hp} : ∀ {vs : List V} {ds : List PyData}, DpAll K H vs ds → vs.length = ds.length
  | _, _, .nil => rfl
  | _, _, .cons _ t => congrArg (· + 1) (DpAll.len t)
theorem DpAll.get {K : PySem.W.Frag} {H : Hp} : ∀ {vs : List V} {ds : List PyData} {i : Nat} {d : PyData}, DpAll K H vs ds → ds[i]? = some d → ∃ v, vs[i]? = some v ∧ Dp K H v d
  | _, _, i, d, .nil, h => by simp at h
  | _, _, 0, d, .cons a _, h => by
    have e := Option.some.inj h
    subst e
    exact ⟨_, rfl, a⟩
  | _, _, i + 1, d, .cons _ t, h => DpAll.get (i := i) t h
theorem DpAll.app {K : PySem.W.Frag} {H : Hp} : ∀ {vs ws : List V} {ds es : List PyData}, DpAll K H vs ds → DpAll K H ws es → DpAll K H (vs ++ ws) (ds ++ es)
  | _, _, _, _, .nil, b => b
  | _, _, _, _, .cons a t, b => .cons a (DpAll.app t b)
/-- data without lists -/
inductive Nl : PyData → Prop
  | non : Nl .none
  | bl (b : Bool) : Nl (.bool b)
  | int (i : Int) : Nl (.int i)
  | str (x : Str) : Nl (.str x)
  | tup {ds : List PyData} : (∀ d ∈ ds, Nl d) → Nl (.tuple ds)
/-! a list may change: what has no list in it stays -/
mutual
theorem Dp.mut {K : PySem.W.Frag} {H : Hp} {p : Addr} {o : HO} {zs : List V} (hp : H p = some (.lst zs)) : ∀ {d : PyData} {v : V}, Nl d → Dp K H v d → Dp K (upd H p o) v d
  | _, _, _, .non => .non
  | _, _, _, .bl b => .bl b
  | _, _, _, .int i => .int i
  | _, _, _, .str x => .str x
  | _, _, n, .lst _ _ => nomatch n
  | _, _, n, .tup h a => by
    cases n with
    | tup n =>
      refine .tup ?_ (DpAll.mut hp n a)
      rcases h with (h | ⟨ob, h⟩) | h
      · exact .inl (.inl (by rw [upd_ne (ne_of h hp (by intro z; cases z))]; exact h))
      · exact .inl (.inr ⟨ob, by rw [upd_ne (ne_of h hp (by intro z; cases z))]; exact h⟩)
      · exact .inr h
theorem DpAll.mut {K : PySem.W.Frag} {H : Hp} {p : Addr} {o : HO} {zs : List V} (hp : H p = some (.lst zs)) : ∀ {ds : List PyData} {vs : List V}, (∀ d ∈ ds, Nl d) → DpAll K H vs ds → DpAll K (upd H p o) vs ds
  | _, _, _, .nil => .nil
  | _, _, n, .cons h t => .cons (Dp.mut hp (n _ List.mem_cons_self) h) (DpAll.mut hp (fun d hd => n d (List.mem_cons_of_mem _ hd)) t)
end
theorem DpAll.snoc {K : PySem.W.Frag} {H : Hp} {vs : List V} {ds : List PyData} {v : V} {d : PyData} (a : DpAll K H vs ds) (h : Dp K H v d) : DpAll K H (vs ++ [v]) (ds ++ [d]) := DpAll.app a (.cons h .nil)
theorem DpAll.dropLast {K : PySem.W.Frag} {H : Hp} : ∀ {vs : List V} {ds : List PyData}, DpAll K H vs ds → DpAll K H vs.dropLast ds.dropLast
  | _, _, .nil => .nil
  | _, _, .cons _ .nil => .nil
  | _, _, .cons h (.cons h2 t) => .cons h (DpAll.dropLast (.cons h2 t))
theorem dp_ints {K : PySem.W.Frag} {H : Hp} : ∀ ns : List Int, DpAll K H (ns.map V.int) (ns.map PyData.int)
  | [] => .nil
  | n :: r => .cons (.int n) (dp_ints r)
theorem dp_strs {K : PySem.W.Frag} {H : Hp} : ∀ ns : List Str, DpAll K H (ns.map V.str) (ns.map PyData.str)
  | [] => .nil
  | n :: r => .cons (.str n) (dp_strs r)
/-- a list of ints, a list of texts as data -/
def dI (ns : List Int) : PyData := .list (ns.map PyData.int)
def dS (ns : List Str) : PyData := .list (ns.map PyData.str)
theorem dp_dI {K : PySem.W.Frag} {H : Hp} {a : Addr} {ns : List Int} (h : SqL K H a (ns.map V.int)) : Dp K H (.ref a) (dI ns) := .lst h (dp_ints ns)
theorem dpAll_ints {K : PySem.W.Frag} {H : Hp} : ∀ {ns : List Int} {vs : List V}, DpAll K H vs (ns.map PyData.int) → vs = ns.map V.int
  | [], _, .nil => rfl
  | n :: r, _, .cons h t => by
    cases h
    rw [dpAll_ints t]
    rfl
theorem dp_of_dI {K : PySem.W.Frag} {H : Hp} {v : V} {ns : List Int} (h : Dp K H v (dI ns)) : ∃ a, v = .ref a ∧ SqL K H a (ns.map V.int) := by
  cases h with
  | lst h t =>
    rw [dpAll_ints t] at h
    exact ⟨_, rfl, h⟩
/-! ### small words -/
theorem at_int {ns : List Int} {j : Nat} (h : j < ns.length) : atI (ns.map V.int) (j : Int) = some (.int ns[j]) := atI_nat (by rw [List.getElem?_map, List.getElem?_eq_getElem h]; rfl)
theorem at_intZ {ns : List Int} {z : Int} (h0 : 0 ≤ z) (h : z.toNat < ns.length) : atI (ns.map V.int) z = some (.int ns[z.toNat]) := by
  have e := at_int h
  rw [Int.toNat_of_nonneg h0] at e
  exact e
theorem szl {n : Nat} (h : n ≤ 100000) : n ≤ sizeLine := Nat.le_trans h (by decide)
theorem szt {n : Nat} (h : n < 100000) : n < sizeLine := Nat.lt_of_lt_of_le h (by decide)
theorem iteB {b : Bool} {A B : Prop} (h1 : b = true → A) (h2 : b = false → B) : if b = true then A else B := by
  cases b with
  | true => rw [if_pos rfl]; exact h1 rfl
  | false => rw [if_neg Bool.false_ne_true]; exact h2 rfl
theorem iteD {c : Prop} [Decidable c] {A B : Prop} (h1 : c → A) (h2 : ¬ c → B) : if decide c = true then A else B :=
  iteB (fun h => h1 (of_decide_eq_true h)) (fun h => h2 (of_decide_eq_false h))
theorem iteN {c : Prop} [Decidable c] {A B : Prop} (h1 : ¬ c → A) (h2 : c → B) : if (!decide c) = true then A else B :=
  iteB (fun h => h1 (fun z => by rw [decide_eq_true z] at h; cases h)) (fun h => h2 (by
    by_cases z : c
    · exact z
    · rw [decide_eq_false z] at h; cases h))
theorem iteTo {b : Bool} {A B : Prop} (e : b = true) (h : A) : if b = true then A else B := by rw [if_pos e]; exact h
theorem iteFo {b : Bool} {A B : Prop} (e : b = false) (h : B) : if b = true then A else B := by rw [e, if_neg Bool.false_ne_true]; exact h
/-! ### rules with the written part by its own name (inside a comprehension) -/
section
variable {X : Cx} (K : PySem.W.Frag)
theorem ix_listK (h : X.K = K) : IxR X (rIxL K) := h ▸ ix_list
theorem ix_tupK (h : X.K = K) : IxR X (rIxT K) := h ▸ ix_tup
theorem ix_seqK (h : X.K = K) : IxR X (rIx K) := h ▸ ix_seq
def rLenSq : List V → Hp → VK → Prop := fun xs H Q => ∃ p ys, xs = [.ref p] ∧ (SqL K H p ys ∨ SqT K H p ys) ∧ Q (.int ys.length) H
theorem call_lenSK (h : X.K = K) : CallR X (.builtin "len") (rLenSq K) := h ▸ call_len_seq
def rLenV : List V → Hp → VK → Prop := fun xs H Q => ∃ x n, xs = [x] ∧ LenV K x H n ∧ Q (.int n) H
theorem call_lenK (h : X.K = K) : CallR X (.builtin "len") (rLenV K) := h ▸ call_len
theorem op_inK (h : X.K = K) : OpR X (compareOp .In) (rIn K false) := h ▸ op_in_seq
theorem op_notInK (h : X.K = K) : OpR X (compareOp .NotIn) (rIn K true) := h ▸ op_notIn_seq
theorem op_eqDK (h : X.K = K) (hu : X.A.units + 64 < cLine) : OpR X (compareOp .Eq) (rEqD K) := h ▸ op_eqD hu
theorem op_neDK (h : X.K = K) (hu : X.A.units + 64 < cLine) : OpR X (compareOp .NotEq) (rNeD K) := h ▸ op_neD hu
theorem call_isiKK (h : X.K = K) : CallR X (.builtin "isinstance") (rIsi K) := h ▸ call_isi
end
section
variable {X : Cx} (K : PySem.W.Frag)
theorem pgK {e : Expr} {n : Nat} {t : TGs} (h : X.K = K) (p : PG X e (gTup X.K n t)) : PG X e (gTup K n t) := h ▸ p
/-- isinstance(e, C), e what the suite has caught (without or with a dict of its own) -/
def rIsX (cls : Value) (d : Option Addr) (a : Addr) : List V → Hp → VK → Prop := fun xs H Q => ∃ (D : Addr) (c : V) (cv : Value) (b : Bool), cls = .ref D ∧ (d = none ∨ ∃ dd fs, d = some dd ∧ H dd = some (.xd fs)) ∧ ExcC K D ∧ xs = [.ref a, c] ∧ ClsV c cv ∧ PySem.W.kitOne K (.ref D) cv = some b ∧ Q (.bl b) H
theorem call_isX {a : Addr} {oe : Obj} {pn : List (Addr × Obj)} {cls : Value} {d : Option Addr} (h : X.K = K) (hz : Zc cls d oe) (hf : ∃ vs, oe.data = .fields vs) : CallR (X.suite a ((a, oe) :: pn)) (.builtin "isinstance") (rIsX K cls d a) := by
  subst h
  intro pins s σ H xs us Q I r h'
  obtain ⟨D, c, cv, b, rfl, hd, C, rfl, hc, hk, q⟩ := h'
  cases r with | cons rx rr =>
  cases rr with | cons rt rr =>
  cases rr
  cases rx
  have ec := hc.eq rt
  subst ec
  obtain ⟨hget, _⟩ := I.pin (a, oe) (List.mem_append_left _ List.mem_cons_self)
  obtain ⟨vs, hv⟩ := hf
  have hcl : (PySem.W.clsIn X.K D).isSome = true := by
    obtain ⟨cd, hc, _⟩ := PySem.W.any_some C.hd
    rw [hc]
    first | rfl | done
  have nc : PySem.W.notCls oe = true := by
    unfold PySem.W.notCls
    rw [hv]
  rcases hd with rfl | ⟨dd, fs, rfl, hdd⟩
  · have J : PySem.W.InstAt s.heap a oe D none := ⟨hget, hz.1, nc, by rw [hz.2]; trivial⟩
    exact PySem.W.kia_one (PySem.W.kitx_exc hcl C.hg C.hk C.hs C.ha C.hn C.ht C.hm) I.kIn J hk (fun z => nomatch z) fun tk => ⟨.bl b, H, I.kept (t' := tk) fun _ _ z => z, rfl, q⟩
  · obtain ⟨mA, hns, hr⟩ := I.hok dd _ hdd
    obtain ⟨od, ho, hl⟩ := lookIn_ns hns
    have J : PySem.W.InstAt s.heap a oe D (some od) := ⟨hget, hz.1, nc, by rw [hz.2]; exact ho⟩
    exact PySem.W.kia_one (PySem.W.kitx_exc hcl C.hg C.hk C.hs C.ha C.hn C.ht C.hm) I.kIn J hk (fun z => nomatch z) fun tk => ⟨.bl b, H, I.kept (t' := tk) fun _ _ z => z, rfl, q⟩
end
/-! ### isinstance of an own error, by what the written part says of its class -/
theorem kit_sub {K : PySem.W.Frag} {t : Value} {C : Addr} (ic : PySem.W.isClsIn K C = true) (tC : PySem.W.typeIn K (.ref C) = some (.type "type")) (h : PySem.W.subIn K t (.ref C) = some true) : PySem.W.kitOne K t (.ref C) = some true := by
  unfold PySem.W.kitOne
  by_cases e : (t == .ref C) = true
  · rw [if_pos e]
  · rw [if_neg e]
    have h2 : ((PySem.W.clsIn K C).isSome && PySem.W.typeIn K (.ref C) == some (.type "type")) = true := by
      have q : (PySem.W.clsIn K C).isSome = true := ic
      rw [q, tC]
      rfl
    show (if ((PySem.W.clsIn K C).isSome && PySem.W.typeIn K (.ref C) == some (.type "type")) = true then PySem.W.subIn K t (.ref C) else none) = some true
    rw [if_pos h2]
    exact h
theorem kit_not {K : PySem.W.Frag} {t : Value} {C : Addr} (ic : PySem.W.isClsIn K C = true) (tC : PySem.W.typeIn K (.ref C) = some (.type "type")) (h : PySem.W.subIn K t (.ref C) = some false) (hs : PySem.W.subIn K t t = some true) : PySem.W.kitOne K t (.ref C) = some false := by
  unfold PySem.W.kitOne
  have e : ¬ (t == .ref C) = true := fun e => by
    have z : t = .ref C := by simpa using e
    rw [z] at h hs
    rw [h] at hs
    cases hs
  rw [if_neg e]
  have h2 : ((PySem.W.clsIn K C).isSome && PySem.W.typeIn K (.ref C) == some (.type "type")) = true := by
    have q : (PySem.W.clsIn K C).isSome = true := ic
    rw [q, tC]
    rfl
  show (if ((PySem.W.clsIn K C).isSome && PySem.W.typeIn K (.ref C) == some (.type "type")) = true then PySem.W.subIn K t (.ref C) else none) = some false
  rw [if_pos h2]
  exact h
theorem meta_ve : PySem.W.kitMeta "ValueError" = true := by decide +kernel
theorem kit_ve {K : PySem.W.Frag} {C : Addr} (h : PySem.W.subIn K (.ref C) (.type "ValueError") = some true) : PySem.W.kitOne K (.ref C) (.type "ValueError") = some true := by
  unfold PySem.W.kitOne
  rw [if_neg (by intro z; cases z)]
  show (if PySem.W.kitMeta "ValueError" = true then PySem.W.subIn K (.ref C) (.type "ValueError") else none) = some true
  rw [if_pos meta_ve]
  exact h
def top (i : Nat) : Stmt := PySem.Challenge.pw_mastword_k03_signs_struck.main.body.getD i (.Pass ⟨0, 0, 0, 0⟩)
abbrev s_p_BadSigns_init : Stmt := inClass (top 2) 0
theorem sc_p_BadSigns_init : FnScope ["self", "at"] ["self", "at"] (defScope s_p_BadSigns_init) := ⟨rfl, rfl, rfl, by decide +kernel, rfl, by decide +kernel, by decide +kernel⟩
abbrev s_p_standing : Stmt := top 5
theorem sc_p_standing : FnScope ["signs", "left", "place", "sign"] ["signs"] (defScope s_p_standing) := ⟨rfl, rfl, rfl, by decide +kernel, rfl, by decide +kernel, by decide +kernel⟩
abbrev s_l_cell : Stmt := top 7
theorem sc_l_cell : FnScope ["_law_script", "_law_at"] ["_law_script", "_law_at"] (defScope s_l_cell) := ⟨rfl, rfl, rfl, by decide +kernel, rfl, by decide +kernel, by decide +kernel⟩
abbrev s_l_row : Stmt := top 8
theorem sc_l_row : FnScope ["_law_cell_here", "_law_many", "_law_size", "_law_row_here", "_law_rest", "_law_k", "_law_seed", "_law_mixed"] ["_law_cell_here", "_law_many", "_law_size"] (defScope s_l_row) := ⟨rfl, rfl, rfl, by decide +kernel, rfl, by decide +kernel, by decide +kernel⟩
abbrev s_l_like : Stmt := top 9
theorem sc_l_like : FnScope ["_law_found", "_law_due_here", "_law_k"] ["_law_found", "_law_due_here"] (defScope s_l_like) := ⟨rfl, rfl, rfl, by decide +kernel, rfl, by decide +kernel, by decide +kernel⟩
abbrev s_l_signs : Stmt := top 10
theorem sc_l_signs : FnScope ["_law_cell_here", "_law_most", "_law_nums", "_law_many", "_law_kind", "_law_signs_here", "_law_num", "_law_sign"] ["_law_cell_here", "_law_most"] (defScope s_l_signs) := ⟨rfl, rfl, rfl, by decide +kernel, rfl, by decide +kernel, by decide +kernel⟩
abbrev s_l_due : Stmt := top 11
theorem sc_l_due : FnScope ["_law_signs_here", "_law_kept", "_law_place", "_law_sign"] ["_law_signs_here"] (defScope s_l_due) := ⟨rfl, rfl, rfl, by decide +kernel, rfl, by decide +kernel, by decide +kernel⟩
abbrev s_l_told : Stmt := top 12
theorem sc_l_told : FnScope ["_law_signs_here", "_law_told_here", "e"] ["_law_signs_here"] (defScope s_l_told) := ⟨rfl, rfl, rfl, by decide +kernel, rfl, by decide +kernel, by decide +kernel⟩
abbrev s_law : Stmt := top 13
theorem sc_law : FnScope ["_law_script", "_law_some", "_law_signs_here", "_law_handed", "_law_found"] ["_law_script"] (defScope s_law) := ⟨rfl, rfl, rfl, by decide +kernel, rfl, by decide +kernel, by decide +kernel⟩
structure Txt (K : PySem.W.Frag) (mg : Str → Option Value) where
  a_MastError : Addr
  a_BadSigns : Addr
  f_p_BadSigns_init : Addr
  g_MastError : mg "MastError" = some (.ref a_MastError)
  x_MastError : PySem.W.excIn K a_MastError [.type "ValueError", .type "Exception", .type "BaseException", .type "object"] "ValueError.__new__" = true
  k_MastError : PySem.W.keepIn K (.ref a_MastError) = true
  b_MastError : PySem.W.subIn K (.ref a_MastError) (.type "BaseException") = some true
  t_MastError : PySem.W.typeIn K (.ref a_MastError) = some (.type "type")
  i_MastError : PySem.W.isClsIn K a_MastError = true
  h_MastError : PySem.W.hasDictIn K a_MastError = true
  ga_MastError : PySem.W.findIn K (.ref a_MastError) "__getattribute__" = some (some (.builtin "BaseException.__getattribute__"))
  gg_MastError : PySem.W.findIn K (.ref a_MastError) "__getattr__" = some none
  cl_MastError : PySem.W.findIn K (.ref a_MastError) "__class__" = some (some (.builtin "object.__class__"))
  mo_MastError : PySem.W.mroIn K a_MastError (.type "object") = some true
  v_MastError : PySem.W.subIn K (.ref a_MastError) (.type "ValueError") = some true
  s_MastError_MastError : PySem.W.subIn K (.ref a_MastError) (.ref a_MastError) = some true
  g_BadSigns : mg "BadSigns" = some (.ref a_BadSigns)
  k_BadSigns : PySem.W.keepIn K (.ref a_BadSigns) = true
  b_BadSigns : PySem.W.subIn K (.ref a_BadSigns) (.type "BaseException") = some true
  t_BadSigns : PySem.W.typeIn K (.ref a_BadSigns) = some (.type "type")
  i_BadSigns : PySem.W.isClsIn K a_BadSigns = true
  h_BadSigns : PySem.W.hasDictIn K a_BadSigns = true
  ga_BadSigns : PySem.W.findIn K (.ref a_BadSigns) "__getattribute__" = some (some (.builtin "BaseException.__getattribute__"))
  gg_BadSigns : PySem.W.findIn K (.ref a_BadSigns) "__getattr__" = some none
  cl_BadSigns : PySem.W.findIn K (.ref a_BadSigns) "__class__" = some (some (.builtin "object.__class__"))
  mo_BadSigns : PySem.W.mroIn K a_BadSigns (.type "object") = some true
  v_BadSigns : PySem.W.subIn K (.ref a_BadSigns) (.type "ValueError") = some true
  ox_BadSigns : OexC K a_BadSigns
  d_p_BadSigns_init : FuncData
  F_p_BadSigns_init : Fun K "__init__" "BadSigns.__init__" s_p_BadSigns_init f_p_BadSigns_init d_p_BadSigns_init
  b_p_BadSigns_init : Binds K d_p_BadSigns_init ["self", "at"] []
  ic_BadSigns : PySem.W.findIn K (.ref a_BadSigns) "__init__" = some (some (.ref f_p_BadSigns_init))
  ti_BadSigns : PySem.W.typeIn K (.ref f_p_BadSigns_init) = some (.type "function")
  nf_BadSigns_at : PySem.W.findIn K (.ref a_BadSigns) "at" = some none
  s_BadSigns_MastError : PySem.W.subIn K (.ref a_BadSigns) (.ref a_MastError) = some true
  s_BadSigns_BadSigns : PySem.W.subIn K (.ref a_BadSigns) (.ref a_BadSigns) = some true
  f_p_standing : Addr
  d_p_standing : FuncData
  F_p_standing : Fun K "standing" "standing" s_p_standing f_p_standing d_p_standing
  b_p_standing : Binds K d_p_standing ["signs"] []
  g_p_standing : mg "standing" = some (.ref f_p_standing)
  f_l_cell : Addr
  d_l_cell : FuncData
  F_l_cell : Fun K "_law_cell" "_law_cell" s_l_cell f_l_cell d_l_cell
  b_l_cell : Binds K d_l_cell ["_law_script", "_law_at"] []
  g_l_cell : mg "_law_cell" = some (.ref f_l_cell)
  f_l_row : Addr
  d_l_row : FuncData
  F_l_row : Fun K "_law_row" "_law_row" s_l_row f_l_row d_l_row
  b_l_row : Binds K d_l_row ["_law_cell_here", "_law_many", "_law_size"] []
  g_l_row : mg "_law_row" = some (.ref f_l_row)
  f_l_like : Addr
  d_l_like : FuncData
  F_l_like : Fun K "_law_like" "_law_like" s_l_like f_l_like d_l_like
  b_l_like : Binds K d_l_like ["_law_found", "_law_due_here"] []
  g_l_like : mg "_law_like" = some (.ref f_l_like)
  f_l_signs : Addr
  d_l_signs : FuncData
  F_l_signs : Fun K "_law_signs" "_law_signs" s_l_signs f_l_signs d_l_signs
  b_l_signs : Binds K d_l_signs ["_law_cell_here", "_law_most"] []
  g_l_signs : mg "_law_signs" = some (.ref f_l_signs)
  f_l_due : Addr
  d_l_due : FuncData
  F_l_due : Fun K "_law_due" "_law_due" s_l_due f_l_due d_l_due
  b_l_due : Binds K d_l_due ["_law_signs_here"] []
  g_l_due : mg "_law_due" = some (.ref f_l_due)
  f_l_told : Addr
  d_l_told : FuncData
  F_l_told : Fun K "_law_told" "_law_told" s_l_told f_l_told d_l_told
  b_l_told : Binds K d_l_told ["_law_signs_here"] []
  g_l_told : mg "_law_told" = some (.ref f_l_told)
  u_STRIKE : Value
  c_STRIKE : mg "STRIKE" = some u_STRIKE
  r_STRIKE : RelV (.int 68) u_STRIKE
  m_enumerate : mg "enumerate" = none
  m_len : mg "len" = none
  m_range : mg "range" = none
  m_isinstance : mg "isinstance" = none
  m_bool : mg "bool" = none
  m_int : mg "int" = none
  m_str : mg "str" = none
  m_all : mg "all" = none
  m_list : mg "list" = none
  m_tuple : mg "tuple" = none
  m_ValueError : mg "ValueError" = none
  oc_get : PySem.W.specialIn K (.builtin "object.__class__") "__get__" = some (some (.builtin "getset_descriptor.__get__"))
  oc_tak : PySem.W.takesIn K (.builtin "object.__class__") = some true
section
variable {P : Program} {w : World} {K : PySem.W.Frag} {mg : Str → Option Value} {base : Heap}
/-! ### _law_cell: an int of the script -/
def cellV (ns : List Int) (j : Nat) : Int :=
  if j < ns.length then ns.getD j 0 else if ns.length = 0 then 29 * (j : Int) + 5 else ns.getD (j % ns.length) 0 % 1000003 + 103 * (j : Int)
def sp_l_cell (K : PySem.W.Frag) : Sp := fun vs H Q _ => ∃ (l : Addr) (ns : List Int) (j : Nat), vs = [.ref l, .int j] ∧ SqL K H l (ns.map V.int) ∧ j ≤ 100000 ∧ Q (.int (cellV ns j)) H
theorem getD_at {ns : List Int} {j : Nat} (h : j < ns.length) : atI (ns.map V.int) (j : Int) = some (.int (ns.getD j 0)) := by
  rw [at_int h, List.getD_eq_getElem?_getD, List.getElem?_eq_getElem h]
  rfl
theorem ok_l_cell (T : Txt K mg) : FnOk P w K mg base CX0 1 T.f_l_cell T.d_l_cell ["_law_script", "_law_at"] (sp_l_cell K) := by
  refine T.F_l_cell.ok sc_l_cell (fun vs H Q E h => ?_) (fun cdv A outer s H vs Q E hr h => ?_)
  · obtain ⟨l, ns, j, rfl, _⟩ := h
    rfl
  · obtain ⟨l, ns, j, rfl, hS, hj, k⟩ := h
    have hlen : ((ns.map V.int).length : Int) = (ns.length : Int) := by rw [List.length_map]
    refine ⟨_, (pss_cons (ps_if (pt_cmpR op_lt (pv 1) (pe_callB call_len_seq (by rfl) T.m_len PySem.boot_len (pa_cons (pv 0) pa_nil)) (nomark _))
      (pss_one (ps_ret (pe_ix ix_list (pv 0) (pv 1) (fun _ _ => rfl))))
      pss_nil)
      (pss_cons (ps_if (pt_cmpR op_eq (pe_callB call_len_seq (by rfl) T.m_len PySem.boot_len (pa_cons (pv 0) pa_nil)) pe_int (nomark _))
      (pss_one (ps_ret (pe_op op_add (pe_op op_mul pe_int (pv 1)) pe_int)))
      pss_nil)
      (pss_one (ps_ret (pe_op op_add (pe_op op_mod (pe_ix ix_list (pv 0) (pe_op op_mod (pv 1) (pe_callB call_len_seq (by rfl) T.m_len PySem.boot_len (pa_cons (pv 0) pa_nil))) (fun _ _ => rfl)) pe_int) (pe_op op_mul pe_int (pv 1))))))), ?_⟩
    refine ⟨_, rfl, _, rfl, l, _, rfl, .inl hS, _, _, rfl, rfl, _, rfl, iteD (fun c => ?_) (fun c => ?_)⟩
    · rw [hlen] at c
      refine ⟨_, rfl, _, rfl, l, _, _, _, rfl, rfl, hS, getD_at (show j < ns.length by omega), ?_⟩
      have e : cellV ns j = ns.getD j 0 := if_pos (by omega)
      rw [e] at k
      exact k
    · rw [hlen] at c
      refine ⟨_, rfl, l, _, rfl, .inl hS, rfl, _, rfl, iteD (fun c2 => ?_) (fun c2 => ?_)⟩
      · have c3 : (ns.length : Int) = 0 := by
          have z := V.int.inj c2
          rw [hlen] at z
          exact z
        have e : cellV ns j = 29 * (j : Int) + 5 := by
          unfold cellV
          rw [if_neg (by omega), if_pos (by omega)]
        rw [e] at k
        exact ⟨_, rfl, _, _, rfl, rfl, .inl ⟨by decide, by decide⟩, _, _, rfl, rfl, k⟩
      · have c3 : ns.length ≠ 0 := fun z => c2 (by rw [hlen, z]; rfl)
        have hm : j % ns.length < ns.length := Nat.mod_lt _ (by omega)
        have e : cellV ns j = ns.getD (j % ns.length) 0 % 1000003 + 103 * (j : Int) := by
          unfold cellV
          rw [if_neg (by omega), if_neg c3]
        rw [e] at k
        have ea : atI (ns.map V.int) ((j : Int) % ((ns.map V.int).length : Int)) = some (.int (ns.getD (j % ns.length) 0)) := by
          rw [hlen, ← Int.natCast_emod]
          exact getD_at hm
        exact ⟨_, rfl, _, rfl, _, rfl, l, _, rfl, .inl hS, _, _, rfl, rfl, (by show (0 : Int) < ((ns.map V.int).length : Int); rw [hlen]; omega), l, _, _, _, rfl, rfl, hS, ea, _, _, rfl, rfl, (by show (0 : Int) < 1000003; decide), _, rfl, _, _, rfl, rfl, .inl ⟨by decide, by decide⟩, _, _, rfl, rfl, k⟩
/-! ### _law_like of one datum with itself -/
inductive Dn : Nat → PyData → Prop
  | non (n : Nat) : Dn (n + 1) .none
  | bl (n : Nat) (b : Bool) : Dn (n + 1) (.bool b)
  | int (n : Nat) (i : Int) : Dn (n + 1) (.int i)
  | str (n : Nat) (x : Str) : Dn (n + 1) (.str x)
  | lst {n : Nat} {ds : List PyData} : (∀ d ∈ ds, Dn n d) → ds.length ≤ 10000 → Dn (n + 1) (.list ds)
  | tup {n : Nat} {ds : List PyData} : (∀ d ∈ ds, Dn n d) → ds.length ≤ 10000 → Dn (n + 1) (.tuple ds)
def tyN : PyData → String
  | .none => "NoneType" | .bool _ => "bool" | .int _ => "int" | .str _ => "str" | .list _ => "list" | .tuple _ => "tuple" | .dict _ => "dict"
theorem ty_of {K : PySem.W.Frag} {H : Hp} {v : V} {d : PyData} (h : Dp K H v d) : TyX K H v (.type (tyN d)) := by
  cases h with
  | non => exact .base .non
  | bl b => exact .base (.bl b)
  | int i => exact .base (.int i)
  | str x => exact .base (.str x)
  | lst h _ =>
    rcases h with (h | ⟨o, h⟩) | ⟨o, its, n, e, c, _⟩
    · exact .base (.lst h)
    · exact .base (.frz h)
    · exact .kList e c
  | tup h _ =>
    rcases h with (h | ⟨o, h⟩) | ⟨o, its, n, e, c, _⟩
    · exact .base (.tup h)
    · exact .fTuple h
    · exact .kTuple e c
def sp_l_like (K : PySem.W.Frag) (n : Nat) : Sp := fun vs H Q _ => ∃ (u v : V) (d : PyData), vs = [u, v] ∧ Dp K H u d ∧ Dp K H v d ∧ Dn n d ∧ ∀ H', Kp H H' → Q (.bl true) H'
theorem fn_none {P : Program} {w : World} {K : PySem.W.Frag} {mg : Str → Option Value} {base : Heap} {f : Addr} {fd : FuncData} {ps : List Str} {sp : Sp} {k : Nat} (h : ∀ vs H Q E, ¬ sp vs H Q E) : FnOk P w K mg base CX0 k f fd ps sp :=
  ⟨fun vs H Q E q => (h vs H Q E q).elim, fun _ _ _ H _ _ vs Q E _ _ _ _ q => (h vs H Q E q).elim⟩
theorem bl_all {n : Nat} : ((List.replicate n true).map V.bl) = List.replicate n (V.bl true) := List.map_replicate
theorem all_rep (n : Nat) : (List.replicate n true).all id = true := by
  rw [List.all_eq_true]
  intro x hx
  rw [List.eq_of_mem_replicate hx]
  rfl
theorem k_bb : kitB "bool" "bool" = some true := by decide +kernel
theorem k_bi : kitB "bool" "int" = some true := by decide +kernel
theorem k_bs : kitB "bool" "str" = some false := by decide +kernel
theorem k_bl : kitB "bool" "list" = some false := by decide +kernel
theorem k_bt : kitB "bool" "tuple" = some false := by decide +kernel
theorem k_ib : kitB "int" "bool" = some false := by decide +kernel
theorem k_ii : kitB "int" "int" = some true := by decide +kernel
theorem k_is : kitB "int" "str" = some false := by decide +kernel
theorem k_il : kitB "int" "list" = some false := by decide +kernel
theorem k_it : kitB "int" "tuple" = some false := by decide +kernel
theorem k_sb : kitB "str" "bool" = some false := by decide +kernel
theorem k_si : kitB "str" "int" = some false := by decide +kernel
theorem k_ss : kitB "str" "str" = some true := by decide +kernel
theorem k_sl : kitB "str" "list" = some false := by decide +kernel
theorem k_st : kitB "str" "tuple" = some false := by decide +kernel
theorem k_lb : kitB "list" "bool" = some false := by decide +kernel
theorem k_li : kitB "list" "int" = some false := by decide +kernel
theorem k_ls : kitB "list" "str" = some false := by decide +kernel
theorem k_ll : kitB "list" "list" = some true := by decide +kernel
theorem k_lt : kitB "list" "tuple" = some false := by decide +kernel
theorem k_tb : kitB "tuple" "bool" = some false := by decide +kernel
theorem k_ti : kitB "tuple" "int" = some false := by decide +kernel
theorem k_ts : kitB "tuple" "str" = some false := by decide +kernel
theorem k_tl : kitB "tuple" "list" = some false := by decide +kernel
theorem k_tt : kitB "tuple" "tuple" = some true := by decide +kernel
theorem dec_self {x : V} : decide (x = x) = true := decide_eq_true rfl
theorem ok_l_like (T : Txt K mg) : ∀ n : Nat, FnOk P w K mg base CX0 n T.f_l_like T.d_l_like ["_law_found", "_law_due_here"] (sp_l_like K n)
  | 0 => fn_none fun vs H Q E ⟨u, v, d, _, _, _, h, _⟩ => nomatch h
  | n + 1 => by
    have IH := ok_l_like T n
    refine T.F_l_like.ok sc_l_like (fun vs H Q E h => ?_) (fun cdv A outer s H vs Q E hr h => ?_)
    · obtain ⟨u, v, d, rfl, _⟩ := h
      rfl
    · obtain ⟨u, v, d, rfl, hu, hv, hn, k⟩ := h
      have tu := ty_of hu
      have tv := ty_of hv
      refine ⟨_, (pss_cons (ps_if (pt_cmpR op_isN (pv 1) pe_non (nomark _))
      (pss_one (ps_ret (pe_cmpR op_isN (pv 0) pe_non (nomark _))))
      pss_nil)
      (pss_cons (ps_if (pt_val (pe_callB call_isi (by rfl) T.m_isinstance (by decide +kernel) (pa_cons (pv 1) (pa_cons (pe_bltn (v := .ty "bool") (by rfl) T.m_bool (by decide +kernel) rfl) pa_nil))))
      (pss_one (ps_ret (pe_and (pe_callB call_isi (by rfl) T.m_isinstance (by decide +kernel) (pa_cons (pv 0) (pa_cons (pe_bltn (v := .ty "bool") (by rfl) T.m_bool (by decide +kernel) rfl) pa_nil))) (pe_one (pe_cmpR op_eq (pv 0) (pv 1) (nomark _))))))
      pss_nil)
      (pss_cons (ps_if (pt_val (pe_callB call_isi (by rfl) T.m_isinstance (by decide +kernel) (pa_cons (pv 1) (pa_cons (pe_bltn (v := .ty "int") (by rfl) T.m_int (by decide +kernel) rfl) pa_nil))))
      (pss_one (ps_ret (pe_and (pe_callB call_isi (by rfl) T.m_isinstance (by decide +kernel) (pa_cons (pv 0) (pa_cons (pe_bltn (v := .ty "int") (by rfl) T.m_int (by decide +kernel) rfl) pa_nil))) (pe_and (pe_not (pe_callB call_isi (by rfl) T.m_isinstance (by decide +kernel) (pa_cons (pv 0) (pa_cons (pe_bltn (v := .ty "bool") (by rfl) T.m_bool (by decide +kernel) rfl) pa_nil)))) (pe_one (pe_cmpR op_eq (pv 0) (pv 1) (nomark _)))))))
      pss_nil)
      (pss_cons (ps_if (pt_val (pe_callB call_isi (by rfl) T.m_isinstance (by decide +kernel) (pa_cons (pv 1) (pa_cons (pe_bltn (v := .ty "str") (by rfl) T.m_str (by decide +kernel) rfl) pa_nil))))
      (pss_one (ps_ret (pe_and (pe_callB call_isi (by rfl) T.m_isinstance (by decide +kernel) (pa_cons (pv 0) (pa_cons (pe_bltn (v := .ty "str") (by rfl) T.m_str (by decide +kernel) rfl) pa_nil))) (pe_one (pe_cmpR op_eq (pv 0) (pv 1) (nomark _))))))
      pss_nil)
      (pss_cons (ps_if (PW.pt (pw_or (pt_cmpR op_ne (pe_callB call_isi (by rfl) T.m_isinstance (by decide +kernel) (pa_cons (pv 1) (pa_cons (pe_bltn (v := .ty "list") (by rfl) T.m_list (by decide +kernel) rfl) pa_nil))) (pe_callB call_isi (by rfl) T.m_isinstance (by decide +kernel) (pa_cons (pv 0) (pa_cons (pe_bltn (v := .ty "list") (by rfl) T.m_list (by decide +kernel) rfl) pa_nil))) (nomark _)) (pw_or1 (pt_cmpR op_ne (pe_callB call_isi (by rfl) T.m_isinstance (by decide +kernel) (pa_cons (pv 1) (pa_cons (pe_bltn (v := .ty "tuple") (by rfl) T.m_tuple (by decide +kernel) rfl) pa_nil))) (pe_callB call_isi (by rfl) T.m_isinstance (by decide +kernel) (pa_cons (pv 0) (pa_cons (pe_bltn (v := .ty "tuple") (by rfl) T.m_tuple (by decide +kernel) rfl) pa_nil))) (nomark _)))))
      (pss_one (ps_ret pe_bl))
      pss_nil)
      (pss_one (ps_ret (pe_and (pe_cmpR op_eq (pe_callB call_len (by rfl) T.m_len PySem.boot_len (pa_cons (pv 0) pa_nil)) (pe_callB call_len (by rfl) T.m_len PySem.boot_len (pa_cons (pv 1) pa_nil)) (nomark _)) (pe_one (pe_callB (cr_all rfl) (by rfl) T.m_all (by decide +kernel) (pa_cons (pe_lc (own := [("_law_k", 2)]) (g := gName 2) (tt := tYes) (by rfl) sc_l_like.nd (pi_range1 (by rfl) T.m_range (pa_cons (pe_callB call_len (by rfl) T.m_len PySem.boot_len (pa_cons (pv 1) pa_nil)) pa_nil)) (blkOk_by (own := [("_law_k", 2)]) (N := ["_law_found", "_law_due_here", "_law_k"]) (sc := defScope s_l_like) (by decide +kernel)) (fun _ _ _ _ _ => (pg_name (i := 2) sc_l_like.nd rfl (by first | exact Or.inl rfl | exact Or.inr rfl))) (fun _ _ _ _ _ => pts_nil) (fun _ _ _ _ _ => (pe_call IH hr rfl T.g_l_like T.F_l_like.kp T.b_l_like .nil pass0 (pa_cons (pe_ix (ix_seqK K rfl) (pv 0) (pv 2) (fun _ _ => rfl)) (pa_cons (pe_ix (ix_seqK K rfl) (pv 1) (pv 2) (fun _ _ => rfl)) pa_nil))))) pa_nil))))))))))), ?_⟩
      cases hn with
      | non n =>
        cases hu
        cases hv
        refine ⟨_, rfl, rfl, _, rfl, iteTo dec_self ?_⟩
        exact ⟨_, rfl, rfl, k _ (.refl _)⟩
      | bl n b =>
        cases hu
        cases hv
        refine ⟨_, rfl, rfl, _, rfl, iteFo rfl ?_⟩
        refine ⟨_, rfl, _, _, _, _, true, rfl, .ty _, tv, kit_ty k_bb, _, rfl, iteTo rfl ?_⟩
        refine ⟨_, rfl, _, _, _, _, true, rfl, .ty _, tu, kit_ty k_bb, _, rfl, iteTo rfl ?_⟩
        refine ⟨_, rfl, _, rfl, rfl, ?_⟩
        rw [dec_self]
        exact k _ (.refl _)
      | int n i =>
        cases hu
        cases hv
        refine ⟨_, rfl, rfl, _, rfl, iteFo rfl ?_⟩
        refine ⟨_, rfl, _, _, _, _, false, rfl, .ty _, tv, kit_ty k_ib, _, rfl, iteFo rfl ?_⟩
        refine ⟨_, rfl, _, _, _, _, true, rfl, .ty _, tv, kit_ty k_ii, _, rfl, iteTo rfl ?_⟩
        refine ⟨_, rfl, _, _, _, _, true, rfl, .ty _, tu, kit_ty k_ii, _, rfl, iteTo rfl ?_⟩
        refine ⟨_, rfl, _, _, _, _, false, rfl, .ty _, tu, kit_ty k_ib, _, rfl, _, rfl, iteTo rfl ?_⟩
        refine ⟨_, rfl, _, rfl, rfl, ?_⟩
        rw [dec_self]
        exact k _ (.refl _)
      | str n x =>
        cases hu
        cases hv
        refine ⟨_, rfl, rfl, _, rfl, iteFo rfl ?_⟩
        refine ⟨_, rfl, _, _, _, _, false, rfl, .ty _, tv, kit_ty k_sb, _, rfl, iteFo rfl ?_⟩
        refine ⟨_, rfl, _, _, _, _, false, rfl, .ty _, tv, kit_ty k_si, _, rfl, iteFo rfl ?_⟩
        refine ⟨_, rfl, _, _, _, _, true, rfl, .ty _, tv, kit_ty k_ss, _, rfl, iteTo rfl ?_⟩
        refine ⟨_, rfl, _, _, _, _, true, rfl, .ty _, tu, kit_ty k_ss, _, rfl, iteTo rfl ?_⟩
        refine ⟨_, rfl, _, rfl, rfl, ?_⟩
        rw [dec_self]
        exact k _ (.refl _)
      | lst hd hl =>
        rename_i ds
        cases hu with | lst hsu hau =>
        cases hv with | lst hsv hav =>
        rename_i a xs b ys
        have lx := DpAll.len hau
        have ly := DpAll.len hav
        refine ⟨_, rfl, rfl, _, rfl, iteFo rfl ?_⟩
        refine ⟨_, rfl, _, _, _, _, false, rfl, .ty _, tv, kit_ty k_lb, _, rfl, iteFo rfl ?_⟩
        refine ⟨_, rfl, _, _, _, _, false, rfl, .ty _, tv, kit_ty k_li, _, rfl, iteFo rfl ?_⟩
        refine ⟨_, rfl, _, _, _, _, false, rfl, .ty _, tv, kit_ty k_ls, _, rfl, iteFo rfl ?_⟩
        refine ⟨_, rfl, _, _, _, _, true, rfl, .ty _, tv, kit_ty k_ll, _, rfl, _, _, _, _, true, rfl, .ty _, tu, kit_ty k_ll, rfl, _, rfl, iteFo rfl ?_⟩
        refine ⟨_, rfl, _, _, _, _, false, rfl, .ty _, tv, kit_ty k_lt, _, rfl, _, _, _, _, false, rfl, .ty _, tu, kit_ty k_lt, rfl, _, rfl, iteFo rfl ?_⟩
        refine ⟨_, rfl, _, _, rfl, .inl ⟨_, hsu, rfl⟩, _, rfl, _, _, rfl, .inl ⟨_, hsv, rfl⟩, rfl, _, rfl, iteTo (decide_eq_true (congrArg (fun z : Nat => V.int (z : Int)) (lx.trans ly.symm))) ?_⟩
        refine ⟨_, rfl, _, _, rfl, .inl ⟨_, hsv, rfl⟩, _, rfl, by omega, by omega, fun D hD => ?_⟩
        rw [Int.toNat_natCast]
        refine lc_range (lo := 0) (n := ys.length) (fun i H' => Kp H H' ∧ H' D = some (.lst (List.replicate i (V.bl true)))) ⟨Kp.new hD, upd_same⟩ (fun i H' hi ⟨kp, hDl⟩ => ?_) (fun H' ⟨kp, hDl⟩ => ?_)
        · have e0 : (0 : Int) + (i : Int) = (i : Int) := Int.zero_add _
          obtain ⟨d, hdi⟩ : ∃ d, ds[i]? = some d := ⟨_, List.getElem?_eq_getElem (by omega)⟩
          obtain ⟨x, hx, dx⟩ := DpAll.get hau hdi
          obtain ⟨y, hy, dy⟩ := DpAll.get hav hdi
          refine ⟨rfl, ?_⟩
          refine ⟨_, rfl, _, rfl, .inl ⟨_, _, _, x, rfl, rfl, kp.sqL hsu, by rw [e0]; exact atI_nat hx, _, rfl, _, rfl, .inl ⟨_, _, _, y, rfl, rfl, kp.sqL hsv, by rw [e0]; exact atI_nat hy, ?_⟩⟩⟩
          refine ⟨x, y, d, rfl, kp.dp dx, kp.dp dy, hd d (List.mem_of_getElem? hdi), fun H2 k2 => ⟨_, k2.same _ _ rfl hDl, szt (by rw [List.length_replicate]; omega), ?_⟩⟩
          exact ⟨(kp.trans k2).mut hD, by rw [upd_same, List.replicate_succ']⟩
        · refine ⟨D, List.replicate ys.length true, rfl, .inl (.inl (by rw [bl_all]; exact hDl)), ?_⟩
          rw [all_rep]
          exact k _ kp
      | tup hd hl =>
        rename_i ds
        cases hu with | tup hsu hau =>
        cases hv with | tup hsv hav =>
        rename_i a xs b ys
        have lx := DpAll.len hau
        have ly := DpAll.len hav
        refine ⟨_, rfl, rfl, _, rfl, iteFo rfl ?_⟩
        refine ⟨_, rfl, _, _, _, _, false, rfl, .ty _, tv, kit_ty k_tb, _, rfl, iteFo rfl ?_⟩
        refine ⟨_, rfl, _, _, _, _, false, rfl, .ty _, tv, kit_ty k_ti, _, rfl, iteFo rfl ?_⟩
        refine ⟨_, rfl, _, _, _, _, false, rfl, .ty _, tv, kit_ty k_ts, _, rfl, iteFo rfl ?_⟩
        refine ⟨_, rfl, _, _, _, _, false, rfl, .ty _, tv, kit_ty k_tl, _, rfl, _, _, _, _, false, rfl, .ty _, tu, kit_ty k_tl, rfl, _, rfl, iteFo rfl ?_⟩
        refine ⟨_, rfl, _, _, _, _, true, rfl, .ty _, tv, kit_ty k_tt, _, rfl, _, _, _, _, true, rfl, .ty _, tu, kit_ty k_tt, rfl, _, rfl, iteFo rfl ?_⟩
        refine ⟨_, rfl, _, _, rfl, .inr ⟨_, hsu, rfl⟩, _, rfl, _, _, rfl, .inr ⟨_, hsv, rfl⟩, rfl, _, rfl, iteTo (decide_eq_true (congrArg (fun z : Nat => V.int (z : Int)) (lx.trans ly.symm))) ?_⟩
        refine ⟨_, rfl, _, _, rfl, .inr ⟨_, hsv, rfl⟩, _, rfl, by omega, by omega, fun D hD => ?_⟩
        rw [Int.toNat_natCast]
        refine lc_range (lo := 0) (n := ys.length) (fun i H' => Kp H H' ∧ H' D = some (.lst (List.replicate i (V.bl true)))) ⟨Kp.new hD, upd_same⟩ (fun i H' hi ⟨kp, hDl⟩ => ?_) (fun H' ⟨kp, hDl⟩ => ?_)
        · have e0 : (0 : Int) + (i : Int) = (i : Int) := Int.zero_add _
          obtain ⟨d, hdi⟩ : ∃ d, ds[i]? = some d := ⟨_, List.getElem?_eq_getElem (by omega)⟩
          obtain ⟨x, hx, dx⟩ := DpAll.get hau hdi
          obtain ⟨y, hy, dy⟩ := DpAll.get hav hdi
          refine ⟨rfl, ?_⟩
          refine ⟨_, rfl, _, rfl, .inr (.inl ⟨_, _, _, x, rfl, rfl, kp.sqT hsu, by rw [e0]; exact atI_nat hx, _, rfl, _, rfl, .inr (.inl ⟨_, _, _, y, rfl, rfl, kp.sqT hsv, by rw [e0]; exact atI_nat hy, ?_⟩)⟩)⟩
          refine ⟨x, y, d, rfl, kp.dp dx, kp.dp dy, hd d (List.mem_of_getElem? hdi), fun H2 k2 => ⟨_, k2.same _ _ rfl hDl, szt (by rw [List.length_replicate]; omega), ?_⟩⟩
          exact ⟨(kp.trans k2).mut hD, by rw [upd_same, List.replicate_succ']⟩
        · refine ⟨D, List.replicate ys.length true, rfl, .inl (.inl (by rw [bl_all]; exact hDl)), ?_⟩
          rw [all_rep]
          exact k _ kp
/-! ### _law_row: so many ints from nought to below a size -/
def Drawn0 (many size : Int) (xs : List Int) : Prop := (xs.length : Int) = many ∧ ∀ x ∈ xs, 0 ≤ x ∧ x < size
def sp_l_row : Sp := fun vs H Q _ => ∃ (c many size : Int), vs = [.int c, .int many, .int size] ∧ 0 ≤ many ∧ many ≤ 1000 ∧ 0 < size ∧ size < 1073741824 ∧
  ∀ (xs : List Int) (p : Addr) (H' : Hp), H p = none → Kp H H' → H' p = some (.lst (xs.map V.int)) → Drawn0 many size xs → Q (.ref p) H'
theorem snoc_in {size z : Int} {xs : List Int} (hs : 0 < size) (h : ∀ x ∈ xs, 0 ≤ x ∧ x < size) : ∀ x ∈ xs ++ [z % size], 0 ≤ x ∧ x < size := by
  intro x hx
  rcases List.mem_append.mp hx with hx | hx
  · exact h x hx
  · rw [List.mem_singleton.mp hx]
    exact ⟨Int.emod_nonneg _ (by omega), Int.emod_lt_of_pos _ hs⟩
theorem ok_l_row (T : Txt K mg) : FnOk P w K mg base CX0 1 T.f_l_row T.d_l_row ["_law_cell_here", "_law_many", "_law_size"] sp_l_row := by
  refine T.F_l_row.ok sc_l_row (fun vs H Q E h => ?_) (fun cdv A outer s H vs Q E hr h => ?_)
  · obtain ⟨c, many, size, rfl, _⟩ := h
    rfl
  · obtain ⟨c, many, size, rfl, hm0, hm1, hs0, hs1, k⟩ := h
    refine ⟨_, (pss_cons (ps_set (i := 3) sc_l_row.nd rfl (by first | exact Or.inl rfl | exact Or.inr rfl) (pe_lst pa_nil))
      (pss_cons (ps_if (pt_cmpR op_ge (pv 0) (pe_op op_pow pe_int pe_int) (nomark _))
      (pss_cons (ps_set (i := 4) sc_l_row.nd rfl (by first | exact Or.inl rfl | exact Or.inr rfl) (pe_op op_sub (pv 0) (pe_op op_pow pe_int pe_int)))
      (pss_cons (ps_for PassesOwn.never rfl (pi_range1 (by rfl) T.m_range (pa_cons (pv 1) pa_nil)) (pg_name (i := 5) sc_l_row.nd rfl (by first | exact Or.inl rfl | exact Or.inr rfl))
      (pss_cons (ps_expr (pe_bm PySem.F.plainAttrs_list PySem.F.slot_list_append PySem.F.type_list_append mt_append (pv 3) (pa_cons (pe_op op_mod (pv 4) (pv 2)) pa_nil)))
      (pss_one (ps_set (i := 4) sc_l_row.nd rfl (by first | exact Or.inl rfl | exact Or.inr rfl) (pe_op op_fdiv (pv 4) (pv 2))))))
      (pss_one (ps_ret (pv 3)))))
      pss_nil)
      (pss_cons (ps_set (i := 6) sc_l_row.nd rfl (by first | exact Or.inl rfl | exact Or.inr rfl) (pe_op op_mod (pv 0) pe_int))
      (pss_cons (ps_for PassesOwn.never rfl (pi_range1 (by rfl) T.m_range (pa_cons (pv 1) pa_nil)) (pg_name (i := 5) sc_l_row.nd rfl (by first | exact Or.inl rfl | exact Or.inr rfl))
      (pss_cons (ps_set (i := 6) sc_l_row.nd rfl (by first | exact Or.inl rfl | exact Or.inr rfl) (pe_op op_mod (pe_op op_add (pe_op op_add (pe_op op_mul (pv 6) pe_int) pe_int) (pv 5)) pe_int))
      (pss_cons (ps_set (i := 7) sc_l_row.nd rfl (by first | exact Or.inl rfl | exact Or.inr rfl) (pe_op op_mod (pe_op op_fdiv (pe_op op_mul (pv 6) (pe_op op_add (pe_op op_mod (pv 6) pe_int) pe_int)) pe_int) pe_int))
      (pss_one (ps_expr (pe_bm PySem.F.plainAttrs_list PySem.F.slot_list_append PySem.F.type_list_append mt_append (pv 3) (pa_cons (pe_op op_mod (pv 7) (pv 2)) pa_nil)))))))
      (pss_one (ps_ret (pv 3))))))), ?_⟩
    refine ⟨Nat.zero_le _, fun p np => ?_⟩
    generalize h_H1 : upd H p _ = H1
    have k_H1 : Kp H H1 := by rw [← h_H1]; exact .new np
    have q_H1 := (congrFun h_H1 p).symm.trans upd_same
    clear h_H1
    refine ⟨_, rfl, _, _, rfl, rfl, ⟨by decide, by decide, by decide⟩, _, _, rfl, rfl, _, rfl, iteD (fun c1 => ?_) (fun c1 => ?_)⟩
    · refine ⟨_, rfl, _, _, rfl, rfl, ⟨by decide, by decide, by decide⟩, _, _, rfl, rfl, ?_⟩
      refine ⟨_, rfl, many, rfl, by omega, by omega, ?_⟩
      refine for_range (lo := 0) (n := many.toNat) (fun i σ H' => ∃ (xs : List Int) (r : Int) (y : Option V), σ = [some (.int c), some (.int many), some (.int size), some (.ref p), some (.int r), y, none, none] ∧ Kp H H' ∧ H' p = some (.lst (xs.map V.int)) ∧ xs.length = i ∧ ∀ x ∈ xs, 0 ≤ x ∧ x < size)
        ⟨[], _, none, rfl, k_H1, q_H1, rfl, by simp⟩ ?_ ?_
      · rintro i σ H' hi ⟨xs, r, y, rfl, kp, hp, hl, hb⟩
        refine ⟨_, rfl, .inl ⟨rfl, _, SqL.of hp⟩, _, rfl, _, rfl, _, _, rfl, rfl, hs0, p, _, _, rfl, rfl, hp, szt (by rw [List.length_map]; omega), ?_⟩
        refine ⟨_, rfl, _, rfl, _, _, rfl, rfl, ⟨hs0, hs1⟩, ?_⟩
        refine ⟨xs ++ [r % size], _, _, rfl, kp.mut np, ?_, by rw [List.length_append, hl]; rfl, snoc_in hs0 hb⟩
        rw [upd_same, List.map_append]
        rfl
      · rintro σ H' ⟨xs, r, y, rfl, kp, hp, hl, hb⟩
        exact ⟨_, rfl, k xs p H' np kp hp ⟨by omega, hb⟩⟩
    · refine ⟨_, rfl, _, _, rfl, rfl, (by show (0 : Int) < 2147483647; decide), ?_⟩
      refine ⟨_, rfl, many, rfl, by omega, by omega, ?_⟩
      refine for_range (lo := 0) (n := many.toNat) (fun i σ H' => ∃ (xs : List Int) (r : Int) (y y2 : Option V), σ = [some (.int c), some (.int many), some (.int size), some (.ref p), none, y, some (.int r), y2] ∧ Kp H H' ∧ H' p = some (.lst (xs.map V.int)) ∧ xs.length = i ∧ ∀ x ∈ xs, 0 ≤ x ∧ x < size)
        ⟨[], _, none, none, rfl, k_H1, q_H1, rfl, by simp⟩ ?_ ?_
      · rintro i σ H' hi ⟨xs, r, y, y2, rfl, kp, hp, hl, hb⟩
        refine ⟨_, rfl, _, _, rfl, rfl, .inr ⟨by decide, by decide⟩, _, _, rfl, rfl, _, rfl, _, _, rfl, rfl, _, _, rfl, rfl, (by show (0 : Int) < 2147483647; decide), ?_⟩
        generalize hr2 : (fun (i j : Int) => V.int (i % j)) _ _ = sv
        obtain ⟨r2, rfl⟩ : ∃ r2 : Int, sv = .int r2 := ⟨_, hr2.symm⟩
        clear hr2
        have b0 : 0 ≤ r2 % 65521 := Int.emod_nonneg _ (by decide)
        have b1 : r2 % 65521 < 65521 := Int.emod_lt_of_pos _ (by decide)
        refine ⟨_, rfl, _, rfl, _, _, rfl, rfl, (by show (0 : Int) < 65521; decide), _, _, rfl, rfl, _, _, rfl, rfl, .inr ⟨by omega, by omega⟩, _, _, rfl, rfl, ⟨by decide, by decide⟩, _, _, rfl, rfl, (by show (0 : Int) < 1000003; decide), ?_⟩
        refine ⟨_, rfl, .inl ⟨rfl, _, SqL.of hp⟩, _, rfl, _, rfl, _, _, rfl, rfl, hs0, p, _, _, rfl, rfl, hp, szt (by rw [List.length_map]; omega), ?_⟩
        refine ⟨xs ++ [r2 * (r2 % 65521 + 3) / 1009 % 1000003 % size], r2, _, _, rfl, kp.mut np, ?_, by rw [List.length_append, hl]; rfl, snoc_in hs0 hb⟩
        rw [upd_same, List.map_append]
        rfl
      · rintro σ H' ⟨xs, r, y, y2, rfl, kp, hp, hl, hb⟩
        exact ⟨_, rfl, k xs p H' np kp hp ⟨by omega, hb⟩⟩
/-! ### _law_signs: some signs -/
def sp_l_signs : Sp := fun vs H Q _ => ∃ (c most : Int), vs = [.int c, .int most] ∧ 0 ≤ most ∧ most ≤ 60 ∧
  ∀ (xs : List Int) (p : Addr) (H' : Hp), H p = none → Kp H H' → H' p = some (.lst (xs.map V.int)) → xs.length ≤ 60 → (∀ x ∈ xs, 1 ≤ x ∧ x ≤ 94) → Q (.ref p) H'
theorem cutV_map {lo hi : Option Int} {ns : List Int} : ∃ ms : List Int, cutV (ns.map V.int) lo hi = ms.map V.int ∧ (∀ m ∈ ms, m ∈ ns) ∧ ms.length ≤ ns.length := by
  unfold cutV
  rw [List.length_map]
  refine ⟨(ns.drop _).take _, by rw [List.map_take, List.map_drop], fun m h => List.mem_of_mem_drop (List.mem_of_mem_take h), ?_⟩
  rw [List.length_take, List.length_drop]
  omega
theorem mem_ints {ns : List Int} {i : Nat} {x : V} (h : (ns.map V.int)[i]? = some x) : ∃ z, z ∈ ns ∧ x = .int z ∧ ns[i]? = some z := by
  rw [List.getElem?_map] at h
  cases e : ns[i]? with
  | none =>
    rw [e] at h
    cases h
  | some z =>
    rw [e] at h
    exact ⟨z, List.mem_of_getElem? e, (Option.some.inj h).symm, rfl⟩
theorem six (z : Int) : ∃ v : Int, atI [V.int 41, V.int 42, V.int 67, V.int 68, V.int 1, V.int 2] (z % 6) = some (.int v) ∧ 1 ≤ v ∧ v ≤ 94 := by
  have h0 : 0 ≤ z % 6 := Int.emod_nonneg _ (by decide)
  have h1 : z % 6 < 6 := Int.emod_lt_of_pos _ (by decide)
  generalize z % 6 = m at h0 h1
  have hm : m = 0 ∨ m = 1 ∨ m = 2 ∨ m = 3 ∨ m = 4 ∨ m = 5 := by omega
  rcases hm with rfl | rfl | rfl | rfl | rfl | rfl
  · exact ⟨41, rfl, by decide, by decide⟩
  · exact ⟨42, rfl, by decide, by decide⟩
  · exact ⟨67, rfl, by decide, by decide⟩
  · exact ⟨68, rfl, by decide, by decide⟩
  · exact ⟨1, rfl, by decide, by decide⟩
  · exact ⟨2, rfl, by decide, by decide⟩
theorem ok_l_signs (T : Txt K mg) : FnOk P w K mg base CX0 2 T.f_l_signs T.d_l_signs ["_law_cell_here", "_law_most"] sp_l_signs := by
  refine T.F_l_signs.ok sc_l_signs (fun vs H Q E h => ?_) (fun cdv A outer s H vs Q E hr h => ?_)
  · obtain ⟨c, most, rfl, _⟩ := h
    rfl
  · obtain ⟨c, most, rfl, hm0, hm1, k⟩ := h
    refine ⟨_, (pss_cons (ps_set (i := 2) sc_l_signs.nd rfl (by first | exact Or.inl rfl | exact Or.inr rfl) (pe_call (ok_l_row T) (hr.mono (by decide)) rfl T.g_l_row T.F_l_row.kp T.b_l_row .nil pass0 (pa_cons (pv 0) (pa_cons pe_int (pa_cons (pe_op op_mul pe_int pe_int) pa_nil)))))
      (pss_cons (ps_set (i := 3) sc_l_signs.nd rfl (by first | exact Or.inl rfl | exact Or.inr rfl) (pe_op op_mod (pe_ix ix_list (pv 2) pe_int (fun _ _ => rfl)) (pe_op op_add (pv 1) pe_int)))
      (pss_cons (ps_set (i := 4) sc_l_signs.nd rfl (by first | exact Or.inl rfl | exact Or.inr rfl) (pe_op op_mod (pe_op op_fdiv (pe_ix ix_list (pv 2) pe_int (fun _ _ => rfl)) pe_int) pe_int))
      (pss_cons (ps_set (i := 5) sc_l_signs.nd rfl (by first | exact Or.inl rfl | exact Or.inr rfl) (pe_lst pa_nil))
      (pss_cons (ps_for PassesOwn.never rfl (pi_list (pe_slice sl_list (pv 2) (po_some pe_int) (po_some (pe_op op_add pe_int (pv 3))))) (pg_name (i := 6) sc_l_signs.nd rfl (by first | exact Or.inl rfl | exact Or.inr rfl))
      (pss_cons (ps_set (i := 7) sc_l_signs.nd rfl (by first | exact Or.inl rfl | exact Or.inr rfl) (pe_op op_add pe_int (pe_op op_mod (pv 6) pe_int)))
      (Evl.pss_cut (ps_if (PW.pt (pw_and (pt_cmpR op_eq (pv 4) pe_int (nomark _)) (pw_and1 (pt_cmpR op_gt (pe_op op_mod (pe_op op_fdiv (pv 6) pe_int) pe_int) pe_int (nomark _)))))
      (pss_one (ps_set (i := 7) sc_l_signs.nd rfl (by first | exact Or.inl rfl | exact Or.inr rfl) (pe_ix ix_tup (pe_tup (pa_cons pe_int (pa_cons pe_int (pa_cons pe_int (pa_cons pe_int (pa_cons pe_int (pa_cons pe_int pa_nil))))))) (pe_op op_mod (pv 6) pe_int) (fun _ _ => rfl))))
      pss_nil)
      (Evl.pss_cut (ps_if (PW.pt (pw_and (pt_cmpR op_eq (pv 4) pe_int (nomark _)) (pw_and1 (pt_cmpR op_eq (pe_op op_mod (pe_op op_fdiv (pv 6) pe_int) pe_int) pe_int (nomark _)))))
      (pss_one (ps_set (i := 7) sc_l_signs.nd rfl (by first | exact Or.inl rfl | exact Or.inr rfl) pe_int))
      pss_nil)
      (Evl.pss_cut (ps_if (pt_cmpR op_eq (pv 4) pe_int (nomark _))
      (pss_one (ps_set (i := 7) sc_l_signs.nd rfl (by first | exact Or.inl rfl | exact Or.inr rfl) (pe_op op_add pe_int (pe_op op_mod (pv 6) pe_int))))
      pss_nil)
      (pss_one (ps_expr (pe_bm PySem.F.plainAttrs_list PySem.F.slot_list_append PySem.F.type_list_append mt_append (pv 5) (pa_cons (pv 7) pa_nil)))))))))
      (pss_one (ps_ret (pv 5)))))))), ?_⟩
    refine ⟨_, rfl, _, _, rfl, rfl, .inl ⟨by decide, by decide⟩, c, 61, 94 * 70, rfl, by decide, by decide, by decide, by decide, fun nums p1 H1 n1 k1 q1 ⟨hl, hb⟩ => ?_⟩
    have hl0 : 0 < nums.length := by omega
    refine ⟨_, rfl, p1, _, _, _, rfl, rfl, .inl (.inl q1), at_int (j := 0) hl0, _, rfl, _, _, rfl, rfl, _, _, rfl, rfl, (by show (0 : Int) < most + 1; omega), ?_⟩
    refine ⟨_, rfl, p1, _, _, _, rfl, rfl, .inl (.inl q1), at_int (j := 0) hl0, _, _, rfl, rfl, ⟨by decide, by decide⟩, _, _, rfl, rfl, (by show (0 : Int) < 5; decide), ?_⟩
    refine ⟨Nat.zero_le _, fun p2 n2 => ?_⟩
    generalize h_H2 : upd H1 p2 _ = H2
    have k_H2 : Kp H1 H2 := by rw [← h_H2]; exact .new n2
    have q_H2 := (congrFun h_H2 p2).symm.trans upd_same
    clear h_H2
    refine ⟨_, rfl, _, rfl, _, rfl, _, _, rfl, rfl, _, rfl, p1, _, rfl, .inl (.inl (k_H2.same _ _ rfl q1)), fun p3 n3 => ?_⟩
    obtain ⟨ms, em, hms, hml⟩ := cutV_map (lo := some 1) (hi := some ((1 : Int) + nums[0] % (most + 1))) (ns := nums)
    have hm60 : ms.length ≤ 60 := by
      have e1 := congrArg List.length em
      have b0 : 0 ≤ nums[0] % (most + 1) := Int.emod_nonneg _ (by omega)
      have b1 : nums[0] % (most + 1) < most + 1 := Int.emod_lt_of_pos _ (by omega)
      rw [List.length_map] at e1
      rw [← e1]
      unfold cutV
      rw [List.length_take, List.length_drop, List.length_map]
      have s1 : HT.sIx nums.length 0 (some 1) = 1 := by
        have z : HT.sIx nums.length 0 (some 1) = min 1 nums.length := HT.sIx_nat nums.length 0 1
        rw [z]
        omega
      have s2 : HT.sIx nums.length nums.length (some ((1 : Int) + nums[0] % (most + 1))) ≤ 61 := by
        obtain ⟨j, hj⟩ : ∃ j : Nat, (1 : Int) + nums[0] % (most + 1) = (j : Int) := ⟨((1 : Int) + nums[0] % (most + 1)).toNat, by omega⟩
        rw [hj, HT.sIx_nat]
        omega
      omega
    generalize h_H3 : upd H2 p3 _ = H3
    have k_H3 : Kp H2 H3 := by rw [← h_H3]; exact .new n3
    have q_H3 := (congrFun h_H3 p3).symm.trans upd_same
    clear h_H3
    have q3 : H3 p3 = some (.lst (ms.map V.int)) := by rw [← em]; exact q_H3
    have hp1 : H3 p1 = some (.lst (nums.map V.int)) := k_H3.same _ _ rfl (k_H2.same _ _ rfl q1)
    have kp3 := (k1.trans k_H2).trans k_H3
    have n2' : H p2 = none := k1.free _ n2
    refine ⟨p3, rfl, ⟨_, .inl (.inl q3)⟩, for_list (K := K) (a := p3) (xs := ms.map V.int) (fun i σ H' => ∃ (xs : List Int) (x3 x4 : Int) (y y2 : Option V), σ = [some (.int c), some (.int most), some (.ref p1), some (.int x3), some (.int x4), some (.ref p2), y, y2] ∧ Kp H H' ∧ H' p3 = some (.lst (ms.map V.int)) ∧ H' p2 = some (.lst (xs.map V.int)) ∧ xs.length = i ∧ ∀ x ∈ xs, 1 ≤ x ∧ x ≤ 94)
      ⟨[], _, _, none, none, rfl, kp3, q3, k_H3.same _ _ rfl q_H2, rfl, by simp⟩ (fun i σ H' _ ⟨_, _, _, _, _, _, _, h3, _⟩ => .inl (.inl h3)) ?_ ?_⟩
    · rintro i x σ H' hi ⟨xs, x3, x4, y, y2, rfl, kp, h3, h2, hlx, hbx⟩
      have hil : i < ms.length := by
        have z := (List.getElem?_eq_some_iff.mp hi).1
        rw [List.length_map] at z
        exact z
      obtain ⟨z, _, rfl, _⟩ := mem_ints hi
      have m0 : 0 ≤ z % 94 := Int.emod_nonneg _ (by decide)
      have m1 : z % 94 < 94 := Int.emod_lt_of_pos _ (by decide)
      refine ⟨_, rfl, _, _, rfl, rfl, (by show (0 : Int) < 94; decide), _, _, rfl, rfl, ?_⟩
      let Mid : L2.St → Hp → Prop := fun σ' H'' => ∃ sg : Int, σ' = [some (.int c), some (.int most), some (.ref p1), some (.int x3), some (.int x4), some (.ref p2), some (.int z), some (.int sg)] ∧ Kp H' H'' ∧ 1 ≤ sg ∧ sg ≤ 94
      refine ⟨Mid, ?_, ?_⟩
      · have skip : Mid [some (.int c), some (.int most), some (.ref p1), some (.int x3), some (.int x4), some (.ref p2), some (.int z), some (.int (1 + z % 94))] H' := ⟨_, rfl, .refl _, by omega, by omega⟩
        refine ⟨_, rfl, rfl, _, rfl, iteD (fun c1 => ?_) (fun c1 => skip)⟩
        refine ⟨_, rfl, _, _, rfl, rfl, ⟨by decide, by decide⟩, _, _, rfl, rfl, (by show (0 : Int) < 3; decide), _, _, rfl, rfl, _, rfl, iteD (fun c2 => ?_) (fun c2 => skip)⟩
        obtain ⟨v, hv, v0, v1⟩ := six z
        exact ⟨szl (by show 6 ≤ 100000; decide), fun pt nt => ⟨_, rfl, _, _, rfl, rfl, (by show (0 : Int) < 6; decide), pt, _, _, _, rfl, rfl, .inl (.inl upd_same), hv, v, rfl, .new nt, v0, v1⟩⟩
      rintro σ' H'' ⟨sg, rfl, k2, g0, g1⟩
      refine ⟨Mid, ?_, ?_⟩
      · have skip : Mid [some (.int c), some (.int most), some (.ref p1), some (.int x3), some (.int x4), some (.ref p2), some (.int z), some (.int sg)] H'' := ⟨_, rfl, k2, g0, g1⟩
        refine ⟨_, rfl, rfl, _, rfl, iteD (fun c1 => ?_) (fun c1 => skip)⟩
        refine ⟨_, rfl, _, _, rfl, rfl, ⟨by decide, by decide⟩, _, _, rfl, rfl, (by show (0 : Int) < 4; decide), rfl, _, rfl, iteD (fun c2 => ?_) (fun c2 => skip)⟩
        exact ⟨68, rfl, k2, by decide, by decide⟩
      clear k2 g0 g1
      rintro σ' H'' ⟨sg, rfl, k2, g0, g1⟩
      refine ⟨Mid, ?_, ?_⟩
      · have n0 : 0 ≤ z % 28 := Int.emod_nonneg _ (by decide)
        have n1 : z % 28 < 28 := Int.emod_lt_of_pos _ (by decide)
        refine ⟨_, rfl, rfl, _, rfl, iteD (fun c1 => ?_) (fun c1 => ⟨_, rfl, k2, g0, g1⟩)⟩
        exact ⟨_, rfl, _, _, rfl, rfl, (by show (0 : Int) < 28; decide), _, _, rfl, rfl, _, rfl, k2, by omega, by omega⟩
      clear k2 g0 g1
      rintro σ' H'' ⟨sg, rfl, k2, g0, g1⟩
      have h22 := k2.same _ _ rfl h2
      refine ⟨_, rfl, .inl ⟨rfl, _, SqL.of h22⟩, _, rfl, p2, _, _, rfl, rfl, h22, szt (by rw [List.length_map]; omega), ?_⟩
      have ne32 : p3 ≠ p2 := fun e => by
        rw [e, k_H2.free _ n3 |> fun _ => q_H2] at n3
        cases n3
      refine ⟨xs ++ [sg], _, _, _, _, rfl, (kp.trans k2).mut n2', by rw [upd_ne ne32]; exact k2.same _ _ rfl h3, by rw [upd_same, List.map_append]; rfl, by rw [List.length_append, hlx]; rfl, fun x hx => ?_⟩
      rcases List.mem_append.mp hx with hx | hx
      · exact hbx x hx
      · rw [List.mem_singleton.mp hx]
        exact ⟨g0, g1⟩
    · rintro σ H' ⟨xs, x3, x4, y, y2, rfl, kp, h3, h2, hlx, hbx⟩
      rw [List.length_map] at hlx
      exact ⟨_, rfl, k xs p2 H' n2' kp h2 (by omega) hbx⟩
/-! ### the signs that no strike took away -/
def strikeGo : List Int → Nat → List (Int × Nat) → Sum Nat (List (Int × Nat))
  | [], _, acc => .inr acc
  | x :: r, i, acc => if x = 68 then (if acc = [] then .inl i else strikeGo r (i + 1) acc.dropLast) else strikeGo r (i + 1) (acc ++ [(x, i)])
def strikes (xs : List Int) : Sum Nat (List (Int × Nat)) := strikeGo xs 0 []
def dPair (p : Int × Nat) : PyData := .tuple [.int p.1, .int (p.2 : Int)]
def dRes : Sum Nat (List (Int × Nat)) → PyData
  | .inl i => .tuple [.str "bad", .int (i : Int)]
  | .inr ps => .list (ps.map dPair)
theorem nl_pairs {ps : List (Int × Nat)} : ∀ d ∈ ps.map dPair, Nl d := by
  intro d hd
  obtain ⟨p, _, rfl⟩ := List.mem_map.mp hd
  exact .tup (by intro d hd; simp only [List.mem_cons, List.not_mem_nil, or_false] at hd; rcases hd with rfl | rfl <;> exact .int _)
theorem strikeGo_len : ∀ (xs : List Int) (i : Nat) (acc ps : List (Int × Nat)), strikeGo xs i acc = .inr ps → ps.length ≤ acc.length + xs.length
  | [], i, acc, ps, h => by
    have e := Sum.inr.inj h
    subst e
    exact Nat.le_refl _
  | x :: r, i, acc, ps, h => by
    unfold strikeGo at h
    rw [List.length_cons]
    by_cases c : x = 68
    · rw [if_pos c] at h
      by_cases c2 : acc = []
      · rw [if_pos c2] at h
        cases h
      · rw [if_neg c2] at h
        have z := strikeGo_len r _ _ _ h
        rw [List.length_dropLast] at z
        omega
    · rw [if_neg c] at h
      have z := strikeGo_len r _ _ _ h
      rw [List.length_append, List.length_singleton] at z
      omega
theorem drop_at {xs : List Int} {i : Nat} {z : Int} (h : xs[i]? = some z) : xs.drop i = z :: xs.drop (i + 1) := by
  obtain ⟨hi, e⟩ := List.getElem?_eq_some_iff.mp h
  rw [List.drop_eq_getElem_cons hi, e]
theorem go_strike {xs : List Int} {i : Nat} {acc : List (Int × Nat)} (h : xs[i]? = some 68) (hn : acc ≠ []) : strikeGo (xs.drop i) i acc = strikeGo (xs.drop (i + 1)) (i + 1) acc.dropLast := by
  rw [drop_at h]
  show (if (68 : Int) = 68 then (if acc = [] then _ else _) else _) = _
  rw [if_pos rfl, if_neg hn]
theorem go_bad {xs : List Int} {i : Nat} (h : xs[i]? = some 68) : strikeGo (xs.drop i) i [] = .inl i := by
  rw [drop_at h]
  show (if (68 : Int) = 68 then (if ([] : List (Int × Nat)) = [] then _ else _) else _) = _
  rw [if_pos rfl, if_pos rfl]
theorem go_sign {xs : List Int} {i : Nat} {z : Int} {acc : List (Int × Nat)} (h : xs[i]? = some z) (hn : z ≠ 68) : strikeGo (xs.drop i) i acc = strikeGo (xs.drop (i + 1)) (i + 1) (acc ++ [(z, i)]) := by
  rw [drop_at h]
  show (if z = 68 then _ else _) = _
  rw [if_neg hn]
theorem go_end {xs : List Int} {acc : List (Int × Nat)} : strikeGo (xs.drop xs.length) xs.length acc = .inr acc := by
  rw [List.drop_length]
  rfl
/-! ### BadSigns, made with a place -/
def sp_p_BadSigns_init (C : Addr) : Sp := fun vs H Q _ => ∃ (a : Addr) (v : V), vs = [.ref a, v] ∧ H a = some (exo a C none) ∧ ∀ dx, H dx = none → dx ≠ a → Q .non (upd (upd H dx (exd dx [("at", v)])) a (exo a C (some dx)))
theorem ok_p_BadSigns_init (T : Txt K mg) : FnOk P w K mg base CX0 1 T.f_p_BadSigns_init T.d_p_BadSigns_init ["self", "at"] (sp_p_BadSigns_init T.a_BadSigns) := by
  refine T.F_p_BadSigns_init.ok sc_p_BadSigns_init (fun vs H Q E h => ?_) (fun cdv A outer s H vs Q E hr h => ?_)
  · obtain ⟨a, v, rfl, _⟩ := h
    rfl
  · obtain ⟨a, v, rfl, ha, k⟩ := h
    refine ⟨_, (pss_one (ps_ost (pv 0) (pv 1))), ?_⟩
    exact ⟨_, rfl, _, rfl, a, _, rfl, T.ox_BadSigns, T.nf_BadSigns_at, .inl ⟨ha, fun dx h1 h2 => k dx h1 h2⟩⟩
theorem kp_raised {H : Hp} {a d C : Addr} {fs : List (Str × V)} (ha : H a = none) (hd : H d = none) (ne : d ≠ a) : Kp H (upd (del (upd (upd (upd H a (exo a C none)) d (exd d fs)) a (exo a C (some d))) a) d (.xd fs)) := by
  have e : ∀ b, b ≠ a → b ≠ d → (upd (del (upd (upd (upd H a (exo a C none)) d (exd d fs)) a (exo a C (some d))) a) d (.xd fs)) b = H b := fun b h1 h2 => by
    rw [upd_ne h2, del_ne h1, upd_ne h1, upd_ne h2, upd_ne h1]
  refine ⟨fun b o _ hb => ?_, fun b ⟨ps, hb, ht⟩ => ?_, fun b hb => ?_⟩
  · rw [e b (ne_of_none hb ha) (ne_of_none hb hd)]
    exact hb
  · exact ⟨ps, by rw [e b (ne_of_none hb ha) (ne_of_none hb hd)]; exact hb, ht⟩
  · by_cases h1 : b = a
    · rw [h1]
      exact ha
    · by_cases h2 : b = d
      · rw [h2]
        exact hd
      · rw [e b h1 h2] at hb
        exact hb
/-! ### standing -/
def sp_p_standing (K : PySem.W.Frag) (C : Addr) : Sp := fun vs H Q E => ∃ (a : Addr) (xs : List Int), vs = [.ref a] ∧ SqL K H a (xs.map V.int) ∧ xs.length ≤ 1000 ∧
  (∀ ps, strikes xs = .inr ps → ∀ (p : Addr) (ws : List V) (H' : Hp), H p = none → Kp H H' → H' p = some (.lst ws) → DpAll K H' ws (ps.map dPair) → Q (.ref p) H') ∧
  (∀ i, strikes xs = .inl i → ∀ (d : Addr) (H' : Hp), H d = none → Kp H H' → H' d = some (.xd [("at", .int (i : Int))]) → E (.ref C) (some d) H')
theorem ok_p_standing (T : Txt K mg) : FnOk P w K mg base (L2.CX P w) 4 T.f_p_standing T.d_p_standing ["signs"] (sp_p_standing K T.a_BadSigns) := by
  refine T.F_p_standing.okX sc_p_standing (fun vs H Q E h => ?_) (fun cdv A outer s H vs Q E hr h => ?_)
  · obtain ⟨a, xs, rfl, _⟩ := h
    rfl
  · obtain ⟨a, xs, rfl, hS, hlen, k, kE⟩ := h
    refine ⟨_, (pss_cons (ps_set (i := 1) sc_p_standing.nd rfl (by first | exact Or.inl rfl | exact Or.inr rfl) (pe_lst pa_nil))
      (pss_cons (ps_for (passes_of rfl) rfl (pi_enum (by rfl) T.m_enumerate (pa_cons (pv 0) pa_nil)) (pg_tup (n := 2) rfl (pgs_cons (pg_name (i := 2) sc_p_standing.nd rfl (by first | exact Or.inl rfl | exact Or.inr rfl)) (pgs_cons (pg_name (i := 3) sc_p_standing.nd rfl (by first | exact Or.inl rfl | exact Or.inr rfl)) pgs_nil)))
      (pss_one (ps_if (pt_cmpR op_ne (pv 3) (pe_glob rfl T.c_STRIKE T.r_STRIKE) (nomark _))
      (pss_one (ps_expr (pe_bm PySem.F.plainAttrs_list PySem.F.slot_list_append PySem.F.type_list_append mt_append (pv 1) (pa_cons (pe_tup (pa_cons (pv 3) (pa_cons (pv 2) pa_nil))) pa_nil))))
      (pss_one (ps_if (pt_truth (pv 1) (by intro _; rfl))
      (pss_one (ps_expr (pe_bm0 PySem.F.plainAttrs_list PySem.F.slot_list_pop PySem.F.type_list_pop mt_pop (pv 1))))
      (pss_one (ps_raise rfl (takes_of rfl rfl rfl rfl) (pmk_oex T.ox_BadSigns T.ic_BadSigns T.ti_BadSigns (ok_p_BadSigns_init T) (hr.mono (by decide)) T.b_p_BadSigns_init .nil pass0 rfl T.g_BadSigns (pa_cons (pv 2) pa_nil)))))))))
      (pss_one (ps_ret (pv 1))))), ?_⟩
    refine ⟨Nat.zero_le _, fun p np => ?_⟩
    generalize h_H1 : upd H p _ = H1
    have k_H1 : Kp H H1 := by rw [← h_H1]; exact .new np
    have q_H1 := (congrFun h_H1 p).symm.trans upd_same
    clear h_H1
    refine ⟨_, rfl, a, _, rfl, k_H1.sqL hS, for_it (walk_enum (K := K) (a := a) (xs := xs.map V.int)) (fun i σ H' => ∃ (acc : List (Int × Nat)) (ws : List V) (y y2 : Option V), σ = [some (.ref a), some (.ref p), y, y2] ∧ Kp H H' ∧ H' p = some (.lst ws) ∧ DpAll K H' ws (acc.map dPair) ∧ acc.length ≤ i ∧ strikeGo (xs.drop i) i acc = strikes xs)
      ⟨[], [], none, none, rfl, k_H1, q_H1, .nil, Nat.le_refl _, rfl⟩ (fun i σ H' _ ⟨_, _, _, _, _, kp, _⟩ => kp.sqL hS) ?_ ?_⟩
    · rintro i x σ H' H'' hi ⟨acc, ws, y, y2, rfl, kp, hp, hw, ha, hg⟩ ⟨t, i', v, rfl, nt, rfl, ei, ev⟩
      obtain ⟨z, _, rfl, hz⟩ := mem_ints ev
      cases Option.some.inj ei
      generalize h_H2 : upd H' t _ = H2
      have k_H2 : Kp H' H2 := by rw [← h_H2]; exact .new nt
      have q_H2 := (congrFun h_H2 t).symm.trans upd_same
      clear h_H2
      have hp2 := k_H2.same _ _ rfl hp
      have kp2 := kp.trans k_H2
      have hw2 := k_H2.dpAll hw
      refine ⟨t, _, rfl, .inl (.inl q_H2), rfl, _, _, rfl, _, _, rfl, rfl, ?_⟩
      refine ⟨_, rfl, rfl, _, rfl, iteN (fun c => ?_) (fun c => ?_)⟩
      · have c : z ≠ 68 := fun e => c (by rw [e])
        refine ⟨_, rfl, .inl ⟨rfl, _, SqL.of hp2⟩, _, rfl, _, rfl, szl (by show 2 ≤ 100000; decide), fun u nu => ?_⟩
        generalize h_H3 : upd H2 u _ = H3
        have k_H3 : Kp H2 H3 := by rw [← h_H3]; exact .new nu
        have q_H3 := (congrFun h_H3 u).symm.trans upd_same
        clear h_H3
        have hp3 := k_H3.same _ _ rfl hp2
        refine ⟨p, _, _, rfl, rfl, hp3, szt (by have := DpAll.len hw; rw [List.length_map] at this; rw [List.length_map] at hi; omega), ?_⟩
        refine ⟨acc ++ [(z, i)], _, _, _, rfl, (kp2.trans k_H3).mut np, upd_same, ?_, by rw [List.length_append]; show acc.length + 1 ≤ i + 1; omega, by rw [← hg, go_sign hz c]⟩
        rw [List.map_append]
        refine DpAll.mut hp3 ?_ (DpAll.snoc (k_H3.dpAll hw2) (.tup (.inl (.inl q_H3)) (.cons (.int _) (.cons (.int _) .nil))))
        intro d hd
        rw [← List.map_append] at hd
        exact nl_pairs d hd
      · have c : z = 68 := V.int.inj c
        subst c
        by_cases hn : acc = []
        · subst hn
          cases hw2
          refine ⟨_, rfl, false, .inl ⟨[], SqL.of hp2, rfl⟩, iteFo rfl ?_⟩
          have he : strikes xs = .inl i := by rw [← hg, go_bad hz]
          refine ⟨_, rfl, by show 1 ≤ 1000; decide, fun e ne => ⟨e, _, rfl, upd_same, fun dx hdx hne => ⟨rfl, dx, [("at", .int (i : Int))], upd_same, ?_, ?_, ?_⟩⟩⟩
          · rw [upd_ne hne, upd_same]
          · rw [upd_ne hne] at hdx
            exact hdx
          · rw [upd_ne hne] at hdx
            exact kE i he dx _ (kp2.free _ hdx) (kp2.trans (kp_raised ne hdx hne)) upd_same
        · have hl := DpAll.len hw2
          rw [List.length_map] at hl
          have hpos : 0 < acc.length := List.length_pos_iff.mpr hn
          refine ⟨_, rfl, true, .inl ⟨ws, SqL.of hp2, ?_⟩, iteTo rfl ?_⟩
          · cases ws with
            | nil => simp at hl; omega
            | cons _ _ => rfl
          · obtain ⟨y9, hy9⟩ : ∃ y9, ws[ws.length - 1]? = some y9 := ⟨_, List.getElem?_eq_getElem (by omega)⟩
            refine ⟨_, rfl, .inl ⟨rfl, _, SqL.of hp2⟩, p, ws, y9, rfl, rfl, hp2, hy9, ?_⟩
            refine ⟨acc.dropLast, _, _, _, rfl, kp2.mut np, upd_same, ?_, by rw [List.length_dropLast]; omega, by rw [← hg, go_strike hz hn]⟩
            have q := DpAll.dropLast hw2
            rw [← List.map_dropLast] at q
            exact DpAll.mut hp2 nl_pairs q
    · rintro σ H' ⟨acc, ws, y, y2, rfl, kp, hp, hw, ha, hg⟩
      rw [List.length_map, go_end] at hg
      exact ⟨_, rfl, k acc hg.symm p ws H' np kp hp hw⟩
/-! ### the law's own reading -/
theorem cut_last (ws : List V) : cutV ws none (some (-1)) = ws.dropLast := by
  unfold cutV
  rw [HT.sIx_none]
  have e : HT.sIx ws.length ws.length (some (-1)) = ws.length - 1 := by
    show (if (-1 : Int) < 0 then ((-1 : Int) + (ws.length : Int)).toNat else min (-1 : Int).toNat ws.length) = _
    rw [if_pos (by decide)]
    omega
  rw [e, List.drop_zero, Nat.sub_zero, List.dropLast_eq_take]
def sp_l_due (K : PySem.W.Frag) : Sp := fun vs H Q _ => ∃ (a : Addr) (xs : List Int), vs = [.ref a] ∧ SqL K H a (xs.map V.int) ∧ xs.length ≤ 1000 ∧ ∀ (v : V) (H' : Hp), Kp H H' → Dp K H' v (dRes (strikes xs)) → Q v H'
theorem ok_l_due (T : Txt K mg) : FnOk P w K mg base CX0 1 T.f_l_due T.d_l_due ["_law_signs_here"] (sp_l_due K) := by
  refine T.F_l_due.ok sc_l_due (fun vs H Q E h => ?_) (fun cdv A outer s H vs Q E hr h => ?_)
  · obtain ⟨a, xs, rfl, _⟩ := h
    rfl
  · obtain ⟨a, xs, rfl, hS, hlen, k⟩ := h
    refine ⟨_, (pss_cons (ps_set (i := 1) sc_l_due.nd rfl (by first | exact Or.inl rfl | exact Or.inr rfl) (pe_lst pa_nil))
      (pss_cons (ps_for PassesOwn.never rfl (pi_enum (by rfl) T.m_enumerate (pa_cons (pv 0) pa_nil)) (pg_tup (n := 2) rfl (pgs_cons (pg_name (i := 2) sc_l_due.nd rfl (by first | exact Or.inl rfl | exact Or.inr rfl)) (pgs_cons (pg_name (i := 3) sc_l_due.nd rfl (by first | exact Or.inl rfl | exact Or.inr rfl)) pgs_nil)))
      (pss_cons (ps_if (PW.pt (pw_and (pt_cmpR op_eq (pv 3) pe_int (nomark _)) (pw_and1 (pt_cmpR op_eq (pe_callB call_len_seq (by rfl) T.m_len PySem.boot_len (pa_cons (pv 1) pa_nil)) pe_int (nomark _)))))
      (pss_one (ps_ret (pe_tup (pa_cons pe_str (pa_cons (pv 2) pa_nil)))))
      pss_nil)
      (pss_one (ps_if (pt_cmpR op_eq (pv 3) pe_int (nomark _))
      (pss_one (ps_set (i := 1) sc_l_due.nd rfl (by first | exact Or.inl rfl | exact Or.inr rfl) (pe_slice sl_list (pv 1) po_none (po_some (pe_un un_neg pe_int)))))
      (pss_one (ps_set (i := 1) sc_l_due.nd rfl (by first | exact Or.inl rfl | exact Or.inr rfl) (pe_op op_cat (pv 1) (pe_lst (pa_cons (pe_tup (pa_cons (pv 3) (pa_cons (pv 2) pa_nil))) pa_nil)))))))))
      (pss_one (ps_ret (pv 1))))), ?_⟩
    refine ⟨Nat.zero_le _, fun p np => ?_⟩
    generalize h_H1 : upd H p _ = H1
    have k_H1 : Kp H H1 := by rw [← h_H1]; exact .new np
    have q_H1 := (congrFun h_H1 p).symm.trans upd_same
    clear h_H1
    refine ⟨_, rfl, a, _, rfl, k_H1.sqL hS, for_it (walk_enum (K := K) (a := a) (xs := xs.map V.int)) (fun i σ H' => ∃ (acc : List (Int × Nat)) (q : Addr) (ws : List V) (y y2 : Option V), σ = [some (.ref a), some (.ref q), y, y2] ∧ Kp H H' ∧ H' q = some (.lst ws) ∧ DpAll K H' ws (acc.map dPair) ∧ acc.length ≤ i ∧ strikeGo (xs.drop i) i acc = strikes xs)
      ⟨[], p, [], none, none, rfl, k_H1, q_H1, .nil, Nat.le_refl _, rfl⟩ (fun i σ H' _ ⟨_, _, _, _, _, _, kp, _⟩ => kp.sqL hS) ?_ ?_⟩
    · rintro i x σ H' H'' hi ⟨acc, q, ws, y, y2, rfl, kp, hq, hw, ha, hg⟩ ⟨t, i', v, rfl, nt, rfl, ei, ev⟩
      rw [List.length_map] at hi
      obtain ⟨z, _, rfl, hz⟩ := mem_ints ev
      cases Option.some.inj ei
      generalize h_H2 : upd H' t _ = H2
      have k_H2 : Kp H' H2 := by rw [← h_H2]; exact .new nt
      have q_H2 := (congrFun h_H2 t).symm.trans upd_same
      clear h_H2
      have hq2 := k_H2.same _ _ rfl hq
      have kp2 := kp.trans k_H2
      have hw2 := k_H2.dpAll hw
      have hlw := DpAll.len hw2
      rw [List.length_map] at hlw
      refine ⟨t, _, rfl, .inl (.inl q_H2), rfl, _, _, rfl, _, _, rfl, rfl, ?_⟩
      refine ⟨_, rfl, rfl, _, rfl, iteD (fun c => ?_) (fun c => ?_)⟩
      · have c : z = 68 := V.int.inj c
        subst c
        refine ⟨_, rfl, q, ws, rfl, .inl (SqL.of hq2), rfl, _, rfl, iteD (fun c2 => ?_) (fun c2 => ?_)⟩
        · have hn : acc = [] := List.length_eq_zero_iff.mp (by have := V.int.inj c2; omega)
          subst hn
          have he : strikes xs = .inl i := by rw [← hg, go_bad hz]
          refine ⟨_, rfl, szl (by show 2 ≤ 100000; decide), fun u nu => ?_⟩
          refine k _ _ (kp2.trans (.new nu)) ?_
          rw [he]
          exact .tup (.inl (.inl upd_same)) (.cons (.str _) (.cons (.int _) .nil))
        · have hn : acc ≠ [] := fun e => c2 (by rw [hlw, e]; rfl)
          refine ⟨_, rfl, rfl, _, rfl, iteTo dec_self ?_⟩
          refine ⟨_, rfl, 1, rfl, _, rfl, q, ws, rfl, .inl (.inl hq2), fun u nu => ?_⟩
          generalize h_H3 : upd H2 u _ = H3
          have k_H3 : Kp H2 H3 := by rw [← h_H3]; exact .new nu
          have q_H3 := (congrFun h_H3 u).symm.trans upd_same
          clear h_H3
          refine ⟨acc.dropLast, u, _, _, _, rfl, kp2.trans k_H3, q_H3, ?_, by rw [List.length_dropLast]; omega, by rw [← hg, go_strike hz hn]⟩
          rw [cut_last, List.map_dropLast]
          exact k_H3.dpAll (DpAll.dropLast hw2)
      · have c : z ≠ 68 := fun e => c (by rw [e])
        refine iteF ⟨_, rfl, rfl, _, rfl, iteFo (decide_eq_false (fun e => c (V.int.inj e))) ?_⟩
        refine ⟨_, rfl, _, rfl, _, rfl, szl (by show 2 ≤ 100000; decide), fun u nu => ?_⟩
        generalize h_H3 : upd H2 u _ = H3
        have k_H3 : Kp H2 H3 := by rw [← h_H3]; exact .new nu
        have q_H3 := (congrFun h_H3 u).symm.trans upd_same
        clear h_H3
        refine ⟨szl (by show 1 ≤ 100000; decide), fun u2 nu2 => ?_⟩
        generalize h_H4 : upd H3 u2 _ = H4
        have k_H4 : Kp H3 H4 := by rw [← h_H4]; exact .new nu2
        have q_H4 := (congrFun h_H4 u2).symm.trans upd_same
        clear h_H4
        have k24 := k_H3.trans k_H4
        refine ⟨q, u2, _, _, rfl, rfl, k24.same _ _ rfl hq2, q_H4, szl (by show ws.length + 1 ≤ 100000; omega), fun u3 nu3 => ?_⟩
        generalize h_H5 : upd H4 u3 _ = H5
        have k_H5 : Kp H4 H5 := by rw [← h_H5]; exact .new nu3
        have q_H5 := (congrFun h_H5 u3).symm.trans upd_same
        clear h_H5
        refine ⟨acc ++ [(z, i)], u3, _, _, _, rfl, (kp2.trans k24).trans k_H5, q_H5, ?_, by rw [List.length_append]; show acc.length + 1 ≤ i + 1; omega, by rw [← hg, go_sign hz c]⟩
        rw [List.map_append]
        exact DpAll.snoc ((k24.trans k_H5).dpAll hw2) (.tup (.inl (.inl ((k_H4.trans k_H5).same _ _ rfl q_H3))) (.cons (.int _) (.cons (.int _) .nil)))
    · rintro σ H' ⟨acc, q, ws, y, y2, rfl, kp, hq, hw, ha, hg⟩
      rw [List.length_map, go_end] at hg
      refine ⟨_, rfl, k _ _ kp ?_⟩
      rw [← hg]
      exact .lst (.inl (.inl hq)) hw
/-! ### what is told -/
def sp_l_told (K : PySem.W.Frag) : Sp := fun vs H Q _ => ∃ (a : Addr) (xs : List Int), vs = [.ref a] ∧ SqL K H a (xs.map V.int) ∧ xs.length ≤ 1000 ∧
  ∀ (v : V) (H' : Hp), Kp H H' → Dp K H' v (dRes (strikes xs)) → (∀ p, v = .ref p → H p = none) → (∀ ps, strikes xs = .inr ps → ∃ p ws, v = .ref p ∧ H' p = some (.lst ws) ∧ ws.length ≤ 1000) → Q v H'
theorem ok_l_told (T : Txt K mg) : FnOk P w K mg base CX0 6 T.f_l_told T.d_l_told ["_law_signs_here"] (sp_l_told K) := by
  refine T.F_l_told.ok sc_l_told (fun vs H Q E h => ?_) (fun cdv A outer s H vs Q E hr h => ?_)
  · obtain ⟨a, xs, rfl, _⟩ := h
    rfl
  · obtain ⟨a, xs, rfl, hS, hlen, k⟩ := h
    refine ⟨_, (pss_cons (ps_set (i := 1) sc_l_told.nd rfl (by first | exact Or.inl rfl | exact Or.inr rfl) pe_non)
      (pss_cons (ps_try_as (i := 2) rfl rfl sc_l_told.nd rfl rfl ⟨rfl, by decide, Or.inl T.g_MastError⟩ takes0
      (fun W pn xe tk _ => (pss_one (ps_set (i := 1) sc_l_told.nd rfl (by first | exact Or.inl rfl | exact Or.inr rfl) (pe_callS (ok_p_standing T) (hr.mono (by decide)) rfl T.g_p_standing T.F_p_standing.kp T.b_p_standing (fun σ => passAt tk σ) (pa_cons (pv 0) pa_nil)))))
      (fun a oe cls d pn hz hf => (pss_one (ps_if (PW.pt (pw_and (pt_val (pe_callB (call_isX K rfl hz hf) (by rfl) T.m_isinstance (by decide +kernel) (pa_cons (pv 2) (pa_cons (pe_glob (v := .ref T.a_BadSigns) rfl T.g_BadSigns rfl) pa_nil)))) (pw_and1 (pt_val (pe_callB (call_isX K rfl hz hf) (by rfl) T.m_isinstance (by decide +kernel) (pa_cons (pv 2) (pa_cons (pe_bltn (v := .ty "ValueError") (by rfl) T.m_ValueError (by decide +kernel) rfl) pa_nil)))))))
      (pss_one (ps_set (i := 1) sc_l_told.nd rfl (by first | exact Or.inl rfl | exact Or.inr rfl) (pe_tup (pa_cons pe_str (pa_cons (pe_xf ⟨T.ga_BadSigns, T.gg_BadSigns, T.b_BadSigns, T.h_BadSigns⟩ T.nf_BadSigns_at hz hf (pv 2)) pa_nil)))))
      pss_nil))))
      (pss_one (ps_ret (pv 1))))), ?_⟩
    refine ⟨_, rfl, a, xs, rfl, hS, hlen, fun ps he p ws H1 np k1 hp hw => ?_, fun i he d H1 nd k1 hd => ?_⟩
    · refine ⟨_, rfl, k _ _ k1 ?_ (fun p' e => by cases e; exact np) (fun _ _ => ⟨p, ws, rfl, hp, by have l := DpAll.len hw; have z := strikeGo_len xs 0 [] ps he; simp only [List.length_nil] at z; rw [List.length_map] at l; omega⟩)⟩
      rw [he]
      exact .lst (.inl (.inl hp)) hw
    · have xc : ExcC K T.a_BadSigns := ⟨T.ga_BadSigns, T.gg_BadSigns, T.b_BadSigns, T.h_BadSigns, T.cl_BadSigns, T.oc_get, T.oc_tak, T.mo_BadSigns⟩
      refine ⟨true, PySem.W.exm_ref T.b_MastError T.h_MastError T.t_MastError T.s_BadSigns_MastError, fun _ e ne => ?_, fun q => Bool.noConfusion q⟩
      refine ⟨_, rfl, _, _, _, true, rfl, .inr ⟨d, _, rfl, hd⟩, xc, rfl, .own _, kit_sub T.i_BadSigns T.t_BadSigns T.s_BadSigns_BadSigns, _, rfl, iteTo rfl ?_⟩
      refine ⟨_, rfl, _, _, _, true, rfl, .inr ⟨d, _, rfl, hd⟩, xc, rfl, .ty _, kit_ve T.v_BadSigns, _, rfl, iteTo rfl ?_⟩
      refine ⟨_, rfl, rfl, rfl, d, _, _, rfl, hd, rfl, szl (by show 2 ≤ 100000; decide), fun u nu => ?_⟩
      refine ⟨_, rfl, k _ _ (k1.trans (.new nu)) ?_ (fun p' e => by cases e; exact k1.free _ nu) (fun ps e => by rw [he] at e; cases e)⟩
      rw [he]
      exact .tup (.inl (.inl upd_same)) (.cons (.str _) (.cons (.int _) .nil))
/-! ### law -/
def sp_law (K : PySem.W.Frag) : Sp := fun vs H Q _ => ∃ (a : Addr) (ns : List Int), vs = [.ref a] ∧ SqL K H a (ns.map V.int) ∧ ns.length ≤ 63 ∧ ∀ H', Q (.bl true) H'
theorem dn_res {xs : List Int} (h : xs.length ≤ 1000) : Dn 4 (dRes (strikes xs)) := by
  cases e : strikes xs with
  | inl i =>
    refine .tup (fun d hd => ?_) (by show 2 ≤ 10000; decide)
    simp only [List.mem_cons, List.not_mem_nil, or_false] at hd
    rcases hd with rfl | rfl
    · exact .str _ _
    · exact .int _ _
  | inr ps =>
    have hl := strikeGo_len xs 0 [] ps e
    refine .lst (fun d hd => ?_) (by rw [List.length_map]; simp only [List.length_nil] at hl; omega)
    obtain ⟨p, _, rfl⟩ := List.mem_map.mp hd
    refine .tup (fun d hd => ?_) (by show 2 ≤ 10000; decide)
    simp only [List.mem_cons, List.not_mem_nil, or_false] at hd
    rcases hd with rfl | rfl
    · exact .int _ _
    · exact .int _ _
theorem lay_ints : ∀ ns : List Int, PyData.canLayAll0 (ns.map PyData.int) = true
  | [] => by simp [PyData.canLayAll0]
  | n :: r => by simp [PyData.canLayAll0, PyData.canLay0, lay_ints r]
theorem dep_ints : ∀ ns : List Int, PyData.depthAll (ns.map PyData.int) ≤ 1
  | [] => by simp [PyData.depthAll]
  | n :: r => by
    have h := dep_ints r
    simp only [List.map_cons, PyData.depthAll, PyData.depth]
    omega
theorem shaped_ints (ns : List Int) : SeqAt.shaped (dI ns) = true := by
  have h := dep_ints ns
  show (PyData.canLay0 (.list (ns.map PyData.int)) && decide (PyData.depth (.list (ns.map PyData.int)) ≤ 64)) = true
  rw [Bool.and_eq_true]
  refine ⟨by simp only [PyData.canLay0]; exact lay_ints ns, decide_eq_true ?_⟩
  simp only [PyData.depth]
  omega
theorem eqv_ints (ns : List Int) : PyData.eqv (dI ns) (dI ns) = true := SeqAt.eqv_refl _ (SeqAt.canLay_of_shaped (shaped_ints ns))
theorem ok_law (T : Txt K mg) {f : Addr} {fd : FuncData} (F : Fun K "law" "law" s_law f fd) : FnOk P w K mg base CX0 8 f fd ["_law_script"] (sp_law K) := by
  refine F.ok sc_law (fun vs H Q E h => ?_) (fun cdv A outer s H vs Q E hr h => ?_)
  · obtain ⟨a, ns, rfl, _⟩ := h
    rfl
  · obtain ⟨a, ns, rfl, hS, hlen, k⟩ := h
    refine ⟨_, (pss_cons (ps_set (i := 1) sc_law.nd rfl (by first | exact Or.inl rfl | exact Or.inr rfl) (pe_lst (pa_cons (pe_call (ok_l_signs T) (hr.mono (by decide)) rfl T.g_l_signs T.F_l_signs.kp T.b_l_signs .nil pass0 (pa_cons (pe_call (ok_l_cell T) (hr.mono (by decide)) rfl T.g_l_cell T.F_l_cell.kp T.b_l_cell .nil pass0 (pa_cons (pv 0) (pa_cons pe_int pa_nil))) (pa_cons pe_int pa_nil))) (pa_cons (pe_call (ok_l_signs T) (hr.mono (by decide)) rfl T.g_l_signs T.F_l_signs.kp T.b_l_signs .nil pass0 (pa_cons (pe_call (ok_l_cell T) (hr.mono (by decide)) rfl T.g_l_cell T.F_l_cell.kp T.b_l_cell .nil pass0 (pa_cons (pv 0) (pa_cons pe_int pa_nil))) (pa_cons pe_int pa_nil))) pa_nil))))
      (pss_cons (ps_for PassesOwn.never rfl (pi_list (pe_lst (pa_cons (pe_ix ix_list (pv 1) pe_int (fun _ _ => rfl)) (pa_cons (pe_ix ix_list (pv 1) pe_int (fun _ _ => rfl)) (pa_cons (pe_ix ix_list (pv 1) pe_int (fun _ _ => rfl)) pa_nil))))) (pg_name (i := 2) sc_law.nd rfl (by first | exact Or.inl rfl | exact Or.inr rfl))
      (pss_cons (ps_set (i := 3) sc_law.nd rfl (by first | exact Or.inl rfl | exact Or.inr rfl) (pe_callTy call_list_of (by rfl) T.m_list (by decide +kernel) (pa_cons (pv 2) pa_nil)))
      (pss_cons (ps_set (i := 4) sc_law.nd rfl (by first | exact Or.inl rfl | exact Or.inr rfl) (pe_call (ok_l_told T) (hr.mono (by decide)) rfl T.g_l_told T.F_l_told.kp T.b_l_told .nil pass0 (pa_cons (pv 3) pa_nil)))
      (pss_cons (ps_if (PW.pt (pw_or (pt_not (pt_val (pe_call (ok_l_like T 4) (hr.mono (by decide)) rfl T.g_l_like T.F_l_like.kp T.b_l_like .nil pass0 (pa_cons (pv 4) (pa_cons (pe_call (ok_l_due T) (hr.mono (by decide)) rfl T.g_l_due T.F_l_due.kp T.b_l_due .nil pass0 (pa_cons (pv 2) pa_nil)) pa_nil))))) (pw_or1 (pt_cmpR (op_neD hr.units) (pv 3) (pv 2) (nomark _)))))
      (pss_one (ps_ret pe_bl))
      pss_nil)
      (pss_one (ps_if (pt_val (pe_callB call_isi (by rfl) T.m_isinstance (by decide +kernel) (pa_cons (pv 4) (pa_cons (pe_bltn (v := .ty "list") (by rfl) T.m_list (by decide +kernel) rfl) pa_nil))))
      (pss_one (ps_expr (pe_bm PySem.F.plainAttrs_list PySem.F.slot_list_append PySem.F.type_list_append mt_append (pv 4) (pa_cons (pe_tup (pa_cons pe_int (pa_cons pe_int pa_nil))) pa_nil))))
      pss_nil))))))
      (pss_one (ps_ret (pe_call (ok_l_like T 4) (hr.mono (by decide)) rfl T.g_l_like T.F_l_like.kp T.b_l_like .nil pass0 (pa_cons (pe_call (ok_l_told T) (hr.mono (by decide)) rfl T.g_l_told T.F_l_told.kp T.b_l_told .nil pass0 (pa_cons (pe_callTy call_list_of (by rfl) T.m_list (by decide +kernel) (pa_cons (pe_ix ix_list (pv 1) pe_int (fun _ _ => rfl)) pa_nil)) pa_nil)) (pa_cons (pe_call (ok_l_due T) (hr.mono (by decide)) rfl T.g_l_due T.F_l_due.kp T.b_l_due .nil pass0 (pa_cons (pe_ix ix_list (pv 1) pe_int (fun _ _ => rfl)) pa_nil)) pa_nil))))))), ?_⟩
    refine ⟨_, rfl, a, ns, 0, rfl, hS, by decide, _, _, rfl, by decide, by decide, fun xs p1 H1 n1 k1 q1 l1 b1 => ?_⟩
    refine ⟨_, rfl, a, ns, 1, rfl, k1.sqL hS, by decide, _, _, rfl, by decide, by decide, fun ys p2 H2 n2 k2 q2 l2 b2 => ?_⟩
    refine ⟨szl (by show 2 ≤ 100000; decide), fun p3 n3 => ?_⟩
    generalize h_H3 : upd H2 p3 _ = H3
    have k_H3 : Kp H2 H3 := by rw [← h_H3]; exact .new n3
    have q_H3 := (congrFun h_H3 p3).symm.trans upd_same
    clear h_H3
    have r1 : H3 p1 = some (.lst (xs.map V.int)) := k_H3.same _ _ rfl (k2.same _ _ rfl q1)
    have r2 : H3 p2 = some (.lst (ys.map V.int)) := k_H3.same _ _ rfl q2
    refine ⟨_, rfl, p3, _, _, _, rfl, rfl, .inl (.inl q_H3), rfl, _, rfl, p3, _, _, _, rfl, rfl, .inl (.inl q_H3), rfl, _, rfl, p3, _, _, _, rfl, rfl, .inl (.inl q_H3), rfl, szl (by show 3 ≤ 100000; decide), fun p4 n4 => ?_⟩
    generalize h_H4 : upd H3 p4 _ = H4
    have k_H4 : Kp H3 H4 := by rw [← h_H4]; exact .new n4
    have q_H4 := (congrFun h_H4 p4).symm.trans upd_same
    clear h_H4
    have s1 := k_H4.same _ _ rfl r1
    have s2 := k_H4.same _ _ rfl r2
    have s3 := k_H4.same _ _ rfl q_H3
    refine ⟨p4, rfl, ⟨_, .inl (.inl q_H4)⟩, for_list (K := K) (a := p4) (xs := [V.ref p1, V.ref p2, V.ref p1]) (fun i σ H' => ∃ (y1 y2 y3 : Option V), σ = [some (.ref a), some (.ref p3), y1, y2, y3] ∧ Kp H4 H')
      ⟨none, none, none, rfl, .refl _⟩ (fun i σ H' _ ⟨_, _, _, _, kp⟩ => kp.sqL (.inl (.inl q_H4))) ?_ ?_⟩
    · rintro i x σ H' hi ⟨y1, y2, y3, rfl, kp⟩
      obtain ⟨p, zs, rfl, hp, hz⟩ : ∃ (p : Addr) (zs : List Int), x = .ref p ∧ H4 p = some (.lst (zs.map V.int)) ∧ zs.length ≤ 60 := by
        have hm := List.mem_of_getElem? hi
        simp only [List.mem_cons, List.not_mem_nil, or_false] at hm
        rcases hm with rfl | rfl | rfl
        · exact ⟨p1, xs, rfl, s1, l1⟩
        · exact ⟨p2, ys, rfl, s2, l2⟩
        · exact ⟨p1, xs, rfl, s1, l1⟩
      have hp' := kp.same _ _ rfl hp
      refine ⟨_, rfl, p, _, rfl, .inl (.inl (.inl hp')), fun ph nh => ?_⟩
      generalize h_H5 : upd H' ph _ = H5
      have k_H5 : Kp H' H5 := by rw [← h_H5]; exact .new nh
      have q_H5 := (congrFun h_H5 ph).symm.trans upd_same
      clear h_H5
      refine ⟨_, rfl, ph, zs, rfl, .inl (.inl q_H5), by omega, fun v H6 k6 d6 f6 g6 => ?_⟩
      have k46 := (kp.trans k_H5).trans k6
      refine ⟨_, rfl, _, rfl, p, zs, rfl, .inl (.inl (k46.same _ _ rfl hp)), by omega, fun u H7 k7 d7 => ?_⟩
      refine ⟨_, _, _, rfl, k7.dp d6, d7, dn_res (by omega), fun H8 k8 => ⟨_, rfl, iteFo rfl ?_⟩⟩
      have k58 := (k6.trans k7).trans k8
      refine ⟨_, rfl, _, rfl, dI zs, dI zs, dp_dI (.inl (.inl (k58.same _ _ rfl q_H5))), dp_dI (.inl (.inl (((k46.trans k7).trans k8).same _ _ rfl hp))), shaped_ints zs, shaped_ints zs, _, rfl, iteFo (by rw [eqv_ints]; rfl) ?_⟩
      have k78 := k7.trans k8
      have d8 := k78.dp d6
      have kN := k46.trans k78
      have td := ty_of d8
      cases e : strikes zs with
      | inl i =>
        rw [e] at td
        refine ⟨_, rfl, _, _, _, _, false, rfl, .ty _, td, kit_ty k_tl, _, rfl, iteFo rfl ?_⟩
        exact ⟨_, _, _, rfl, kN⟩
      | inr ps =>
        rw [e] at td d8 d6
        refine ⟨_, rfl, _, _, _, _, true, rfl, .ty _, td, kit_ty k_ll, _, rfl, iteTo rfl ?_⟩
        obtain ⟨p9, ws, rfl, h9, hl9⟩ := g6 ps e
        have h9' := k78.same _ _ rfl h9
        refine ⟨_, rfl, .inl ⟨rfl, _, SqL.of h9'⟩, szl (by show 2 ≤ 100000; decide), fun u9 nu9 => ?_⟩
        generalize h_H9 : upd H8 u9 _ = H9
        have k_H9 : Kp H8 H9 := by rw [← h_H9]; exact .new nu9
        have q_H9 := (congrFun h_H9 u9).symm.trans upd_same
        clear h_H9
        refine ⟨p9, _, _, rfl, rfl, k_H9.same _ _ rfl h9', szt (by omega), ?_⟩
        exact ⟨_, _, _, rfl, (kN.trans k_H9).mut ((kp.trans k_H5).free _ (f6 p9 rfl))⟩
    · rintro σ H' ⟨y1, y2, y3, rfl, kp⟩
      refine ⟨_, rfl, p3, _, _, _, rfl, rfl, .inl (.inl (kp.same _ _ rfl s3)), rfl, p1, _, rfl, .inl (.inl (.inl (kp.same _ _ rfl s1))), fun ph nh => ?_⟩
      generalize h_H5 : upd H' ph _ = H5
      have k_H5 : Kp H' H5 := by rw [← h_H5]; exact .new nh
      have q_H5 := (congrFun h_H5 ph).symm.trans upd_same
      clear h_H5
      refine ⟨ph, xs, rfl, .inl (.inl q_H5), by omega, fun v H6 k6 d6 f6 g6 => ?_⟩
      have k46 := (kp.trans k_H5).trans k6
      refine ⟨_, rfl, p3, _, _, _, rfl, rfl, .inl (.inl (k46.same _ _ rfl s3)), rfl, p1, xs, rfl, .inl (.inl (k46.same _ _ rfl s1)), by omega, fun u H7 k7 d7 => ?_⟩
      exact ⟨_, _, _, rfl, k7.dp d6, d7, dn_res (by omega), fun H8 k8 => k _⟩
end
theorem all_mk {l : PySem.W.OpenLaw} {w : World} {K : PySem.W.Frag} {h : Heap} {mg : Str → Option Value} {fa : Addr} (X : K.In h) (G : h.Ns mainGlobals mg) (hfa : mg "law" = some (.ref fa))
    {C_MastError : Addr}
    {C_BadSigns : Addr}
    {nm_BadSigns q_BadSigns : Str} {N_BadSigns : Addr} {bs_BadSigns : List Value} {sn_BadSigns : List Str} {sub_BadSigns : List Value} {ab_BadSigns : Bool} {col_BadSigns : Option Bool} {dd_BadSigns : Option Addr} {m0_BadSigns m1_BadSigns m2_BadSigns m3_BadSigns m5_BadSigns : Option Value}
    {f_iBadSigns : Addr} {od_iBadSigns an_iBadSigns : Option Addr} {sl_iBadSigns : Array (Option Value)} {oc_iBadSigns kV_iBadSigns dc_iBadSigns pm_iBadSigns cd_iBadSigns ct_iBadSigns : Value}
    {f1 : Addr} {od1 an1 : Option Addr} {sl1 : Array (Option Value)} {oc1 kV1 dc1 pm1 cd1 ct1 : Value}
    {f2 : Addr} {od2 an2 : Option Addr} {sl2 : Array (Option Value)} {oc2 kV2 dc2 pm2 cd2 ct2 : Value}
    {f3 : Addr} {od3 an3 : Option Addr} {sl3 : Array (Option Value)} {oc3 kV3 dc3 pm3 cd3 ct3 : Value}
    {f4 : Addr} {od4 an4 : Option Addr} {sl4 : Array (Option Value)} {oc4 kV4 dc4 pm4 cd4 ct4 : Value}
    {f5 : Addr} {od5 an5 : Option Addr} {sl5 : Array (Option Value)} {oc5 kV5 dc5 pm5 cd5 ct5 : Value}
    {f6 : Addr} {od6 an6 : Option Addr} {sl6 : Array (Option Value)} {oc6 kV6 dc6 pm6 cd6 ct6 : Value}
    {f7 : Addr} {od7 an7 : Option Addr} {sl7 : Array (Option Value)} {oc7 kV7 dc7 pm7 cd7 ct7 : Value}
    {f8 : Addr} {od8 an8 : Option Addr} {sl8 : Array (Option Value)} {oc8 kV8 dc8 pm8 cd8 ct8 : Value}
    {tk_STRIKE : Tok}
    (e_MastError : PySem.W.nsIn K mainGlobals "MastError" = some (some (.ref C_MastError)))
    (x_MastError : PySem.W.excIn K C_MastError [.type "ValueError", .type "Exception", .type "BaseException", .type "object"] "ValueError.__new__" = true)
    (k_MastError : PySem.W.keepIn K (.ref C_MastError) = true)
    (b_MastError : PySem.W.subIn K (.ref C_MastError) (.type "BaseException") = some true)
    (t_MastError : PySem.W.typeIn K (.ref C_MastError) = some (.type "type"))
    (i_MastError : PySem.W.isClsIn K C_MastError = true)
    (h_MastError : PySem.W.hasDictIn K C_MastError = true)
    (ga_MastError : PySem.W.findIn K (.ref C_MastError) "__getattribute__" = some (some (.builtin "BaseException.__getattribute__")))
    (gg_MastError : PySem.W.findIn K (.ref C_MastError) "__getattr__" = some none)
    (cl_MastError : PySem.W.findIn K (.ref C_MastError) "__class__" = some (some (.builtin "object.__class__")))
    (mo_MastError : PySem.W.mroIn K C_MastError (.type "object") = some true)
    (v_MastError : PySem.W.subIn K (.ref C_MastError) (.type "ValueError") = some true)
    (e_BadSigns : PySem.W.nsIn K mainGlobals "BadSigns" = some (some (.ref C_BadSigns)))
    (k_BadSigns : PySem.W.keepIn K (.ref C_BadSigns) = true)
    (b_BadSigns : PySem.W.subIn K (.ref C_BadSigns) (.type "BaseException") = some true)
    (t_BadSigns : PySem.W.typeIn K (.ref C_BadSigns) = some (.type "type"))
    (i_BadSigns : PySem.W.isClsIn K C_BadSigns = true)
    (h_BadSigns : PySem.W.hasDictIn K C_BadSigns = true)
    (ga_BadSigns : PySem.W.findIn K (.ref C_BadSigns) "__getattribute__" = some (some (.builtin "BaseException.__getattribute__")))
    (gg_BadSigns : PySem.W.findIn K (.ref C_BadSigns) "__getattr__" = some none)
    (cl_BadSigns : PySem.W.findIn K (.ref C_BadSigns) "__class__" = some (some (.builtin "object.__class__")))
    (mo_BadSigns : PySem.W.mroIn K C_BadSigns (.type "object") = some true)
    (v_BadSigns : PySem.W.subIn K (.ref C_BadSigns) (.type "ValueError") = some true)
    (xl_BadSigns : K.lookup C_BadSigns = some (excClassObj nm_BadSigns q_BadSigns C_BadSigns N_BadSigns bs_BadSigns [.ref C_MastError, .type "ValueError", .type "Exception", .type "BaseException", .type "object"] true sn_BadSigns sub_BadSigns ab_BadSigns col_BadSigns dd_BadSigns m0_BadSigns m1_BadSigns m2_BadSigns m3_BadSigns m5_BadSigns "ValueError.__new__"))
    (sa_BadSigns : PySem.W.findIn K (.ref C_BadSigns) "__setattr__" = some (some (.builtin "object.__setattr__")))
    (ia_BadSigns : PySem.W.findIn K (.ref C_BadSigns) "__init__" = some (some (.ref f_iBadSigns)))
    (it_BadSigns : PySem.W.typeIn K (.ref f_iBadSigns) = some (.type "function"))
    (il_BadSigns : K.lookup f_iBadSigns = some ⟨oc_iBadSigns, od_iBadSigns, .func (PySem.W.fnOf "__init__" "BadSigns.__init__" (defArgs s_p_BadSigns_init) (defBody s_p_BadSigns_init) (defScope s_p_BadSigns_init) .none kV_iBadSigns dc_iBadSigns pm_iBadSigns an_iBadSigns cd_iBadSigns ct_iBadSigns), sl_iBadSigns⟩)
    (ik_BadSigns : PySem.W.codeIn K cd_iBadSigns "BadSigns.__init__" = true)
    (ikp_BadSigns : PySem.W.keepIn K (.ref f_iBadSigns) = true)
    (nf_BadSigns_at : PySem.W.findIn K (.ref C_BadSigns) "at" = some none)
    (s_MastError_MastError : PySem.W.subIn K (.ref C_MastError) (.ref C_MastError) = some true)
    (s_BadSigns_MastError : PySem.W.subIn K (.ref C_BadSigns) (.ref C_MastError) = some true)
    (s_BadSigns_BadSigns : PySem.W.subIn K (.ref C_BadSigns) (.ref C_BadSigns) = some true)
    (a1 : PySem.W.nsIn K mainGlobals "standing" = some (some (.ref f1)))
    (l1 : K.lookup f1 = some ⟨oc1, od1, .func (PySem.W.fnOf "standing" "standing" (defArgs s_p_standing) (defBody s_p_standing) (defScope s_p_standing) .none kV1 dc1 pm1 an1 cd1 ct1), sl1⟩)
    (c1 : PySem.W.codeIn K cd1 "standing" = true)
    (k1 : PySem.W.keepIn K (.ref f1) = true)
    (a2 : PySem.W.nsIn K mainGlobals "_law_cell" = some (some (.ref f2)))
    (l2 : K.lookup f2 = some ⟨oc2, od2, .func (PySem.W.fnOf "_law_cell" "_law_cell" (defArgs s_l_cell) (defBody s_l_cell) (defScope s_l_cell) .none kV2 dc2 pm2 an2 cd2 ct2), sl2⟩)
    (c2 : PySem.W.codeIn K cd2 "_law_cell" = true)
    (k2 : PySem.W.keepIn K (.ref f2) = true)
    (a3 : PySem.W.nsIn K mainGlobals "_law_row" = some (some (.ref f3)))
    (l3 : K.lookup f3 = some ⟨oc3, od3, .func (PySem.W.fnOf "_law_row" "_law_row" (defArgs s_l_row) (defBody s_l_row) (defScope s_l_row) .none kV3 dc3 pm3 an3 cd3 ct3), sl3⟩)
    (c3 : PySem.W.codeIn K cd3 "_law_row" = true)
    (k3 : PySem.W.keepIn K (.ref f3) = true)
    (a4 : PySem.W.nsIn K mainGlobals "_law_like" = some (some (.ref f4)))
    (l4 : K.lookup f4 = some ⟨oc4, od4, .func (PySem.W.fnOf "_law_like" "_law_like" (defArgs s_l_like) (defBody s_l_like) (defScope s_l_like) .none kV4 dc4 pm4 an4 cd4 ct4), sl4⟩)
    (c4 : PySem.W.codeIn K cd4 "_law_like" = true)
    (k4 : PySem.W.keepIn K (.ref f4) = true)
    (a5 : PySem.W.nsIn K mainGlobals "_law_signs" = some (some (.ref f5)))
    (l5 : K.lookup f5 = some ⟨oc5, od5, .func (PySem.W.fnOf "_law_signs" "_law_signs" (defArgs s_l_signs) (defBody s_l_signs) (defScope s_l_signs) .none kV5 dc5 pm5 an5 cd5 ct5), sl5⟩)
    (c5 : PySem.W.codeIn K cd5 "_law_signs" = true)
    (k5 : PySem.W.keepIn K (.ref f5) = true)
    (a6 : PySem.W.nsIn K mainGlobals "_law_due" = some (some (.ref f6)))
    (l6 : K.lookup f6 = some ⟨oc6, od6, .func (PySem.W.fnOf "_law_due" "_law_due" (defArgs s_l_due) (defBody s_l_due) (defScope s_l_due) .none kV6 dc6 pm6 an6 cd6 ct6), sl6⟩)
    (c6 : PySem.W.codeIn K cd6 "_law_due" = true)
    (k6 : PySem.W.keepIn K (.ref f6) = true)
    (a7 : PySem.W.nsIn K mainGlobals "_law_told" = some (some (.ref f7)))
    (l7 : K.lookup f7 = some ⟨oc7, od7, .func (PySem.W.fnOf "_law_told" "_law_told" (defArgs s_l_told) (defBody s_l_told) (defScope s_l_told) .none kV7 dc7 pm7 an7 cd7 ct7), sl7⟩)
    (c7 : PySem.W.codeIn K cd7 "_law_told" = true)
    (k7 : PySem.W.keepIn K (.ref f7) = true)
    (a8 : PySem.W.nsIn K mainGlobals "law" = some (some (.ref f8)))
    (l8 : K.lookup f8 = some ⟨oc8, od8, .func (PySem.W.fnOf "law" "law" (defArgs s_law) (defBody s_law) (defScope s_law) .none kV8 dc8 pm8 an8 cd8 ct8), sl8⟩)
    (c8 : PySem.W.codeIn K cd8 "law" = true)
    (k8 : PySem.W.keepIn K (.ref f8) = true)
    (q_STRIKE : PySem.W.nsIn K mainGlobals "STRIKE" = some (some (.int 68 tk_STRIKE)))
    (z_enumerate : PySem.W.nsIn K mainGlobals "enumerate" = some none)
    (z_len : PySem.W.nsIn K mainGlobals "len" = some none)
    (z_range : PySem.W.nsIn K mainGlobals "range" = some none)
    (z_isinstance : PySem.W.nsIn K mainGlobals "isinstance" = some none)
    (z_bool : PySem.W.nsIn K mainGlobals "bool" = some none)
    (z_int : PySem.W.nsIn K mainGlobals "int" = some none)
    (z_str : PySem.W.nsIn K mainGlobals "str" = some none)
    (z_all : PySem.W.nsIn K mainGlobals "all" = some none)
    (z_list : PySem.W.nsIn K mainGlobals "list" = some none)
    (z_tuple : PySem.W.nsIn K mainGlobals "tuple" = some none)
    (z_ValueError : PySem.W.nsIn K mainGlobals "ValueError" = some none)
    (oc_get : PySem.W.specialIn K (.builtin "object.__class__") "__get__" = some (some (.builtin "getset_descriptor.__get__")))
    (oc_tak : PySem.W.takesIn K (.builtin "object.__class__") = some true) :
    ∃ fd : FuncData, (∀ (s : Shared) (v : Value), BindsTo s fd ⟨[v], []⟩ [("_law_script", v)]) ∧ ∀ base : Heap, K.In base → base.Ns mainGlobals mg → FnOk l.prog w K mg base CX0 8 fa fd ["_law_script"] (sp_law K) := by
  have e := hfa.symm.trans (PySem.W.mg_of X G a8)
  cases e
  have T : Txt K mg :=
    { a_MastError := C_MastError,
      g_MastError := PySem.W.mg_of X G e_MastError,
      x_MastError := x_MastError,
      k_MastError := k_MastError,
      b_MastError := b_MastError,
      t_MastError := t_MastError,
      i_MastError := i_MastError,
      h_MastError := h_MastError,
      ga_MastError := ga_MastError,
      gg_MastError := gg_MastError,
      cl_MastError := cl_MastError,
      mo_MastError := mo_MastError,
      v_MastError := v_MastError,
      a_BadSigns := C_BadSigns,
      g_BadSigns := PySem.W.mg_of X G e_BadSigns,
      k_BadSigns := k_BadSigns,
      b_BadSigns := b_BadSigns,
      t_BadSigns := t_BadSigns,
      i_BadSigns := i_BadSigns,
      h_BadSigns := h_BadSigns,
      ga_BadSigns := ga_BadSigns,
      gg_BadSigns := gg_BadSigns,
      cl_BadSigns := cl_BadSigns,
      mo_BadSigns := mo_BadSigns,
      v_BadSigns := v_BadSigns,
      ox_BadSigns := ⟨⟨_, _, _, _, _, _, _, _, _, _, _, _, _, _, _, xl_BadSigns, rfl⟩, sa_BadSigns, b_BadSigns, t_BadSigns, k_BadSigns⟩,
      f_p_BadSigns_init := f_iBadSigns,
      d_p_BadSigns_init := _,
      F_p_BadSigns_init := fun_mk (st := s_p_BadSigns_init) il_BadSigns ik_BadSigns ikp_BadSigns,
      b_p_BadSigns_init := (fun_mk (st := s_p_BadSigns_init) il_BadSigns ik_BadSigns ikp_BadSigns).binds (ps := ["self", "at"]) fun _ _ _ _ _ _ us hl => match us, hl with | [_, _], _ => rfl,
      ic_BadSigns := ia_BadSigns,
      ti_BadSigns := it_BadSigns,
      nf_BadSigns_at := nf_BadSigns_at,
      s_MastError_MastError := s_MastError_MastError,
      s_BadSigns_MastError := s_BadSigns_MastError,
      s_BadSigns_BadSigns := s_BadSigns_BadSigns,
      f_p_standing := f1,
      d_p_standing := _,
      F_p_standing := fun_mk (st := s_p_standing) l1 c1 k1,
      b_p_standing := (fun_mk (st := s_p_standing) l1 c1 k1).binds (ps := ["signs"]) fun _ _ _ _ _ _ us hl => match us, hl with | [_], _ => rfl,
      g_p_standing := PySem.W.mg_of X G a1,
      f_l_cell := f2,
      d_l_cell := _,
      F_l_cell := fun_mk (st := s_l_cell) l2 c2 k2,
      b_l_cell := (fun_mk (st := s_l_cell) l2 c2 k2).binds (ps := ["_law_script", "_law_at"]) fun _ _ _ _ _ _ us hl => match us, hl with | [_, _], _ => rfl,
      g_l_cell := PySem.W.mg_of X G a2,
      f_l_row := f3,
      d_l_row := _,
      F_l_row := fun_mk (st := s_l_row) l3 c3 k3,
      b_l_row := (fun_mk (st := s_l_row) l3 c3 k3).binds (ps := ["_law_cell_here", "_law_many", "_law_size"]) fun _ _ _ _ _ _ us hl => match us, hl with | [_, _, _], _ => rfl,
      g_l_row := PySem.W.mg_of X G a3,
      f_l_like := f4,
      d_l_like := _,
      F_l_like := fun_mk (st := s_l_like) l4 c4 k4,
      b_l_like := (fun_mk (st := s_l_like) l4 c4 k4).binds (ps := ["_law_found", "_law_due_here"]) fun _ _ _ _ _ _ us hl => match us, hl with | [_, _], _ => rfl,
      g_l_like := PySem.W.mg_of X G a4,
      f_l_signs := f5,
      d_l_signs := _,
      F_l_signs := fun_mk (st := s_l_signs) l5 c5 k5,
      b_l_signs := (fun_mk (st := s_l_signs) l5 c5 k5).binds (ps := ["_law_cell_here", "_law_most"]) fun _ _ _ _ _ _ us hl => match us, hl with | [_, _], _ => rfl,
      g_l_signs := PySem.W.mg_of X G a5,
      f_l_due := f6,
      d_l_due := _,
      F_l_due := fun_mk (st := s_l_due) l6 c6 k6,
      b_l_due := (fun_mk (st := s_l_due) l6 c6 k6).binds (ps := ["_law_signs_here"]) fun _ _ _ _ _ _ us hl => match us, hl with | [_], _ => rfl,
      g_l_due := PySem.W.mg_of X G a6,
      f_l_told := f7,
      d_l_told := _,
      F_l_told := fun_mk (st := s_l_told) l7 c7 k7,
      b_l_told := (fun_mk (st := s_l_told) l7 c7 k7).binds (ps := ["_law_signs_here"]) fun _ _ _ _ _ _ us hl => match us, hl with | [_], _ => rfl,
      g_l_told := PySem.W.mg_of X G a7,
      u_STRIKE := _,
      c_STRIKE := PySem.W.mg_of X G q_STRIKE,
      r_STRIKE := ⟨_, rfl⟩,
      m_enumerate := PySem.W.mg_none_of X G z_enumerate,
      m_len := PySem.W.mg_none_of X G z_len,
      m_range := PySem.W.mg_none_of X G z_range,
      m_isinstance := PySem.W.mg_none_of X G z_isinstance,
      m_bool := PySem.W.mg_none_of X G z_bool,
      m_int := PySem.W.mg_none_of X G z_int,
      m_str := PySem.W.mg_none_of X G z_str,
      m_all := PySem.W.mg_none_of X G z_all,
      m_list := PySem.W.mg_none_of X G z_list,
      m_tuple := PySem.W.mg_none_of X G z_tuple,
      m_ValueError := PySem.W.mg_none_of X G z_ValueError,
      oc_get := oc_get,
      oc_tak := oc_tak }
  exact ⟨PySem.W.fnOf "law" "law" (defArgs s_law) (defBody s_law) (defScope s_law) .none kV8 dc8 pm8 an8 cd8 ct8, fun s v => .of_eq rfl, fun base _ _ => ok_law T (fun_mk (st := s_law) l8 c8 k8)⟩
end Mw
open PySem PySem.W PyProof.Rows
set_option maxRecDepth 100000 in
set_option maxHeartbeats 0 in
theorem PySem.Challenge.cw_mastword_k03_signs_struck_holds : PySem.Challenge.rw_mastword_k03_signs_struck.Holds := by
  w_on; o_law; k_head; (case hw => w_witness2)
  k_fill
  refine L2.walk_of (l := PySem.Challenge.rw_mastword_k03_signs_struck) (n := 63) (k := 8) (x := "_law_script") (CX := fun _ => L2.CX0) (sp := fun w => Mw.sp_law _) rfl (by decide) rfl ⟨rfl, by decide, by decide⟩ (fun w h Y => PySem.W.kIn_of Y) ?F (fun _ _ a ns hl _ hS => ⟨a, ns, rfl, hS, hl, fun _ => rfl⟩) (fun _ _ _ _ _ h => h)
  case F =>
    intro w mg fa h KX G hmg
    refine' Mw.all_mk KX G hmg ?e_MastError ?x_MastError ?k_MastError ?b_MastError ?t_MastError ?i_MastError ?h_MastError ?ga_MastError ?gg_MastError ?cl_MastError ?mo_MastError ?v_MastError ?e_BadSigns ?k_BadSigns ?b_BadSigns ?t_BadSigns ?i_BadSigns ?h_BadSigns ?ga_BadSigns ?gg_BadSigns ?cl_BadSigns ?mo_BadSigns ?v_BadSigns ?xl_BadSigns ?sa_BadSigns ?ia_BadSigns ?it_BadSigns ?il_BadSigns ?ik_BadSigns ?ikp_BadSigns ?nf_BadSigns_at ?s_MastError_MastError ?s_BadSigns_MastError ?s_BadSigns_BadSigns ?a1 ?l1 ?c1 ?k1 ?a2 ?l2 ?c2 ?k2 ?a3 ?l3 ?c3 ?k3 ?a4 ?l4 ?c4 ?k4 ?a5 ?l5 ?c5 ?k5 ?a6 ?l6 ?c6 ?k6 ?a7 ?l7 ?c7 ?k7 ?a8 ?l8 ?c8 ?k8 ?q_STRIKE ?z_enumerate ?z_len ?z_range ?z_isinstance ?z_bool ?z_int ?z_str ?z_all ?z_list ?z_tuple ?z_ValueError ?oc_get ?oc_tak
    (case e_MastError => k_is)
    (case x_MastError => k_exc)
    (case k_MastError => k_is)
    (case b_MastError => k_is)
    (case t_MastError => k_is)
    (case i_MastError => k_is)
    (case h_MastError => k_is)
    (case ga_MastError => k_is)
    (case gg_MastError => k_is)
    (case cl_MastError => k_is)
    (case mo_MastError => k_is)
    (case v_MastError => k_is)
    (case e_BadSigns => k_is)
    (case k_BadSigns => k_is)
    (case b_BadSigns => k_is)
    (case t_BadSigns => k_is)
    (case i_BadSigns => k_is)
    (case h_BadSigns => k_is)
    (case ga_BadSigns => k_is)
    (case gg_BadSigns => k_is)
    (case cl_BadSigns => k_is)
    (case mo_BadSigns => k_is)
    (case v_BadSigns => k_is)
    (case xl_BadSigns => k_is)
    (case sa_BadSigns => k_is)
    (case ia_BadSigns => k_is)
    (case it_BadSigns => k_is)
    (case il_BadSigns => k_is)
    (case ik_BadSigns => k_is)
    (case ikp_BadSigns => k_is)
    (case nf_BadSigns_at => k_is)
    (case s_MastError_MastError => (first | rfl | k_is))
    (case s_BadSigns_MastError => (first | rfl | k_is))
    (case s_BadSigns_BadSigns => (first | rfl | k_is))
    (case a1 => k_is)
    (case l1 => k_is)
    (case c1 => k_is)
    (case k1 => k_is)
    (case a2 => k_is)
    (case l2 => k_is)
    (case c2 => k_is)
    (case k2 => k_is)
    (case a3 => k_is)
    (case l3 => k_is)
    (case c3 => k_is)
    (case k3 => k_is)
    (case a4 => k_is)
    (case l4 => k_is)
    (case c4 => k_is)
    (case k4 => k_is)
    (case a5 => k_is)
    (case l5 => k_is)
    (case c5 => k_is)
    (case k5 => k_is)
    (case a6 => k_is)
    (case l6 => k_is)
    (case c6 => k_is)
    (case k6 => k_is)
    (case a7 => k_is)
    (case l7 => k_is)
    (case c7 => k_is)
    (case k7 => k_is)
    (case a8 => k_is)
    (case l8 => k_is)
    (case c8 => k_is)
    (case k8 => k_is)
    (case q_STRIKE => k_is)
    (case z_enumerate => k_is)
    (case z_len => k_is)
    (case z_range => k_is)
    (case z_isinstance => k_is)
    (case z_bool => k_is)
    (case z_int => k_is)
    (case z_str => k_is)
    (case z_all => k_is)
    (case z_list => k_is)
    (case z_tuple => k_is)
    (case z_ValueError => k_is)
    (case oc_get => k_is)
    (case oc_tak => k_is)
