import PyProof.Rows.All
import Wide.All
import OpenK.AllK
import Wide.FinOn
import HandS.ForMost
import HandS.ForExc
import HandS.AnyAll
import HandS.EndTab
import HandS.ExcIs
import HandS.ExcField
import HandS.ExcInit
import HandS.IsInst
import HandS.Conv
import HandS.Replace
import HandS.Flow
import HandS.Walk
import HandS.Evl
import KE.KExcIs
import HandS.EndOwn
import HandS.CallRecv
import HandS.Flt
import HandS.SortKw
import KE.DataMinMax
import HandS.Small
import PySem.Challenge.RW_mastword_k17_beats_of_a_plan
set_option Elab.async false
set_option linter.all false
set_option maxRecDepth 100000
set_option maxHeartbeats 2000000
namespace Mw
open PySem PySem.Spec PyProof.Rows L2
/-! ### what is kept: every tracked thing but the tables of code objects, which stay tables -/
def isT : HO → Bool
  | .tbl _ => true
  | _ => false
structure Kp (H H' : Hp) : Prop where
  same : ∀ a o, isT o = false → H a = some o → H' a = some o
  tab : ∀ a, GxR.TabG H a → GxR.TabG H' a
  free : ∀ a, H' a = none → H a = none
theorem Kp.refl (H : Hp) : Kp H H := ⟨fun _ _ _ h => h, fun _ h => h, fun _ h => h⟩
theorem Kp.trans {H H1 H2 : Hp} (a : Kp H H1) (b : Kp H1 H2) : Kp H H2 :=
  ⟨fun x o t h => b.same x o t (a.same x o t h), fun x h => b.tab x (a.tab x h), fun x h => a.free x (b.free x h)⟩
theorem Kp.mut {H H' : Hp} {p : Addr} {o : HO} (e : Kp H H') (h : H p = none) : Kp H (upd H' p o) := by
  refine ⟨fun a u t ha => ?_, fun a ⟨ps, ha, ht⟩ => ?_, fun a ha => ?_⟩
  · rw [upd_ne (ne_of_none ha h)]
    exact e.same a u t ha
  · obtain ⟨ps', h1, h2⟩ := e.tab a ⟨ps, ha, ht⟩
    exact ⟨ps', by rw [upd_ne (ne_of_none ha h)]; exact h1, h2⟩
  · by_cases q : a = p
    · rw [q]
      exact h
    · rw [upd_ne q] at ha
      exact e.free a ha
theorem Kp.new {H : Hp} {p : Addr} {o : HO} (h : H p = none) : Kp H (upd H p o) := (Kp.refl H).mut h
theorem Kp.rd {H H' : Hp} {a : Addr} {u : HO} (e : Kp H H') (t : isT u = false) (h : Rd H a u) : Rd H' a u := by
  rcases h with h | ⟨o, h⟩
  · exact Or.inl (e.same a _ t h)
  · exact Or.inr ⟨o, e.same a _ rfl h⟩
theorem Kp.sqL {K : PySem.W.Frag} {H H' : Hp} {a : Addr} {xs : List V} (e : Kp H H') (h : SqL K H a xs) : SqL K H' a xs := by
  rcases h with h | h
  · exact Or.inl (e.rd rfl h)
  · exact Or.inr h
theorem Kp.sqT {K : PySem.W.Frag} {H H' : Hp} {a : Addr} {xs : List V} (e : Kp H H') (h : SqT K H a xs) : SqT K H' a xs := by
  rcases h with h | h
  · exact Or.inl (e.rd rfl h)
  · exact Or.inr h
mutual
theorem Kp.dp {K : PySem.W.Frag} {H H' : Hp} (e : Kp H H') : ∀ {d : PyData} {v : V}, Dp K H v d → Dp K H' v d
  | _, _, .non => .non
  | _, _, .bl b => .bl b
  | _, _, .int i => .int i
  | _, _, .str x => .str x
  | _, _, .lst h a => .lst (e.sqL h) (Kp.dpAll e a)
  | _, _, .tup h a => .tup (e.sqT h) (Kp.dpAll e a)
theorem Kp.dpAll {K : PySem.W.Frag} {H H' : Hp} (e : Kp H H') : ∀ {ds : List PyData} {vs : List V}, DpAll K H vs ds → DpAll K H' vs ds
  | _, _, .nil => .nil
  | _, _, .cons h t => .cons (Kp.dp e h) (Kp.dpAll e t)
end
theorem DpAll.len {K : PySem.W.Frag} {H : Hp} : ∀ {vs : List V} {ds : List PyData}, DpAll K H vs ds → vs.length = ds.length
  | _, _, .nil => rfl
  | _, _, .cons _ t => congrArg (· + 1) (DpAll.len t)
theorem DpAll.get {K : PySem.W.Frag} {H : Hp} : ∀ {vs : List V} {ds : List PyData} {i : Nat} {d : PyData}, DpAll K H vs ds → ds[i]? = some d → ∃ v, vs[i]? = some v ∧ Dp K H v d
  | _, _, i, d, .nil, h => by simp at h
  | _, _, 0, d, .cons a _, h => by
    have e := Option.some.inj h
    subst e
    exact ⟨_, rfl, a⟩
  | _, _, i + 1, d, .cons _ t, h => DpAll.get (i := i) t h
theorem DpAll.app {K : PySem.W.Frag} {H : Hp} : ∀ {vs ws : List V} {ds es : List PyData}, DpAll K H vs ds → DpAll K H ws es → DpAll K H (vs ++ ws) (ds ++ es)
  | _, _, _, _, .nil, b => b
  | _, _, _, _, .cons a t, b => .cons a (DpAll.app t b)
/-- data without lists -/
inductive Nl : PyData → Prop
  | non : Nl .none
  | bl (b : Bool) : Nl (.bool b)
  | int (i : Int) : Nl (.int i)
  | str (x : Str) : Nl (.str x)
  | tup {ds : List PyData} : (∀ d ∈ ds, Nl d) → Nl (.tuple ds)
/-! a list may change: what has no list in it stays -/
mutual
theorem Dp.mut {K : PySem.W.Frag} {H : Hp} {p : Addr} {o : HO} {zs : List V} (hp : H p = some (.lst zs)) : ∀ {d : PyData} {v : V}, Nl d → Dp K H v d → Dp K (upd H p o) v d
  | _, _, _, .non => .non
  | _, _, _, .bl b => .bl b
  | _, _, _, .int i => .int i
  | _, _, _, .str x => .str x
  | _, _, n, .lst _ _ => nomatch n
  | _, _, n, .tup h a => by
    cases n with
    | tup n =>
      refine .tup ?_ (DpAll.mut hp n a)
      rcases h with (h | ⟨ob, h⟩) | h
      · exact .inl (.inl (by rw [upd_ne (ne_of h hp (by intro z; cases z))]; exact h))
      · exact .inl (.inr ⟨ob, by rw [upd_ne (ne_of h hp (by intro z; cases z))]; exact h⟩)
      · exact .inr h
theorem DpAll.mut {K : PySem.W.Frag} {H : Hp} {p : Addr} {o : HO} {zs : List V} (hp : H p = some (.lst zs)) : ∀ {ds : List PyData} {vs : List V}, (∀ d ∈ ds, Nl d) → DpAll K H vs ds → DpAll K (upd H p o) vs ds
  | _, _, _, .nil => .nil
  | _, _, n, .cons h t => .cons (Dp.mut hp (n _ List.mem_cons_self) h) (DpAll.mut hp (fun d hd => n d (List.mem_cons_of_mem _ hd)) t)
end
theorem DpAll.snoc {K : PySem.W.Frag} {H : Hp} {vs : List V} {ds : List PyData} {v : V} {d : PyData} (a : DpAll K H vs ds) (h : Dp K H v d) : DpAll K H (vs ++ [v]) (ds ++ [d]) := DpAll.app a (.cons h .nil)
theorem DpAll.dropLast {K : PySem.W.Frag} {H : Hp} : ∀ {vs : List V} {ds : List PyData}, DpAll K H vs ds → DpAll K H vs.dropLast ds.dropLast
  | _, _, .nil => .nil
  | _, _, .cons _ .nil => .nil
  | _, _, .cons h (.cons h2 t) => .cons h (DpAll.dropLast (.cons h2 t))
theorem dp_ints {K : PySem.W.Frag} {H : Hp} : ∀ ns : List Int, DpAll K H (ns.map V.int) (ns.map PyData.int)
  | [] => .nil
  | n :: r => .cons (.int n) (dp_ints r)
theorem dp_strs {K : PySem.W.Frag} {H : Hp} : ∀ ns : List Str, DpAll K H (ns.map V.str) (ns.map PyData.str)
  | [] => .nil
  | n :: r => .cons (.str n) (dp_strs r)
/-- a list of ints, a list of texts as data -/
def dI (ns : List Int) : PyData := .list (ns.map PyData.int)
def dS (ns : List Str) : PyData := .list (ns.map PyData.str)
theorem dp_dI {K : PySem.W.Frag} {H : Hp} {a : Addr} {ns : List Int} (h : SqL K H a (ns.map V.int)) : Dp K H (.ref a) (dI ns) := .lst h (dp_ints ns)
theorem dpAll_ints {K : PySem.W.Frag} {H : Hp} : ∀ {ns : List Int} {vs : List V}, DpAll K H vs (ns.map PyData.int) → vs = ns.map V.int
  | [], _, .nil => rfl
  | n :: r, _, .cons h t => by
    cases h
    rw [dpAll_ints t]
    rfl
theorem dp_of_dI {K : PySem.W.Frag} {H : Hp} {v : V} {ns : List Int} (h : Dp K H v (dI ns)) : ∃ a, v = .ref a ∧ SqL K H a (ns.map V.int) := by
  cases h with
  | lst h t =>
    rw [dpAll_ints t] at h
    exact ⟨_, rfl, h⟩
/-! ### small words -/
theorem at_int {ns : List Int} {j : Nat} (h : j < ns.length) : atI (ns.map V.int) (j : Int) = some (.int ns[j]) := atI_nat (by rw [List.getElem?_map, List.getElem?_eq_getElem h]; rfl)
theorem at_intZ {ns : List Int} {z : Int} (h0 : 0 ≤ z) (h : z.toNat < ns.length) : atI (ns.map V.int) z = some (.int ns[z.toNat]) := by
  have e := at_int h
  rw [Int.toNat_of_nonneg h0] at e
  exact e
theorem szl {n : Nat} (h : n ≤ 100000) : n ≤ sizeLine := Nat.le_trans h (by decide)
theorem szt {n : Nat} (h : n < 100000) : n < sizeLine := Nat.lt_of_lt_of_le h (by decide)
theorem iteB {b : Bool} {A B : Prop} (h1 : b = true → A) (h2 : b = false → B) : if b = true then A else B := by
  cases b with
  | true => rw [if_pos rfl]; exact h1 rfl
  | false => rw [if_neg Bool.false_ne_true]; exact h2 rfl
theorem iteD {c : Prop} [Decidable c] {A B : Prop} (h1 : c → A) (h2 : ¬ c → B) : if decide c = true then A else B :=
  iteB (fun h => h1 (of_decide_eq_true h)) (fun h => h2 (of_decide_eq_false h))
theorem iteN {c : Prop} [Decidable c] {A B : Prop} (h1 : ¬ c → A) (h2 : c → B) : if (!decide c) = true then A else B :=
  iteB (fun h => h1 (fun z => by rw [decide_eq_true z] at h; cases h)) (fun h => h2 (by
    by_cases z : c
    · exact z
    · rw [decide_eq_false z] at h; cases h))
theorem iteTo {b : Bool} {A B : Prop} (e : b = true) (h : A) : if b = true then A else B := by rw [if_pos e]; exact h
theorem iteFo {b : Bool} {A B : Prop} (e : b = false) (h : B) : if b = true then A else B := by rw [e, if_neg Bool.false_ne_true]; exact h
/-! ### rules with the written part by its own name (inside a comprehension) -/
section
variable {X : Cx} (K : PySem.W.Frag)
theorem ix_listK (h : X.K = K) : IxR X (rIxL K) := h ▸ ix_list
theorem ix_tupK (h : X.K = K) : IxR X (rIxT K) := h ▸ ix_tup
theorem ix_seqK (h : X.K = K) : IxR X (rIx K) := h ▸ ix_seq
def rLenSq : List V → Hp → VK → Prop := fun xs H Q => ∃ p ys, xs = [.ref p] ∧ (SqL K H p ys ∨ SqT K H p ys) ∧ Q (.int ys.length) H
theorem call_lenSK (h : X.K = K) : CallR X (.builtin "len") (rLenSq K) := h ▸ call_len_seq
def rLenV : List V → Hp → VK → Prop := fun xs H Q => ∃ x n, xs = [x] ∧ LenV K x H n ∧ Q (.int n) H
theorem call_lenK (h : X.K = K) : CallR X (.builtin "len") (rLenV K) := h ▸ call_len
theorem op_inK (h : X.K = K) : OpR X (compareOp .In) (rIn K false) := h ▸ op_in_seq
theorem op_notInK (h : X.K = K) : OpR X (compareOp .NotIn) (rIn K true) := h ▸ op_notIn_seq
theorem op_eqDK (h : X.K = K) (hu : X.A.units + 64 < cLine) : OpR X (compareOp .Eq) (rEqD K) := h ▸ op_eqD hu
theorem op_neDK (h : X.K = K) (hu : X.A.units + 64 < cLine) : OpR X (compareOp .NotEq) (rNeD K) := h ▸ op_neD hu
theorem call_isiKK (h : X.K = K) : CallR X (.builtin "isinstance") (rIsi K) := h ▸ call_isi
end
section
variable {X : Cx} (K : PySem.W.Frag)
theorem pgK {e : Expr} {n : Nat} {t : TGs} (h : X.K = K) (p : PG X e (gTup X.K n t)) : PG X e (gTup K n t) := h ▸ p
/-- isinstance(e, C), e what the suite has caught (without or with a dict of its own) -/
def rIsX (cls : Value) (d : Option Addr) (a : Addr) : List V → Hp → VK → Prop := fun xs H Q => ∃ (D : Addr) (c : V) (cv : Value) (b : Bool), cls = .ref D ∧ (d = none ∨ ∃ dd fs, d = some dd ∧ H dd = some (.xd fs)) ∧ ExcC K D ∧ xs = [.ref a, c] ∧ ClsV c cv ∧ PySem.W.kitOne K (.ref D) cv = some b ∧ Q (.bl b) H
theorem call_isX {a : Addr} {oe : Obj} {pn : List (Addr × Obj)} {cls : Value} {d : Option Addr} (h : X.K = K) (hz : Zc cls d oe) (hf : ∃ vs, oe.data = .fields vs) : CallR (X.suite a ((a, oe) :: pn)) (.builtin "isinstance") (rIsX K cls d a) := by
  subst h
  intro pins s σ H xs us Q I r h'
  obtain ⟨D, c, cv, b, rfl, hd, C, rfl, hc, hk, q⟩ := h'
  cases r with | cons rx rr =>
  cases rr with | cons rt rr =>
  cases rr
  cases rx
  have ec := hc.eq rt
  subst ec
  obtain ⟨hget, _⟩ := I.pin (a, oe) (List.mem_append_left _ List.mem_cons_self)
  obtain ⟨vs, hv⟩ := hf
  have hcl : (PySem.W.clsIn X.K D).isSome = true := by
    obtain ⟨cd, hc, _⟩ := PySem.W.any_some C.hd
    rw [hc]
    first | rfl | done
  have nc : PySem.W.notCls oe = true := by
    unfold PySem.W.notCls
    rw [hv]
  rcases hd with rfl | ⟨dd, fs, rfl, hdd⟩
  · have J : PySem.W.InstAt s.heap a oe D none := ⟨hget, hz.1, nc, by rw [hz.2]; trivial⟩
    exact PySem.W.kia_one (PySem.W.kitx_exc hcl C.hg C.hk C.hs C.ha C.hn C.ht C.hm) I.kIn J hk (fun z => nomatch z) fun tk => ⟨.bl b, H, I.kept (t' := tk) fun _ _ z => z, rfl, q⟩
  · obtain ⟨mA, hns, hr⟩ := I.hok dd _ hdd
    obtain ⟨od, ho, hl⟩ := lookIn_ns hns
    have J : PySem.W.InstAt s.heap a oe D (some od) := ⟨hget, hz.1, nc, by rw [hz.2]; exact ho⟩
    exact PySem.W.kia_one (PySem.W.kitx_exc hcl C.hg C.hk C.hs C.ha C.hn C.ht C.hm) I.kIn J hk (fun z => nomatch z) fun tk => ⟨.bl b, H, I.kept (t' := tk) fun _ _ z => z, rfl, q⟩
end
/-! ### isinstance of an own error, by what the written part says of its class -/
theorem kit_sub {K : PySem.W.Frag} {t : Value} {C : Addr} (ic : PySem.W.isClsIn K C = true) (tC : PySem.W.typeIn K (.ref C) = some (.type "type")) (h : PySem.W.subIn K t (.ref C) = some true) : PySem.W.kitOne K t (.ref C) = some true := by
  unfold PySem.W.kitOne
  by_cases e : (t == .ref C) = true
  · rw [if_pos e]
  · rw [if_neg e]
    have h2 : ((PySem.W.clsIn K C).isSome && PySem.W.typeIn K (.ref C) == some (.type "type")) = true := by
      have q : (PySem.W.clsIn K C).isSome = true := ic
      rw [q, tC]
      rfl
    show (if ((PySem.W.clsIn K C).isSome && PySem.W.typeIn K (.ref C) == some (.type "type")) = true then PySem.W.subIn K t (.ref C) else none) = some true
    rw [if_pos h2]
    exact h
theorem kit_not {K : PySem.W.Frag} {t : Value} {C : Addr} (ic : PySem.W.isClsIn K C = true) (tC : PySem.W.typeIn K (.ref C) = some (.type "type")) (h : PySem.W.subIn K t (.ref C) = some false) (hs : PySem.W.subIn K t t = some true) : PySem.W.kitOne K t (.ref C) = some false := by
  unfold PySem.W.kitOne
  have e : ¬ (t == .ref C) = true := fun e => by
    have z : t = .ref C := by simpa using e
    rw [z] at h hs
    rw [h] at hs
    cases hs
  rw [if_neg e]
  have h2 : ((PySem.W.clsIn K C).isSome && PySem.W.typeIn K (.ref C) == some (.type "type")) = true := by
    have q : (PySem.W.clsIn K C).isSome = true := ic
    rw [q, tC]
    rfl
  show (if ((PySem.W.clsIn K C).isSome && PySem.W.typeIn K (.ref C) == some (.type "type")) = true then PySem.W.subIn K t (.ref C) else none) = some false
  rw [if_pos h2]
  exact h
theorem meta_ve : PySem.W.kitMeta "ValueError" = true := by decide +kernel
theorem kit_ve {K : PySem.W.Frag} {C : Addr} (h : PySem.W.subIn K (.ref C) (.type "ValueError") = some true) : PySem.W.kitOne K (.ref C) (.type "ValueError") = some true := by
  unfold PySem.W.kitOne
  rw [if_neg (by intro z; cases z)]
  show (if PySem.W.kitMeta "ValueError" = true then PySem.W.subIn K (.ref C) (.type "ValueError") else none) = some true
  rw [if_pos meta_ve]
  exact h
theorem at_mod (z : Str) {m : Int} {n : Nat} (hn : 0 < n) (hl : z.cps.toList.length = n) : ∃ c, atI z.cps.toList (m % (n : Int)) = some c := by
  have h0 : 0 ≤ m % (n : Int) := Int.emod_nonneg _ (by omega)
  have h1 : m % (n : Int) < (n : Int) := Int.emod_lt_of_pos _ (by omega)
  have hj : (m % (n : Int)).toNat < z.cps.toList.length := by omega
  refine ⟨z.cps.toList[(m % (n : Int)).toNat], ?_⟩
  have e := atI_nat (List.getElem?_eq_getElem hj)
  rw [Int.toNat_of_nonneg h0] at e
  exact e
theorem cutV_map {lo hi : Option Int} {ns : List Int} : ∃ ms : List Int, cutV (ns.map V.int) lo hi = ms.map V.int ∧ (∀ m ∈ ms, m ∈ ns) ∧ ms.length ≤ ns.length := by
  unfold cutV
  rw [List.length_map]
  refine ⟨(ns.drop _).take _, by rw [List.map_take, List.map_drop], fun m h => List.mem_of_mem_drop (List.mem_of_mem_take h), ?_⟩
  rw [List.length_take, List.length_drop]
  omega
theorem mem_ints {ns : List Int} {i : Nat} {x : V} (h : (ns.map V.int)[i]? = some x) : ∃ z, z ∈ ns ∧ x = .int z ∧ ns[i]? = some z := by
  rw [List.getElem?_map] at h
  cases e : ns[i]? with
  | none =>
    rw [e] at h
    cases h
  | some z =>
    rw [e] at h
    exact ⟨z, List.mem_of_getElem? e, (Option.some.inj h).symm, rfl⟩
theorem mem_strs {ns : List Str} {i : Nat} {x : V} (h : (ns.map V.str)[i]? = some x) : ∃ z, z ∈ ns ∧ x = .str z ∧ ns[i]? = some z := by
  rw [List.getElem?_map] at h
  cases e : ns[i]? with
  | none =>
    rw [e] at h
    cases h
  | some z =>
    rw [e] at h
    exact ⟨z, List.mem_of_getElem? e, (Option.some.inj h).symm, rfl⟩
theorem take_snoc {α : Type} {l : List α} {i : Nat} {z : α} (h : l[i]? = some z) : l.take (i + 1) = l.take i ++ [z] := by
  rw [List.take_succ, h]
  rfl
/-! ### all(test for x in a list of ints): the test may read the module's names -/
section
open GxR
variable {X : Cx} {pins : List (Addr × Obj)} {σ : L2.St} {H : Hp} {s : Shared}
/-- the test of one int, the module's names being mg -/
def EltI (prog : Program) (w : World) (mg : Str → Option Value) (sco : Scope) (x : Str) (elt : Expr) (pb : Int → Bool) : Prop :=
  ∀ (en : Env) (B : Around) (F : Value → Shared → Prop) (c : Int) (t : Tok) (z : Shared) (m : Str → Option Value),
    en.scope = sco → en.globals = mainGlobals → z.heap.Ns mainGlobals mg → z.heap.Ns en.locals m → m x = some (.int c t) →
    wpAny (model prog w) B (eval elt en) (fun y z' => y = .bool (pb c) ∧ Keeps z z') F z
theorem keeps_tok {z : Shared} (k : Nat) : Keeps z { z with toks := k } := ⟨z.heap, k, rfl, fun _ _ e => e⟩
/-- 1 <= x <= G, G a module's int -/
theorem elt_chain {prog : Program} {w : World} {mg : Str → Option Value} {sco : Scope} {x g : Str} {lo hi : Int} {tl : Tok} {p0 p1 p2 p3 : Pos} {kk : Nat} (kf : sco.kind = .function) (lx : sco.names.lookup x = some .local) (lg : sco.names.lookup g = some .globalImplicit)
    (hL : mg g = some (.int hi tl)) (dx : (x == ("__debug__" : Str)) = false := by decide) (dg : (g == ("__debug__" : Str)) = false := by decide) :
    EltI prog w mg sco x (.Compare (.Constant (.int lo) kk p0) [.LtE, .LtE] [.Name x p1, .Name g p2] p3) (fun c => decide (lo ≤ c) && decide (c ≤ hi)) := by
  intro en B F c t z m es eg ng nl hm
  have kf' : en.scope.kind = .function := by rw [es]; exact kf
  refine Compare_chain (wpAny_Constant_int (chain_link ?_)) (by with_unfolding_all rfl)
  refine wpAny_Name (wpAny_loadName_local kf' (show en.scope.names.lookup x = some .local by rw [es]; exact lx) nl hm ?_) dx
  refine le_int (wpAny_truthy_bool ?_)
  by_cases h1 : lo ≤ c
  · rw [decide_eq_true h1]
    refine ite_tt (chain_last ?_)
    refine Calls.Name_function_global kf' (show en.scope.names.lookup g = some .globalImplicit by rw [es]; exact lg) (Calls.loadGlobal_global (mg := mg) (by rw [eg]; exact ng) hL ?_) dg
    refine le_int ⟨?_, keeps_tok _⟩
    show Value.bool (decide (c ≤ hi)) = Value.bool (decide (lo ≤ c) && decide (c ≤ hi))
    rw [decide_eq_true h1, Bool.true_and]
  · rw [decide_eq_false h1]
    refine ite_ff ⟨?_, keeps_tok _⟩
    show Value.bool false = Value.bool (decide (lo ≤ c) && decide (c ≤ hi))
    rw [decide_eq_false h1, Bool.false_and]
def trI (pb : Int → Bool) (l : List Int) (j : Nat) : Bool := match l[j]? with
  | some b => pb b
  | none => false
theorem trI_some {pb : Int → Bool} {l : List Int} {j : Nat} {b : Int} (h : l[j]? = some b) : trI pb l j = pb b := by
  unfold trI
  rw [h]
theorem all_trI (l : List Int) (pb : Int → Bool) : (List.range l.length).all (trI pb l) = l.all pb := by
  rw [Bool.eq_iff_iff, List.all_eq_true, List.all_eq_true]
  constructor
  · intro h b hb
    obtain ⟨j, hj, e⟩ := List.mem_iff_getElem.mp hb
    have z := h j (List.mem_range.mpr hj)
    rw [trI_some (List.getElem?_eq_getElem hj), e] at z
    exact z
  · intro h j hj
    have hj' := List.mem_range.mp hj
    rw [trI_some (List.getElem?_eq_getElem hj')]
    exact h _ (List.getElem_mem hj')
def ReadyI (X : Cx) (pins : List (Addr × Obj)) (σ : L2.St) (H1 : Hp) (P : Addr) (a : List Int) (pb : Int → Bool) (g : Addr) (s5 : Shared) : Prop :=
  ∃ (fp wr : List Addr) (G : Array GenState → Array GenState → Prop) (F : Nat → Value → Prop) (St : Nat → Shared → Prop),
    WalksS X.prog X.w X.A.in1 g fp wr G a.length F St ∧ St 0 s5 ∧
    TruthOf X.prog X.w X.A.in1 F (trI pb a) ∧
    ∀ s', Moved wr G s5 s' → ∃ H2, Tabbed P H1 H2 ∧ Inv X pins σ H2 s'
theorem gen_ints {c P : Addr} {elt src : Expr} {x : Str} {px gp : Pos} {sco : Scope} {pb : Int → Bool} {te : TE} {k : Nat} {Z : Value → Shared → Prop} {R : List Int → Hp → Prop}
    (hr : Room k X.A) (TB : TabB X.base X.mg c P) (hco : X.env.code = .ref c) (S : GenS X.env sco x) (hi : PE X src te) (hel : EltI X.prog X.w X.mg sco x elt pb)
    (hs : ∀ v, genFold src X.env v = pure v) (I : Inv X pins σ H s) (h : te σ H fun v H1 => ∃ (yl : Addr) (a : List Int), v = .ref yl ∧ SqL X.K H1 yl (a.map V.int) ∧ TabG H1 P ∧ R a H1)
    (hZ : ∀ a H1 g z, R a H1 → ReadyI X pins σ H1 P a pb g z → Z (.ref g) z) :
    wpAny (model X.prog X.w) X.A (eval (.GeneratorExp elt [⟨.Name x px, src, [], 0⟩] sco gp) X.env) Z X.xe s := by
  refine wpAny_GeneratorExp_walksQ hr.hd S.co (closure_ok S.free) S.cell S.dot S.loc S.kind (by have d := hr.dp; omega) ?_ hs
  refine thn (hi.run pins s σ H _ I h) fun xv z1 ⟨v, H1, J, r1, q⟩ => ?_
  obtain ⟨yl, a, rfl, hyl, ⟨ps, hP, ht⟩, q⟩ := q
  obtain rfl : xv = Value.ref yl := r1
  obtain ⟨its, rv, hl, hz⟩ := J.list hyl
  have hIL := hl.isList
  have hlen : its.length = a.length := by rw [← rv.length, List.length_map]
  have hat : ∀ (i : Nat) (v : Value), its.toArray[i]? = some v → ∃ (n : Int) (u : Tok), a[i]? = some n ∧ v = .int n u := fun i v hv => by
    have hv2 : its[i]? = some v := by simpa using hv
    have hi2 : i < its.length := (List.getElem?_eq_some_iff.mp hv2).1
    obtain ⟨n, ha⟩ : ∃ n, a[i]? = some n := ⟨a[i]'(by omega), List.getElem?_eq_getElem _⟩
    have hb : (a.map V.int)[i]? = some (V.int n) := by rw [List.getElem?_map, ha] <;> rfl
    obtain ⟨u, hu, ru⟩ := rv.get hb
    rw [hv2] at hu
    cases hu
    obtain ⟨t, e⟩ := (show ∃ t, v = Value.int n t from ru)
    exact ⟨n, t, ha, e⟩
  refine wpAny_pyIter_list hIL ?_
  generalize ho : ({ cls := .type "list_iterator", data := .fields #[.ref yl, .int 0 0] } : Obj) = it
  have hitr : (z1.heap.push it).IsListIter z1.heap.objs.size yl 0 := by
    subst ho
    exact ⟨_, Heap.get?_push_size _ rfl, rfl, rfl⟩
  have hylt : yl < z1.heap.objs.size := by
    obtain ⟨_, e, _⟩ := _root_.id hIL
    exact Heap.lt_size e
  have gP : z1.heap.get? P = some { cls := .none, data := .fields ps } := J.hok P _ hP
  have gP2 : (z1.heap.push it).get? P = some { cls := .none, data := .fields ps } := Heap.get?_push_of_some _ gP
  have ltP : P < z1.heap.objs.size := Heap.lt_size gP
  have hd2 : PySem.W.CodeHd (z1.heap.push it) c P := TB.code.keeps fun b u e => Heap.get?_push_of_some _ (J.bk b u e)
  have nl2 : (z1.heap.push it).NoLimit := J.nolimit.push it
  have go : ∀ (code : Value) (hh : Heap) (tk : Nat) (qs : Array Value), Heap.ExtBut P (z1.heap.push it) hh → (z1.heap.push it).objs.size ≤ hh.objs.size →
      hh.get? P = some { cls := .none, data := .fields qs } → (∃ more, qs = ps ++ more) → TriplesOk qs.toList →
      wpAny (model X.prog X.w) X.A (builtinsFor X.env.globals X.env.builtins) (fun bi s₄ =>
        ∃ Ia fp wr n₀ Pf St₀ pz F, Value.ref z1.heap.objs.size = .ref Ia ∧ (∀ A' : Around, A'.handled = none → Walks X.prog X.w A' Ia fp wr n₀ Pf St₀) ∧
          St₀ 0 s₄.heap ∧ (∀ b ∈ fp, b < s₄.heap.objs.size) ∧ s₄.heap.NoLimit ∧ cStatics ∉ wr ∧
          (∀ hf : Heap, (∀ b o, s₄.heap.get? b = some o → hf.get? b = some o) →
            QuietGen X.prog X.w (genEnv sco (cloFrom X.env.cells sco.names []) s₄.heap.objs.size code bi X.env) x [] elt (List.range s₄.heap.objs.size) wr Pf pz F hf) ∧
          (∀ a h₅ tk gs, gs.bare = true → s₄.heap.objs.size < a → h₅.objs.size = a + 1 → (∀ b o, s₄.heap.get? b = some o → h₅.get? b = some o) →
            WalksS X.prog X.w X.A.in4 a (a :: s₄.heap.objs.size :: List.range s₄.heap.objs.size) (s₄.heap.objs.size :: wr) (GenOnlyQ s₄.gens.size)
              (passing pz n₀ 0).length (fun j y => ∃ i, (passing pz n₀ 0)[j]? = some i ∧ F i y)
              (GenAt X.prog X.w X.A.in4 a s₄.gens.size s₄.heap.objs.size (List.range s₄.heap.objs.size) wr pz n₀ F) →
            GenAt X.prog X.w X.A.in4 a s₄.gens.size s₄.heap.objs.size (List.range s₄.heap.objs.size) wr pz n₀ F 0 { s₄ with gens := s₄.gens.push gs, toks := tk, heap := h₅ } →
            Z (.ref a) { s₄ with gens := s₄.gens.push gs, toks := tk, heap := h₅ })) X.xe { z1 with heap := hh, toks := tk } := by
    intro code hh tk qs ex sz gq mr tq
    obtain ⟨bm, ob, b1, b2, b3, b4, b5, b6, b7, b8⟩ := TB.bm
    have neS : cStatics ≠ P := fun e => by
      obtain ⟨_, ns, _⟩ := J.nolimit
      obtain ⟨oo, es, ep, go1, gd, _⟩ := ns
      rw [e, gP] at go1
      cases go1
      cases gd
    have ltS : cStatics < z1.heap.objs.size := let ⟨_, ns, _⟩ := J.nolimit; ns.lt
    have szp : (z1.heap.push it).objs.size = z1.heap.objs.size + 1 := Heap.size_push ..
    have kp : ∀ b u, b ≠ P → z1.heap.get? b = some u → hh.get? b = some u := fun b u hb e => ex b u hb (Heap.get?_push_of_some _ e)
    have gl1 : z1.heap.Ns mainGlobals X.mg := J.mod.glob.keeps J.bk
    have glh : hh.Ns mainGlobals X.mg := (gl1.push it).extBut ex TB.gP
    refine wpAny_builtinsFor (m := X.mg) (by rw [J.ok.glob]; exact glh) b1 b2 (kp _ _ b4 (J.bk _ _ b5)) b6 b7 b8 ?_
    have hylP : yl ≠ P := fun z => by
      obtain ⟨_, e, hc1, _, hd1⟩ := _root_.id hIL
      rw [z, gP] at e
      cases e
      cases hd1
    have hIL3 : hh.IsList yl its.toArray := by
      obtain ⟨ob, e, r⟩ := _root_.id hIL
      exact ⟨ob, kp _ _ hylP e, r⟩
    have hItr3 : hh.IsListIter z1.heap.objs.size yl 0 := hitr.at fun u e => ex _ u (Nat.ne_of_gt ltP) e
    refine ⟨z1.heap.objs.size, [z1.heap.objs.size, yl], [z1.heap.objs.size], its.toArray.size, (fun i v => its.toArray[i]? = some v), (fun i h => h.IsListIter z1.heap.objs.size yl i ∧ h.IsList yl its.toArray), (fun _ => true),
      (fun i y => ∃ n : Int, a[i]? = some n ∧ y = .bool (pb n)), rfl, (fun A' hA => Walks.list hA _ _ (Nat.ne_of_lt hylt) _), ⟨hItr3, hIL3⟩, ?_, nl2.extBut ex neS, ?_, ?_, ?_⟩
    · intro b hb
      rcases List.mem_cons.mp hb with z | z
      · rw [z]
        show z1.heap.objs.size < hh.objs.size
        omega
      · rw [List.mem_singleton.mp z]
        have e9 : z1.heap.objs.size ≤ hh.objs.size := by omega
        exact Nat.lt_of_lt_of_le hylt e9
    · exact fun m => Nat.ne_of_lt ltS (List.mem_singleton.mp m)
    · intro hf keep
      refine ⟨fun A' E' i v z2 m2 _ _ _ _ _ => ?_, fun A' E' i v z2 m2 _ hv _ hn hm hk => ?_⟩
      · simp only [List.forIn_nil]
        exact wpAny_pure ⟨rfl, keeps_refl _⟩
      · obtain ⟨cc, u, hcc, rfl⟩ := hat i v hv
        have ngl : z2.heap.Ns mainGlobals X.mg := by
          have lt1 : mainGlobals < z1.heap.objs.size := gl1.lt
          obtain ⟨og, es, ep, e1, er⟩ := glh
          exact ⟨og, es, ep, hk mainGlobals (List.mem_range.mpr (Heap.lt_size e1)) (fun m => Nat.ne_of_lt lt1 (List.mem_singleton.mp m)) og (keep _ _ e1), er⟩
        exact wpAny_mono (hel _ A' E' cc u z2 m2 rfl J.ok.glob ngl hn hm) (fun y z3 r => ⟨⟨cc, hcc, r.1⟩, r.2⟩) fun _ _ e => e
    · intro g h5 tk5 gs bare lt5 sz5 k5 W5 at5
      simp only [GxR.passing_true, List.length_range] at W5
      have hn5 : its.toArray.size = a.length := by rw [List.size_toArray, hlen]
      rw [hn5] at W5 at5
      refine hZ a H1 g _ q ⟨_, _, _, _, _, W5.in4_1, at5, ?_, fun z' mv => ?_⟩
      · intro j y sj Qj Ej hy hQj
        obtain ⟨i, hij, cc, hcc, rfl⟩ := hy
        obtain ⟨lj, ej⟩ := List.getElem?_eq_some_iff.mp hij
        rw [List.getElem_range] at ej
        subst ej
        have hQ2 : Qj (trI pb a j) sj := hQj
        rw [trI_some hcc] at hQ2
        exact wpAny_truthy_bool hQ2
      · obtain ⟨more, em⟩ := mr
        have out : ∀ b u, z1.heap.get? b = some u → b ∉ hh.objs.size :: [z1.heap.objs.size] := fun b u e hb => by
          have lt := Heap.lt_size e
          rcases List.mem_cons.mp hb with y | y
          · rw [y] at lt
            have lt' : (hh.objs.size : Nat) < z1.heap.objs.size := lt
            omega
          · rw [List.mem_singleton.mp y] at lt
            exact Nat.lt_irrefl _ lt
        have J2 := inv_tab (more := more) (h' := z'.heap) (g' := z'.gens) (d' := z'.drawn) (t' := z'.toks) J hP
          (fun b u hb e => mv.heap b u (out b u e) (k5 b u (kp b u hb e)))
          (by rw [← em]; exact mv.heap P _ (out P _ gP) (k5 P _ gq))
          (AllBare.movedS (J.bare.push bare) mv)
        rw [sh_eta z1 z' mv.os] at J2
        exact ⟨upd H1 P (.tbl (ps ++ more)), ⟨⟨ps ++ more, upd_same, by rw [← em]; exact tq⟩, fun b hb => upd_ne hb⟩, J2⟩
  refine ⟨nl2, ?_⟩
  cases hf : codeAmong gp ps.toList with
  | none =>
    refine wpAny_genexprCodeX hco (hd2.code gP2 ht) (hd2.tab gP2) hf fun c' h' tk ex ge lt hc' _ tab' _ => ?_
    obtain ⟨_, _, _, _, _, _, _, _, _, _, _, _, _, _, _, _, _, _, _, tr, _⟩ := hc'
    exact go _ h' tk _ ex (Nat.le_trans ge (Nat.le_of_lt lt)) tab'.2 ⟨_, rfl⟩ tr
  | some cv =>
    refine wpAny_genexprCode_hit hco (hd2.code gP2 ht) hf ?_
    exact go cv (z1.heap.push it) z1.toks ps (Heap.ExtBut.refl _ _) (Nat.le_refl _) gP2 ⟨#[], by simp⟩ ht
def tAllI (K : PySem.W.Frag) (P : Addr) (pb : Int → Bool) (te : TE) : TE := fun σ H Q => te σ H fun v H1 => ∃ (yl : Addr) (a : List Int), v = .ref yl ∧ SqL K H1 yl (a.map V.int) ∧ TabG H1 P ∧ ∀ H2, Tabbed P H1 H2 → Q (.bl (a.all pb)) H2
theorem pe_allI {c P : Addr} {elt src : Expr} {x : Str} {px p pos gp : Pos} {sco : Scope} {pb : Int → Bool} {te : TE} {k : Nat}
    (hr : Room k X.A) (hg : Gl X "all") (hm : X.mg "all" = none) (hb : bootBuiltins "all" = some (.builtin "all")) (TB : TabB X.base X.mg c P) (hco : X.env.code = .ref c) (S : GenS X.env sco x) (hi : PE X src te) (hel : EltI X.prog X.w X.mg sco x elt pb)
    (hs : ∀ v, genFold src X.env v = pure v)
    (he : starEach [.GeneratorExp elt [⟨.Name x px, src, [], 0⟩] sco gp] X.env = (false, eval (.GeneratorExp elt [⟨.Name x px, src, [], 0⟩] sco gp) X.env) :: starEach [] X.env := by rfl) :
    PE X (.Call (.Name "all" p) [.GeneratorExp elt [⟨.Name x px, src, [], 0⟩] sco gp] [] pos) (tAllI X.K P pb te) := by
  refine ⟨fun pins z σ H Q I h => ?_⟩
  refine wpAny_Call_Name_kw (ld_blt I hg hm hb (PyProof.Rows.callWith_builtin1 ?_ he (by rfl)))
  rw [he]
  show wpAny _ _ (spliced ((false, eval (.GeneratorExp elt [⟨.Name x px, src, [], 0⟩] sco gp) X.env) :: backTo pos (starEach [] X.env))) _ _ z
  refine Calls.spliced_cons (gen_ints (R := fun a H1 => ∀ H2, Tabbed P H1 H2 → Q (.bl (a.all pb)) H2) hr TB hco S hi hel hs I h fun a H1 g z5 hR hG => ?_)
  obtain ⟨fp, wr, G, F, St, W, st0, tru, fin⟩ := hG
  refine Calls.spliced_nil (call_all_walkS (W.self 0 _ _ _ st0 ⟨g, fp, wr, G, _, F, St, _, rfl, W, st0, tru, fun z' mv => ?_⟩))
  obtain ⟨H2, tb, J⟩ := fin z' mv
  refine ⟨.bl _, H2, J, rfl, ?_⟩
  rw [all_trI a pb]
  exact hR H2 tb
/-- a table may grow -/
theorem kp_tabbed {P : Addr} {H H' : Hp} (h : TabG H P) (t : Tabbed P H H') : Kp H H' := by
  obtain ⟨ps, hP, _⟩ := h
  obtain ⟨⟨qs, hQ, tq⟩, e⟩ := t
  refine ⟨fun b o n hb => ?_, fun b hb => ?_, fun b hb => ?_⟩
  · have ne : b ≠ P := fun z => by
      rw [z, hP] at hb
      cases hb
      cases n
    rw [e b ne]
    exact hb
  · by_cases z : b = P
    · rw [z]
      exact ⟨qs, hQ, tq⟩
    · obtain ⟨rs, h1, h2⟩ := hb
      exact ⟨rs, by rw [e b z]; exact h1, h2⟩
  · by_cases z : b = P
    · rw [z, hQ] at hb
      cases hb
    · rw [e b z] at hb
      exact hb
end

/-! ### a def whose code object is known, a method that may raise in a try, the end with a table -/
structure FunC (K : PySem.W.Frag) (x qual : Str) (st : Stmt) (f : Addr) (fd : FuncData) (c : Addr) : Prop where
  ex : ∃ (oc : Value) (od : Option Addr) (kV doc pm : Value) (an : Option Addr) (ct : Value) (osl : Array (Option Value)),
    fd = PySem.W.fnOf x qual (defArgs st) (defBody st) (defScope st) .none kV doc pm an (.ref c) ct ∧ K.lookup f = some ⟨oc, od, .func fd, osl⟩ ∧ PySem.W.codeIn K (.ref c) qual = true
theorem FunC.ok {P : Program} {w : World} {K : PySem.W.Frag} {mg : Str → Option Value} {base : Heap} {x qual : Str} {st : Stmt} {f c : Addr} {fd : FuncData} {N ps : List Str} {k : Nat} {sp : Sp} (F : FunC K x qual st f fd c) (S : FnScope N ps (defScope st)) (len : ∀ vs H Q E, sp vs H Q E → vs.length = ps.length)
    (body : ∀ (A : Around) (outer : List Env) (s : Shared) (H : Hp) (vs : List V) (Q : VK) (E : XK), Room k (A.deeper (envOfC qual (defScope st) s.heap.objs.size f (.ref c))) → sp vs H Q E →
      ∃ t, PSs (cxOf CX0 P w K mg base N qual (defScope st) f (.ref c) A outer s H E).nox (defBody st) t ∧ t { nx := fun _ H' => Q .non H', rt := Q } (start N vs) H) : FnOk P w K mg base CX0 (k + 1) f fd ps sp := by
  obtain ⟨oc, od, kV, doc, pm, an, ct, osl, rfl, lk, cd⟩ := F.ex
  refine fn_of lk cd S len fun A outer s H vs Q E hr hs => ?_
  obtain ⟨t, h, q⟩ := body A outer s H vs Q E hr hs
  exact ⟨t, h.nox, q⟩
theorem noFree {names : List (Str × NameKind)} {cells : List (Str × Addr)} (h : names.all (fun y => decide (y.2 ≠ .free)) = true) : ∀ y ∈ names, y.2 = .free → ∃ c, cells.lookup y.1 = some c := fun y hy e =>
  absurd e (of_decide_eq_true (List.all_eq_true.mp h y hy))
theorem noCell {names : List (Str × NameKind)} (h : names.all (fun y => decide (y.2 ≠ .cell)) = true) : ∀ y ∈ names, y.2 ≠ .cell := fun y hy => of_decide_eq_true (List.all_eq_true.mp h y hy)
section
variable {X : Cx} {CX : CXT} {k : Nat} {C f : Addr} {fd : FuncData} {ps : List Str} {sp : Sp} {m : Str} {o e : Expr} {es : List Expr} {ta : TE} {t : TA} {E : L2.St → XK} {apos pos : Pos}
def tMethE (C : Addr) (m : Str) (sp : Sp) (E : L2.St → XK) (ta : TE) (t : TA) : TE := fun σ H Q => ta σ H fun x H1 => ∃ a dx fs, x = .ref a ∧ H1 a = some (.ins C dx fs) ∧ fs.lookup m = none ∧ t σ H1 fun vs H2 => sp (.ref a :: vs) H2 Q (E σ)
theorem pe_methE {pl : Sem Bool} (he : PE X o ta) (c : Cls X.K C) (hm : Meth X.K C m f) (F : FnOk X.prog X.w X.K X.mg X.base CX k f fd ps sp) (hr : Room k X.A) (hb : Binds X.K fd ps []) (hx : ∀ σ, PassesAt CX X σ (E σ)) (ha : PA X (e :: es) t)
    (s1 : starEach (e :: es) X.env = (false, eval e X.env) :: starEach es X.env := by rfl) (s2 : (backTo pos (starEach es X.env)).any (·.1) = false := by rfl)
    (ht : eval (.Call (.Attribute o m apos) (e :: es) [] pos) X.env = (do
      let v ← eval o X.env
      standAt apos.atName
      let (g, fst) ← holding [v] (getMethod v m pl)
      callWith pos g fst (backTo pos (starEach (e :: es) X.env)) (backToKw pos (keywordEach [] X.env))) := by rfl) :
    PE X (.Call (.Attribute o m apos) (e :: es) [] pos) (tMethE C m sp E ta t) := by
  refine ⟨fun pins z σ H Q I h => ?_⟩
  refine PySem.W.methodCall_KW (pl := pl) (thn (he.run pins z σ H _ I h) fun u z1 ⟨x, H1, J, rx, a, dx, fs, ex, ea, l, q⟩ => ?_) ht
  subst ex
  obtain rfl : u = Value.ref a := rx
  refine getmeth_ok J ea c hm l ?_
  refine PySem.W.callWith_K (first := [.ref a]) (h₀ := X.base) I.ok.mod.kin hm.kp (thn (ha.run pos pins z1 σ H1 _ J q) fun us z2 ⟨vs, H2, J2, r, q2⟩ => ⟨J2.kIn, ?_⟩) s1 s2
  exact run_fnS (us := .ref a :: us) (vs := .ref a :: vs) F hr hb (hx σ) J2 (.cons rfl r) q2
end
theorem walk_tab {l : PySem.W.OpenLaw} {n k : Nat} {q : Program} {loose : List Str} {XP : (Str → Option Value) → Heap → Prop} {YP : World → Heap → Prop} {d : DefRec} {K : Params → PySem.W.Frag} {CX : World → CXT} {x : Str} (nms : List Str)
    (hn : l.most = some n) (hz : n ≤ sizeLine) (hdf : d.params.defaults = []) (hr : Room k callerA) (hrec : nms.all (fun y => (recsOf q).any fun e => e.name == y) = true) (hY : ∀ (w : World) (h : Heap), YP w h → (K w.params).In h)
    (F : ∀ (w : World) (mg : Str → Option Value) (fa : Addr) (h : Heap), (K w.params).In h → h.Ns mainGlobals mg → mg d.name = some (.ref fa) → (∀ y ∈ nms, ∀ f, mg y = some (.ref f) → LamX.OwnTab (K w.params) f h) → LamX.LawAtS l w (K w.params) (CX w) k n x mg fa h)
    (hCX : ∀ (w : World) (H : Hp) (s : Shared) (e : Value) (s' : Shared), CX w [] H s (fun _ _ _ => False) e s' → False) :
    PySem.W.WalkO q loose XP YP l.row.toRowW d [] (fun f vs => PySem.call f vs) := by
  refine Att.attach_callB hn hdf fun w s0 s1 mg mb fa o pm cd doc a vs ns G Y ho hd hcd hmg hob hin hlen hbits hg => ?_
  have KX := hY w _ Y
  have own : ∀ y ∈ nms, ∀ f, mg y = some (.ref f) → LamX.OwnTab (K w.params) f s1.heap := fun y hy f hf c P o1 fd1 e dd us sl k1 k2 k3 k4 k5 => by
    obtain ⟨dl, hm, he⟩ := List.any_eq_true.mp (List.all_eq_true.mp hrec y hy)
    have en : dl.name = y := beq_iff_eq.mp he
    obtain ⟨a', o', fd', c', P', t1, t2, t3, t4, t5, t6⟩ := G.T.tab dl hm
    rw [en, hf] at t1
    cases t1
    rw [KX _ _ k1] at t2
    cases t2
    rw [k2] at t3
    cases t3
    rw [k3] at t4
    cases t4
    obtain ⟨⟨oc, vc, u1, _, u3, u4⟩, hP⟩ := t6
    rw [KX _ _ k4] at u1
    cases u1
    cases u3
    rw [k5] at u4
    cases u4
    exact hP
  obtain ⟨fd, cs, sp, hT, nT, C, hb, hsp, hF⟩ := F w mg fa _ KX G.T.g hmg own
  exact LamX.law_callTs KX G.T.g G.T.b G.T.builtins G.T.nolimit hg hT nT C G.T.bmain hob hin (Nat.le_trans hlen hz) hr hF hb (fun H hH hS => hsp H a ns hlen hbits hH hS) fun H e s' => hCX w H s1 e s'
theorem codeHd_mk {K : PySem.W.Frag} {h : Heap} {c P : Addr} {dd : Option Addr} {vs : Array Value} {sl : Array (Option Value)} {fl : Str} {tf tg tt : Tok} {fg tx : Int} {b : Bool} (X : K.In h) (l : K.lookup c = some ⟨.type "code", dd, .fields vs, sl⟩) (h11 : vs[11]? = some (.ref P)) (h18 : vs.getD 18 .none = .str fl tf)
    (h7 : vs.getD 7 .none = .int fg tg) (h9 : vs.getD 9 .none = .bool b) (h10 : vs.getD 10 .none = .int tx tt) (ne : c ≠ P) : PySem.W.CodeHd h c P :=
  ⟨_, vs, fl, tf, fg, tg, b, tx, tt, X _ _ l, rfl, rfl, h11, by rw [Array.getD_eq_getD_getElem?, h11]; rfl, h18, h7, h9, h10, ne⟩

theorem FunC.okX {P : Program} {w : World} {K : PySem.W.Frag} {mg : Str → Option Value} {base : Heap} {x qual : Str} {st : Stmt} {f c : Addr} {fd : FuncData} {N ps : List Str} {k : Nat} {sp : Sp} (F : FunC K x qual st f fd c) (S : FnScope N ps (defScope st)) (len : ∀ vs H Q E, sp vs H Q E → vs.length = ps.length)
    (body : ∀ (A : Around) (outer : List Env) (s : Shared) (H : Hp) (vs : List V) (Q : VK) (E : XK), Room k (A.deeper (envOfC qual (defScope st) s.heap.objs.size f (.ref c))) → sp vs H Q E →
      ∃ t, PSs (cxOf (L2.CX P w) P w K mg base N qual (defScope st) f (.ref c) A outer s H E) (defBody st) t ∧ t { nx := fun _ H' => Q .non H', rt := Q } (start N vs) H) : FnOk P w K mg base (L2.CX P w) (k + 1) f fd ps sp := by
  obtain ⟨oc, od, kV, doc, pm, an, ct, osl, rfl, lk, cd⟩ := F.ex
  exact fn_of lk cd S len fun A outer s H vs Q E hr hs => body A outer s H vs Q E hr hs

/-! ### min(list of ints, default=..) -/
theorem foldl_min : ∀ (ns : List Int) (n : Int), (ns.foldl min n = n ∨ ns.foldl min n ∈ ns) ∧ ns.foldl min n ≤ n ∧ ∀ y ∈ ns, ns.foldl min n ≤ y
  | [], n => ⟨.inl rfl, Int.le_refl _, by simp⟩
  | k :: r, n => by
    obtain ⟨h1, h2, h3⟩ := foldl_min r (min n k)
    rw [List.foldl_cons]
    refine ⟨?_, by omega, fun y hy => ?_⟩
    · rcases h1 with h1 | h1
      · by_cases c : n ≤ k
        · exact .inl (h1.trans (by omega))
        · exact .inr (by rw [h1, show min n k = k by omega]; exact List.mem_cons_self)
      · exact .inr (List.mem_cons_of_mem _ h1)
    · rcases List.mem_cons.mp hy with rfl | hy
      · omega
      · exact h3 y hy
def rMinDf (K : PySem.W.Frag) : List V → List V → Hp → VK → Prop := fun vs zs H Q => ∃ (a : Addr) (ns : List Int) (d : V), vs = [V.ref a] ∧ zs = [d] ∧ SqL K H a (ns.map V.int) ∧ (ns = [] → Q d H) ∧ ∀ m, m ∈ ns → (∀ y, y ∈ ns → m ≤ y) → Q (.int m) H
section
variable {X : Cx}
theorem alike_ints (ns : List Int) : PySem.W.AlikeAll (ns.map PyData.int) := by
  refine ⟨fun x hx y hy => ?_, fun x hx => ?_⟩
  · obtain ⟨a, _, rfl⟩ := List.mem_map.mp hx
    obtain ⟨b, _, rfl⟩ := List.mem_map.mp hy
    rfl
  · obtain ⟨a, _, rfl⟩ := List.mem_map.mp hx
    intro z
    cases z
theorem dep_intsM : ∀ ns : List Int, PyData.depthAll (ns.map PyData.int) ≤ 1
  | [] => by simp [PyData.depthAll]
  | n :: r => by
    have h := dep_intsM r
    simp only [List.map_cons, PyData.depthAll, PyData.depth]
    omega
theorem cr_minDf (hc : X.calm = true) (hu : X.A.units + 64 < cLine) : CallRK X (.builtin "min") ["default"] (rMinDf X.K) := by
  intro pins s σ H xs zs us ws Q I r1 r2 h
  obtain ⟨a, ns, d, rfl, rfl, hs, h0, h1⟩ := h
  obtain ⟨its, rv, hl, _⟩ := I.list hs
  rw [Vals.ref1 r1]
  obtain ⟨u, rfl, ru⟩ := vals1 r2
  show wpAny _ _ (call (.builtin "min") [.ref a] [(Str.ofString "default", u)]) _ _ _
  refine PySem.W.min_list_default (I.ok.hd hc) hl.isList (IntsAre.reads _ rv.ints) (alike_ints ns) (by have := dep_intsM ns; omega) (fun e h' tk hk => ⟨d, H, I.kept hk, ru, h0 (List.map_eq_nil_iff.mp e)⟩) fun y ys i v h' tk bs e hv hr hk => ?_
  cases ns with
  | nil => cases e
  | cons n r =>
    rw [List.map_cons] at e
    obtain ⟨rfl, rfl⟩ := List.cons.inj e
    rw [PySem.W.minD_ints] at hr
    cases hr
    obtain ⟨g1, g2, g3⟩ := foldl_min r n
    refine ⟨.int _, H, I.kept hk, ⟨_, rfl⟩, h1 _ ?_ fun y hy => ?_⟩
    · rcases g1 with g1 | g1
      · rw [g1]
        exact List.mem_cons_self
      · exact List.mem_cons_of_mem _ g1
    · rcases List.mem_cons.mp hy with rfl | hy
      · exact g2
      · exact g3 y hy
end

def top (i : Nat) : Stmt := PySem.Challenge.pw_mastword_k17_beats_of_a_plan.main.body.getD i (.Pass ⟨0, 0, 0, 0⟩)
abbrev s_p_check_plan : Stmt := top 8
theorem sc_p_check_plan : FnScope ["signs", "wakes", "wake"] ["signs", "wakes"] (defScope s_p_check_plan) := ⟨rfl, rfl, rfl, by decide +kernel, rfl, by decide +kernel, by decide +kernel⟩
abbrev s_p_times : Stmt := top 9
theorem sc_p_times : FnScope ["signs", "wakes", "beats", "lowered", "sign", "raised"] ["signs", "wakes"] (defScope s_p_times) := ⟨rfl, rfl, rfl, by decide +kernel, rfl, by decide +kernel, by decide +kernel⟩
abbrev s_p_next_acts : Stmt := top 10
theorem sc_p_next_acts : FnScope ["wakes", "acted", "beats", "behind", "place", "wake", "before"] ["wakes", "acted"] (defScope s_p_next_acts) := ⟨rfl, rfl, rfl, by decide +kernel, rfl, by decide +kernel, by decide +kernel⟩
abbrev s_p_through : Stmt := top 11
theorem sc_p_through : FnScope ["signs", "wakes", "beats", "raised", "lowered"] ["signs", "wakes"] (defScope s_p_through) := ⟨rfl, rfl, rfl, by decide +kernel, rfl, by decide +kernel, by decide +kernel⟩
abbrev s_l_cell : Stmt := top 13
theorem sc_l_cell : FnScope ["_law_script", "_law_at"] ["_law_script", "_law_at"] (defScope s_l_cell) := ⟨rfl, rfl, rfl, by decide +kernel, rfl, by decide +kernel, by decide +kernel⟩
abbrev s_l_row : Stmt := top 14
theorem sc_l_row : FnScope ["_law_cell_here", "_law_many", "_law_size", "_law_row_here", "_law_rest", "_law_k", "_law_seed", "_law_mixed"] ["_law_cell_here", "_law_many", "_law_size"] (defScope s_l_row) := ⟨rfl, rfl, rfl, by decide +kernel, rfl, by decide +kernel, by decide +kernel⟩
abbrev s_l_like : Stmt := top 15
theorem sc_l_like : FnScope ["_law_found", "_law_due", "_law_k"] ["_law_found", "_law_due"] (defScope s_l_like) := ⟨rfl, rfl, rfl, by decide +kernel, rfl, by decide +kernel, by decide +kernel⟩
abbrev s_l_wakes : Stmt := top 16
theorem sc_l_wakes : FnScope ["_law_script", "_law_at", "_law_many", "_law_nums", "_law_kind", "_law_num"] ["_law_script", "_law_at"] (defScope s_l_wakes) := ⟨rfl, rfl, rfl, by decide +kernel, rfl, by decide +kernel, by decide +kernel⟩
abbrev s_l_step : Stmt := top 17
theorem sc_l_step : FnScope ["_law_shown", "_law_waits", "_law_begun", "_law_last", "_law_some", "_law_place", "_law_behind", "_law_ahead"] ["_law_shown", "_law_waits", "_law_begun"] (defScope s_l_step) := ⟨rfl, rfl, rfl, by decide +kernel, rfl, by decide +kernel, by decide +kernel⟩
abbrev s_l_played : Stmt := top 18
theorem sc_l_played : FnScope ["_law_signs", "_law_wakes_here", "_law_most", "_law_shown", "_law_highs", "_law_wake", "_law_lows", "_law_waits", "_law_beat", "_law_some", "_law_place"] ["_law_signs", "_law_wakes_here", "_law_most"] (defScope s_l_played) := ⟨rfl, rfl, rfl, by decide +kernel, rfl, by decide +kernel, by decide +kernel⟩
abbrev s_l_right : Stmt := top 19
theorem sc_l_right : FnScope ["_law_signs", "_law_wakes_here", "_law_beat", "_law_highs", "_law_lows", "_law_due", "_law_sign", "_law_row_here", "_law_handed", "_law_found", "_law_pair"] ["_law_signs", "_law_wakes_here"] (defScope s_l_right) := ⟨rfl, rfl, rfl, by decide +kernel, rfl, by decide +kernel, by decide +kernel⟩
abbrev s_law : Stmt := top 20
theorem sc_law : FnScope ["_law_script", "_law_some", "_law_k"] ["_law_script"] (defScope s_law) := ⟨rfl, rfl, rfl, by decide +kernel, rfl, by decide +kernel, by decide +kernel⟩
structure Txt (K : PySem.W.Frag) (mg : Str → Option Value) where
  a_MastError : Addr
  a_BadCount : Addr
  g_MastError : mg "MastError" = some (.ref a_MastError)
  x_MastError : PySem.W.excIn K a_MastError [.type "ValueError", .type "Exception", .type "BaseException", .type "object"] "ValueError.__new__" = true
  k_MastError : PySem.W.keepIn K (.ref a_MastError) = true
  b_MastError : PySem.W.subIn K (.ref a_MastError) (.type "BaseException") = some true
  t_MastError : PySem.W.typeIn K (.ref a_MastError) = some (.type "type")
  i_MastError : PySem.W.isClsIn K a_MastError = true
  h_MastError : PySem.W.hasDictIn K a_MastError = true
  ga_MastError : PySem.W.findIn K (.ref a_MastError) "__getattribute__" = some (some (.builtin "BaseException.__getattribute__"))
  gg_MastError : PySem.W.findIn K (.ref a_MastError) "__getattr__" = some none
  cl_MastError : PySem.W.findIn K (.ref a_MastError) "__class__" = some (some (.builtin "object.__class__"))
  mo_MastError : PySem.W.mroIn K a_MastError (.type "object") = some true
  v_MastError : PySem.W.subIn K (.ref a_MastError) (.type "ValueError") = some true
  s_MastError_MastError : PySem.W.subIn K (.ref a_MastError) (.ref a_MastError) = some true
  g_BadCount : mg "BadCount" = some (.ref a_BadCount)
  x_BadCount : PySem.W.excIn K a_BadCount [.type "ValueError", .type "Exception", .type "BaseException", .type "object"] "ValueError.__new__" = true
  k_BadCount : PySem.W.keepIn K (.ref a_BadCount) = true
  b_BadCount : PySem.W.subIn K (.ref a_BadCount) (.type "BaseException") = some true
  t_BadCount : PySem.W.typeIn K (.ref a_BadCount) = some (.type "type")
  i_BadCount : PySem.W.isClsIn K a_BadCount = true
  h_BadCount : PySem.W.hasDictIn K a_BadCount = true
  ga_BadCount : PySem.W.findIn K (.ref a_BadCount) "__getattribute__" = some (some (.builtin "BaseException.__getattribute__"))
  gg_BadCount : PySem.W.findIn K (.ref a_BadCount) "__getattr__" = some none
  cl_BadCount : PySem.W.findIn K (.ref a_BadCount) "__class__" = some (some (.builtin "object.__class__"))
  mo_BadCount : PySem.W.mroIn K a_BadCount (.type "object") = some true
  v_BadCount : PySem.W.subIn K (.ref a_BadCount) (.type "ValueError") = some true
  s_BadCount_MastError : PySem.W.subIn K (.ref a_BadCount) (.ref a_MastError) = some true
  f_p_check_plan : Addr
  d_p_check_plan : FuncData
  c_tab : Addr
  P_tab : Addr
  W_p_check_plan : FunC K "check_plan" "check_plan" s_p_check_plan f_p_check_plan d_p_check_plan c_tab
  F_p_check_plan : Fun K "check_plan" "check_plan" s_p_check_plan f_p_check_plan d_p_check_plan
  b_p_check_plan : Binds K d_p_check_plan ["signs", "wakes"] []
  g_p_check_plan : mg "check_plan" = some (.ref f_p_check_plan)
  f_p_times : Addr
  d_p_times : FuncData
  F_p_times : Fun K "times" "times" s_p_times f_p_times d_p_times
  b_p_times : Binds K d_p_times ["signs", "wakes"] []
  g_p_times : mg "times" = some (.ref f_p_times)
  f_p_next_acts : Addr
  d_p_next_acts : FuncData
  F_p_next_acts : Fun K "next_acts" "next_acts" s_p_next_acts f_p_next_acts d_p_next_acts
  b_p_next_acts : Binds K d_p_next_acts ["wakes", "acted"] []
  g_p_next_acts : mg "next_acts" = some (.ref f_p_next_acts)
  f_p_through : Addr
  d_p_through : FuncData
  F_p_through : Fun K "through" "through" s_p_through f_p_through d_p_through
  b_p_through : Binds K d_p_through ["signs", "wakes"] []
  g_p_through : mg "through" = some (.ref f_p_through)
  f_l_cell : Addr
  d_l_cell : FuncData
  F_l_cell : Fun K "_law_cell" "_law_cell" s_l_cell f_l_cell d_l_cell
  b_l_cell : Binds K d_l_cell ["_law_script", "_law_at"] []
  g_l_cell : mg "_law_cell" = some (.ref f_l_cell)
  f_l_row : Addr
  d_l_row : FuncData
  F_l_row : Fun K "_law_row" "_law_row" s_l_row f_l_row d_l_row
  b_l_row : Binds K d_l_row ["_law_cell_here", "_law_many", "_law_size"] []
  g_l_row : mg "_law_row" = some (.ref f_l_row)
  f_l_like : Addr
  d_l_like : FuncData
  F_l_like : Fun K "_law_like" "_law_like" s_l_like f_l_like d_l_like
  b_l_like : Binds K d_l_like ["_law_found", "_law_due"] []
  g_l_like : mg "_law_like" = some (.ref f_l_like)
  f_l_wakes : Addr
  d_l_wakes : FuncData
  F_l_wakes : Fun K "_law_wakes" "_law_wakes" s_l_wakes f_l_wakes d_l_wakes
  b_l_wakes : Binds K d_l_wakes ["_law_script", "_law_at"] []
  g_l_wakes : mg "_law_wakes" = some (.ref f_l_wakes)
  f_l_step : Addr
  d_l_step : FuncData
  F_l_step : Fun K "_law_step" "_law_step" s_l_step f_l_step d_l_step
  b_l_step : Binds K d_l_step ["_law_shown", "_law_waits", "_law_begun"] []
  g_l_step : mg "_law_step" = some (.ref f_l_step)
  f_l_played : Addr
  d_l_played : FuncData
  F_l_played : Fun K "_law_played" "_law_played" s_l_played f_l_played d_l_played
  b_l_played : Binds K d_l_played ["_law_signs", "_law_wakes_here", "_law_most"] []
  g_l_played : mg "_law_played" = some (.ref f_l_played)
  f_l_right : Addr
  d_l_right : FuncData
  F_l_right : Fun K "_law_right" "_law_right" s_l_right f_l_right d_l_right
  b_l_right : Binds K d_l_right ["_law_signs", "_law_wakes_here"] []
  g_l_right : mg "_law_right" = some (.ref f_l_right)
  u_FEWEST_MASTS : Value
  c_FEWEST_MASTS : mg "FEWEST_MASTS" = some u_FEWEST_MASTS
  r_FEWEST_MASTS : RelV (.int 2) u_FEWEST_MASTS
  u_MOST_MASTS : Value
  c_MOST_MASTS : mg "MOST_MASTS" = some u_MOST_MASTS
  r_MOST_MASTS : RelV (.int 12) u_MOST_MASTS
  u_MOST_SIGNS : Value
  c_MOST_SIGNS : mg "MOST_SIGNS" = some u_MOST_SIGNS
  r_MOST_SIGNS : RelV (.int 60) u_MOST_SIGNS
  u_LAST_FIRST_BEAT : Value
  c_LAST_FIRST_BEAT : mg "LAST_FIRST_BEAT" = some u_LAST_FIRST_BEAT
  r_LAST_FIRST_BEAT : RelV (.int 1000) u_LAST_FIRST_BEAT
  m_all : mg "all" = none
  m_len : mg "len" = none
  m_range : mg "range" = none
  m_enumerate : mg "enumerate" = none
  m_max : mg "max" = none
  m_isinstance : mg "isinstance" = none
  m_bool : mg "bool" = none
  m_int : mg "int" = none
  m_str : mg "str" = none
  m_list : mg "list" = none
  m_tuple : mg "tuple" = none
  m_min : mg "min" = none
  oc_get : PySem.W.specialIn K (.builtin "object.__class__") "__get__" = some (some (.builtin "getset_descriptor.__get__"))
  oc_tak : PySem.W.takesIn K (.builtin "object.__class__") = some true
section
variable {P : Program} {w : World} {K : PySem.W.Frag} {mg : Str → Option Value} {base : Heap}
/-! ### _law_cell: an int of the script -/
def cellV (ns : List Int) (j : Nat) : Int :=
  if j < ns.length then ns.getD j 0 else if ns.length = 0 then 29 * (j : Int) + 5 else ns.getD (j % ns.length) 0 % 1000003 + 103 * (j : Int)
def sp_l_cell (K : PySem.W.Frag) : Sp := fun vs H Q _ => ∃ (l : Addr) (ns : List Int) (j : Nat), vs = [.ref l, .int j] ∧ SqL K H l (ns.map V.int) ∧ j ≤ 100000 ∧ Q (.int (cellV ns j)) H
theorem getD_at {ns : List Int} {j : Nat} (h : j < ns.length) : atI (ns.map V.int) (j : Int) = some (.int (ns.getD j 0)) := by
  rw [at_int h, List.getD_eq_getElem?_getD, List.getElem?_eq_getElem h]
  rfl
theorem ok_l_cell (T : Txt K mg) : FnOk P w K mg base CX0 1 T.f_l_cell T.d_l_cell ["_law_script", "_law_at"] (sp_l_cell K) := by
  refine T.F_l_cell.ok sc_l_cell (fun vs H Q E h => ?_) (fun cdv A outer s H vs Q E hr h => ?_)
  · obtain ⟨l, ns, j, rfl, _⟩ := h
    rfl
  · obtain ⟨l, ns, j, rfl, hS, hj, k⟩ := h
    have hlen : ((ns.map V.int).length : Int) = (ns.length : Int) := by rw [List.length_map]
    refine ⟨_, (pss_cons (ps_if (pt_cmpR op_lt (pv 1) (pe_callB call_len_seq (by rfl) T.m_len PySem.boot_len (pa_cons (pv 0) pa_nil)) (nomark _))
      (pss_one (ps_ret (pe_ix ix_list (pv 0) (pv 1) (fun _ _ => rfl))))
      pss_nil)
      (pss_cons (ps_if (pt_cmpR op_eq (pe_callB call_len_seq (by rfl) T.m_len PySem.boot_len (pa_cons (pv 0) pa_nil)) pe_int (nomark _))
      (pss_one (ps_ret (pe_op op_add (pe_op op_mul pe_int (pv 1)) pe_int)))
      pss_nil)
      (pss_one (ps_ret (pe_op op_add (pe_op op_mod (pe_ix ix_list (pv 0) (pe_op op_mod (pv 1) (pe_callB call_len_seq (by rfl) T.m_len PySem.boot_len (pa_cons (pv 0) pa_nil))) (fun _ _ => rfl)) pe_int) (pe_op op_mul pe_int (pv 1))))))), ?_⟩
    refine ⟨_, rfl, _, rfl, l, _, rfl, .inl hS, _, _, rfl, rfl, _, rfl, iteD (fun c => ?_) (fun c => ?_)⟩
    · rw [hlen] at c
      refine ⟨_, rfl, _, rfl, l, _, _, _, rfl, rfl, hS, getD_at (show j < ns.length by omega), ?_⟩
      have e : cellV ns j = ns.getD j 0 := if_pos (by omega)
      rw [e] at k
      exact k
    · rw [hlen] at c
      refine ⟨_, rfl, l, _, rfl, .inl hS, rfl, _, rfl, iteD (fun c2 => ?_) (fun c2 => ?_)⟩
      · have c3 : (ns.length : Int) = 0 := by
          have z := V.int.inj c2
          rw [hlen] at z
          exact z
        have e : cellV ns j = 29 * (j : Int) + 5 := by
          unfold cellV
          rw [if_neg (by omega), if_pos (by omega)]
        rw [e] at k
        exact ⟨_, rfl, _, _, rfl, rfl, .inl ⟨by decide, by decide⟩, _, _, rfl, rfl, k⟩
      · have c3 : ns.length ≠ 0 := fun z => c2 (by rw [hlen, z]; rfl)
        have hm : j % ns.length < ns.length := Nat.mod_lt _ (by omega)
        have e : cellV ns j = ns.getD (j % ns.length) 0 % 1000003 + 103 * (j : Int) := by
          unfold cellV
          rw [if_neg (by omega), if_neg c3]
        rw [e] at k
        have ea : atI (ns.map V.int) ((j : Int) % ((ns.map V.int).length : Int)) = some (.int (ns.getD (j % ns.length) 0)) := by
          rw [hlen, ← Int.natCast_emod]
          exact getD_at hm
        exact ⟨_, rfl, _, rfl, _, rfl, l, _, rfl, .inl hS, _, _, rfl, rfl, (by show (0 : Int) < ((ns.map V.int).length : Int); rw [hlen]; omega), l, _, _, _, rfl, rfl, hS, ea, _, _, rfl, rfl, (by show (0 : Int) < 1000003; decide), _, rfl, _, _, rfl, rfl, .inl ⟨by decide, by decide⟩, _, _, rfl, rfl, k⟩
/-! ### _law_like of one datum with itself -/
inductive Dn : Nat → PyData → Prop
  | non (n : Nat) : Dn (n + 1) .none
  | bl (n : Nat) (b : Bool) : Dn (n + 1) (.bool b)
  | int (n : Nat) (i : Int) : Dn (n + 1) (.int i)
  | str (n : Nat) (x : Str) : Dn (n + 1) (.str x)
  | lst {n : Nat} {ds : List PyData} : (∀ d ∈ ds, Dn n d) → ds.length ≤ 10000 → Dn (n + 1) (.list ds)
  | tup {n : Nat} {ds : List PyData} : (∀ d ∈ ds, Dn n d) → ds.length ≤ 10000 → Dn (n + 1) (.tuple ds)
def tyN : PyData → String
  | .none => "NoneType" | .bool _ => "bool" | .int _ => "int" | .str _ => "str" | .list _ => "list" | .tuple _ => "tuple" | .dict _ => "dict"
theorem ty_of {K : PySem.W.Frag} {H : Hp} {v : V} {d : PyData} (h : Dp K H v d) : TyX K H v (.type (tyN d)) := by
  cases h with
  | non => exact .base .non
  | bl b => exact .base (.bl b)
  | int i => exact .base (.int i)
  | str x => exact .base (.str x)
  | lst h _ =>
    rcases h with (h | ⟨o, h⟩) | ⟨o, its, n, e, c, _⟩
    · exact .base (.lst h)
    · exact .base (.frz h)
    · exact .kList e c
  | tup h _ =>
    rcases h with (h | ⟨o, h⟩) | ⟨o, its, n, e, c, _⟩
    · exact .base (.tup h)
    · exact .fTuple h
    · exact .kTuple e c
def sp_l_like (K : PySem.W.Frag) (n : Nat) : Sp := fun vs H Q _ => ∃ (u v : V) (d : PyData), vs = [u, v] ∧ Dp K H u d ∧ Dp K H v d ∧ Dn n d ∧ ∀ H', Kp H H' → Q (.bl true) H'
theorem fn_none {P : Program} {w : World} {K : PySem.W.Frag} {mg : Str → Option Value} {base : Heap} {f : Addr} {fd : FuncData} {ps : List Str} {sp : Sp} {k : Nat} (h : ∀ vs H Q E, ¬ sp vs H Q E) : FnOk P w K mg base CX0 k f fd ps sp :=
  ⟨fun vs H Q E q => (h vs H Q E q).elim, fun _ _ _ H _ _ vs Q E _ _ _ _ q => (h vs H Q E q).elim⟩
theorem bl_all {n : Nat} : ((List.replicate n true).map V.bl) = List.replicate n (V.bl true) := List.map_replicate
theorem all_rep (n : Nat) : (List.replicate n true).all id = true := by
  rw [List.all_eq_true]
  intro x hx
  rw [List.eq_of_mem_replicate hx]
  rfl
theorem k_bb : kitB "bool" "bool" = some true := by decide +kernel
theorem k_bi : kitB "bool" "int" = some true := by decide +kernel
theorem k_bs : kitB "bool" "str" = some false := by decide +kernel
theorem k_bl : kitB "bool" "list" = some false := by decide +kernel
theorem k_bt : kitB "bool" "tuple" = some false := by decide +kernel
theorem k_ib : kitB "int" "bool" = some false := by decide +kernel
theorem k_ii : kitB "int" "int" = some true := by decide +kernel
theorem k_is : kitB "int" "str" = some false := by decide +kernel
theorem k_il : kitB "int" "list" = some false := by decide +kernel
theorem k_it : kitB "int" "tuple" = some false := by decide +kernel
theorem k_sb : kitB "str" "bool" = some false := by decide +kernel
theorem k_si : kitB "str" "int" = some false := by decide +kernel
theorem k_ss : kitB "str" "str" = some true := by decide +kernel
theorem k_sl : kitB "str" "list" = some false := by decide +kernel
theorem k_st : kitB "str" "tuple" = some false := by decide +kernel
theorem k_lb : kitB "list" "bool" = some false := by decide +kernel
theorem k_li : kitB "list" "int" = some false := by decide +kernel
theorem k_ls : kitB "list" "str" = some false := by decide +kernel
theorem k_ll : kitB "list" "list" = some true := by decide +kernel
theorem k_lt : kitB "list" "tuple" = some false := by decide +kernel
theorem k_tb : kitB "tuple" "bool" = some false := by decide +kernel
theorem k_ti : kitB "tuple" "int" = some false := by decide +kernel
theorem k_ts : kitB "tuple" "str" = some false := by decide +kernel
theorem k_tl : kitB "tuple" "list" = some false := by decide +kernel
theorem k_tt : kitB "tuple" "tuple" = some true := by decide +kernel
theorem dec_self {x : V} : decide (x = x) = true := decide_eq_true rfl
theorem ok_l_like (T : Txt K mg) : ∀ n : Nat, FnOk P w K mg base CX0 n T.f_l_like T.d_l_like ["_law_found", "_law_due"] (sp_l_like K n)
  | 0 => fn_none fun vs H Q E ⟨u, v, d, _, _, _, h, _⟩ => nomatch h
  | n + 1 => by
    have IH := ok_l_like T n
    refine T.F_l_like.ok sc_l_like (fun vs H Q E h => ?_) (fun cdv A outer s H vs Q E hr h => ?_)
    · obtain ⟨u, v, d, rfl, _⟩ := h
      rfl
    · obtain ⟨u, v, d, rfl, hu, hv, hn, k⟩ := h
      have tu := ty_of hu
      have tv := ty_of hv
      refine ⟨_, (pss_cons (ps_if (pt_cmpR op_isN (pv 1) pe_non (nomark _))
      (pss_one (ps_ret (pe_cmpR op_isN (pv 0) pe_non (nomark _))))
      pss_nil)
      (pss_cons (ps_if (pt_val (pe_callB call_isi (by rfl) T.m_isinstance (by decide +kernel) (pa_cons (pv 1) (pa_cons (pe_bltn (v := .ty "bool") (by rfl) T.m_bool (by decide +kernel) rfl) pa_nil))))
      (pss_one (ps_ret (pe_and (pe_callB call_isi (by rfl) T.m_isinstance (by decide +kernel) (pa_cons (pv 0) (pa_cons (pe_bltn (v := .ty "bool") (by rfl) T.m_bool (by decide +kernel) rfl) pa_nil))) (pe_one (pe_cmpR op_eq (pv 0) (pv 1) (nomark _))))))
      pss_nil)
      (pss_cons (ps_if (pt_val (pe_callB call_isi (by rfl) T.m_isinstance (by decide +kernel) (pa_cons (pv 1) (pa_cons (pe_bltn (v := .ty "int") (by rfl) T.m_int (by decide +kernel) rfl) pa_nil))))
      (pss_one (ps_ret (pe_and (pe_callB call_isi (by rfl) T.m_isinstance (by decide +kernel) (pa_cons (pv 0) (pa_cons (pe_bltn (v := .ty "int") (by rfl) T.m_int (by decide +kernel) rfl) pa_nil))) (pe_and (pe_not (pe_callB call_isi (by rfl) T.m_isinstance (by decide +kernel) (pa_cons (pv 0) (pa_cons (pe_bltn (v := .ty "bool") (by rfl) T.m_bool (by decide +kernel) rfl) pa_nil)))) (pe_one (pe_cmpR op_eq (pv 0) (pv 1) (nomark _)))))))
      pss_nil)
      (pss_cons (ps_if (pt_val (pe_callB call_isi (by rfl) T.m_isinstance (by decide +kernel) (pa_cons (pv 1) (pa_cons (pe_bltn (v := .ty "str") (by rfl) T.m_str (by decide +kernel) rfl) pa_nil))))
      (pss_one (ps_ret (pe_and (pe_callB call_isi (by rfl) T.m_isinstance (by decide +kernel) (pa_cons (pv 0) (pa_cons (pe_bltn (v := .ty "str") (by rfl) T.m_str (by decide +kernel) rfl) pa_nil))) (pe_one (pe_cmpR op_eq (pv 0) (pv 1) (nomark _))))))
      pss_nil)
      (pss_cons (ps_if (PW.pt (pw_or (pt_cmpR op_ne (pe_callB call_isi (by rfl) T.m_isinstance (by decide +kernel) (pa_cons (pv 1) (pa_cons (pe_bltn (v := .ty "list") (by rfl) T.m_list (by decide +kernel) rfl) pa_nil))) (pe_callB call_isi (by rfl) T.m_isinstance (by decide +kernel) (pa_cons (pv 0) (pa_cons (pe_bltn (v := .ty "list") (by rfl) T.m_list (by decide +kernel) rfl) pa_nil))) (nomark _)) (pw_or1 (pt_cmpR op_ne (pe_callB call_isi (by rfl) T.m_isinstance (by decide +kernel) (pa_cons (pv 1) (pa_cons (pe_bltn (v := .ty "tuple") (by rfl) T.m_tuple (by decide +kernel) rfl) pa_nil))) (pe_callB call_isi (by rfl) T.m_isinstance (by decide +kernel) (pa_cons (pv 0) (pa_cons (pe_bltn (v := .ty "tuple") (by rfl) T.m_tuple (by decide +kernel) rfl) pa_nil))) (nomark _)))))
      (pss_one (ps_ret pe_bl))
      pss_nil)
      (pss_one (ps_ret (pe_and (pe_cmpR op_eq (pe_callB call_len (by rfl) T.m_len PySem.boot_len (pa_cons (pv 0) pa_nil)) (pe_callB call_len (by rfl) T.m_len PySem.boot_len (pa_cons (pv 1) pa_nil)) (nomark _)) (pe_one (pe_callB (cr_all rfl) (by rfl) T.m_all (by decide +kernel) (pa_cons (pe_lc (own := [("_law_k", 2)]) (g := gName 2) (tt := tYes) (by rfl) sc_l_like.nd (pi_range1 (by rfl) T.m_range (pa_cons (pe_callB call_len (by rfl) T.m_len PySem.boot_len (pa_cons (pv 1) pa_nil)) pa_nil)) (blkOk_by (own := [("_law_k", 2)]) (N := ["_law_found", "_law_due", "_law_k"]) (sc := defScope s_l_like) (by decide +kernel)) (fun _ _ _ _ _ => (pg_name (i := 2) sc_l_like.nd rfl (by first | exact Or.inl rfl | exact Or.inr rfl))) (fun _ _ _ _ _ => pts_nil) (fun _ _ _ _ _ => (pe_call IH hr rfl T.g_l_like T.F_l_like.kp T.b_l_like .nil pass0 (pa_cons (pe_ix (ix_seqK K rfl) (pv 0) (pv 2) (fun _ _ => rfl)) (pa_cons (pe_ix (ix_seqK K rfl) (pv 1) (pv 2) (fun _ _ => rfl)) pa_nil))))) pa_nil))))))))))), ?_⟩
      cases hn with
      | non n =>
        cases hu
        cases hv
        refine ⟨_, rfl, rfl, _, rfl, iteTo dec_self ?_⟩
        exact ⟨_, rfl, rfl, k _ (.refl _)⟩
      | bl n b =>
        cases hu
        cases hv
        refine ⟨_, rfl, rfl, _, rfl, iteFo rfl ?_⟩
        refine ⟨_, rfl, _, _, _, _, true, rfl, .ty _, tv, kit_ty k_bb, _, rfl, iteTo rfl ?_⟩
        refine ⟨_, rfl, _, _, _, _, true, rfl, .ty _, tu, kit_ty k_bb, _, rfl, iteTo rfl ?_⟩
        refine ⟨_, rfl, _, rfl, rfl, ?_⟩
        rw [dec_self]
        exact k _ (.refl _)
      | int n i =>
        cases hu
        cases hv
        refine ⟨_, rfl, rfl, _, rfl, iteFo rfl ?_⟩
        refine ⟨_, rfl, _, _, _, _, false, rfl, .ty _, tv, kit_ty k_ib, _, rfl, iteFo rfl ?_⟩
        refine ⟨_, rfl, _, _, _, _, true, rfl, .ty _, tv, kit_ty k_ii, _, rfl, iteTo rfl ?_⟩
        refine ⟨_, rfl, _, _, _, _, true, rfl, .ty _, tu, kit_ty k_ii, _, rfl, iteTo rfl ?_⟩
        refine ⟨_, rfl, _, _, _, _, false, rfl, .ty _, tu, kit_ty k_ib, _, rfl, _, rfl, iteTo rfl ?_⟩
        refine ⟨_, rfl, _, rfl, rfl, ?_⟩
        rw [dec_self]
        exact k _ (.refl _)
      | str n x =>
        cases hu
        cases hv
        refine ⟨_, rfl, rfl, _, rfl, iteFo rfl ?_⟩
        refine ⟨_, rfl, _, _, _, _, false, rfl, .ty _, tv, kit_ty k_sb, _, rfl, iteFo rfl ?_⟩
        refine ⟨_, rfl, _, _, _, _, false, rfl, .ty _, tv, kit_ty k_si, _, rfl, iteFo rfl ?_⟩
        refine ⟨_, rfl, _, _, _, _, true, rfl, .ty _, tv, kit_ty k_ss, _, rfl, iteTo rfl ?_⟩
        refine ⟨_, rfl, _, _, _, _, true, rfl, .ty _, tu, kit_ty k_ss, _, rfl, iteTo rfl ?_⟩
        refine ⟨_, rfl, _, rfl, rfl, ?_⟩
        rw [dec_self]
        exact k _ (.refl _)
      | lst hd hl =>
        rename_i ds
        cases hu with | lst hsu hau =>
        cases hv with | lst hsv hav =>
        rename_i a xs b ys
        have lx := DpAll.len hau
        have ly := DpAll.len hav
        refine ⟨_, rfl, rfl, _, rfl, iteFo rfl ?_⟩
        refine ⟨_, rfl, _, _, _, _, false, rfl, .ty _, tv, kit_ty k_lb, _, rfl, iteFo rfl ?_⟩
        refine ⟨_, rfl, _, _, _, _, false, rfl, .ty _, tv, kit_ty k_li, _, rfl, iteFo rfl ?_⟩
        refine ⟨_, rfl, _, _, _, _, false, rfl, .ty _, tv, kit_ty k_ls, _, rfl, iteFo rfl ?_⟩
        refine ⟨_, rfl, _, _, _, _, true, rfl, .ty _, tv, kit_ty k_ll, _, rfl, _, _, _, _, true, rfl, .ty _, tu, kit_ty k_ll, rfl, _, rfl, iteFo rfl ?_⟩
        refine ⟨_, rfl, _, _, _, _, false, rfl, .ty _, tv, kit_ty k_lt, _, rfl, _, _, _, _, false, rfl, .ty _, tu, kit_ty k_lt, rfl, _, rfl, iteFo rfl ?_⟩
        refine ⟨_, rfl, _, _, rfl, .inl ⟨_, hsu, rfl⟩, _, rfl, _, _, rfl, .inl ⟨_, hsv, rfl⟩, rfl, _, rfl, iteTo (decide_eq_true (congrArg (fun z : Nat => V.int (z : Int)) (lx.trans ly.symm))) ?_⟩
        refine ⟨_, rfl, _, _, rfl, .inl ⟨_, hsv, rfl⟩, _, rfl, by omega, by omega, fun D hD => ?_⟩
        rw [Int.toNat_natCast]
        refine lc_range (lo := 0) (n := ys.length) (fun i H' => Kp H H' ∧ H' D = some (.lst (List.replicate i (V.bl true)))) ⟨Kp.new hD, upd_same⟩ (fun i H' hi ⟨kp, hDl⟩ => ?_) (fun H' ⟨kp, hDl⟩ => ?_)
        · have e0 : (0 : Int) + (i : Int) = (i : Int) := Int.zero_add _
          obtain ⟨d, hdi⟩ : ∃ d, ds[i]? = some d := ⟨_, List.getElem?_eq_getElem (by omega)⟩
          obtain ⟨x, hx, dx⟩ := DpAll.get hau hdi
          obtain ⟨y, hy, dy⟩ := DpAll.get hav hdi
          refine ⟨rfl, ?_⟩
          refine ⟨_, rfl, _, rfl, .inl ⟨_, _, _, x, rfl, rfl, kp.sqL hsu, by rw [e0]; exact atI_nat hx, _, rfl, _, rfl, .inl ⟨_, _, _, y, rfl, rfl, kp.sqL hsv, by rw [e0]; exact atI_nat hy, ?_⟩⟩⟩
          refine ⟨x, y, d, rfl, kp.dp dx, kp.dp dy, hd d (List.mem_of_getElem? hdi), fun H2 k2 => ⟨_, k2.same _ _ rfl hDl, szt (by rw [List.length_replicate]; omega), ?_⟩⟩
          exact ⟨(kp.trans k2).mut hD, by rw [upd_same, List.replicate_succ']⟩
        · refine ⟨D, List.replicate ys.length true, rfl, .inl (.inl (by rw [bl_all]; exact hDl)), ?_⟩
          rw [all_rep]
          exact k _ kp
      | tup hd hl =>
        rename_i ds
        cases hu with | tup hsu hau =>
        cases hv with | tup hsv hav =>
        rename_i a xs b ys
        have lx := DpAll.len hau
        have ly := DpAll.len hav
        refine ⟨_, rfl, rfl, _, rfl, iteFo rfl ?_⟩
        refine ⟨_, rfl, _, _, _, _, false, rfl, .ty _, tv, kit_ty k_tb, _, rfl, iteFo rfl ?_⟩
        refine ⟨_, rfl, _, _, _, _, false, rfl, .ty _, tv, kit_ty k_ti, _, rfl, iteFo rfl ?_⟩
        refine ⟨_, rfl, _, _, _, _, false, rfl, .ty _, tv, kit_ty k_ts, _, rfl, iteFo rfl ?_⟩
        refine ⟨_, rfl, _, _, _, _, false, rfl, .ty _, tv, kit_ty k_tl, _, rfl, _, _, _, _, false, rfl, .ty _, tu, kit_ty k_tl, rfl, _, rfl, iteFo rfl ?_⟩
        refine ⟨_, rfl, _, _, _, _, true, rfl, .ty _, tv, kit_ty k_tt, _, rfl, _, _, _, _, true, rfl, .ty _, tu, kit_ty k_tt, rfl, _, rfl, iteFo rfl ?_⟩
        refine ⟨_, rfl, _, _, rfl, .inr ⟨_, hsu, rfl⟩, _, rfl, _, _, rfl, .inr ⟨_, hsv, rfl⟩, rfl, _, rfl, iteTo (decide_eq_true (congrArg (fun z : Nat => V.int (z : Int)) (lx.trans ly.symm))) ?_⟩
        refine ⟨_, rfl, _, _, rfl, .inr ⟨_, hsv, rfl⟩, _, rfl, by omega, by omega, fun D hD => ?_⟩
        rw [Int.toNat_natCast]
        refine lc_range (lo := 0) (n := ys.length) (fun i H' => Kp H H' ∧ H' D = some (.lst (List.replicate i (V.bl true)))) ⟨Kp.new hD, upd_same⟩ (fun i H' hi ⟨kp, hDl⟩ => ?_) (fun H' ⟨kp, hDl⟩ => ?_)
        · have e0 : (0 : Int) + (i : Int) = (i : Int) := Int.zero_add _
          obtain ⟨d, hdi⟩ : ∃ d, ds[i]? = some d := ⟨_, List.getElem?_eq_getElem (by omega)⟩
          obtain ⟨x, hx, dx⟩ := DpAll.get hau hdi
          obtain ⟨y, hy, dy⟩ := DpAll.get hav hdi
          refine ⟨rfl, ?_⟩
          refine ⟨_, rfl, _, rfl, .inr (.inl ⟨_, _, _, x, rfl, rfl, kp.sqT hsu, by rw [e0]; exact atI_nat hx, _, rfl, _, rfl, .inr (.inl ⟨_, _, _, y, rfl, rfl, kp.sqT hsv, by rw [e0]; exact atI_nat hy, ?_⟩)⟩)⟩
          refine ⟨x, y, d, rfl, kp.dp dx, kp.dp dy, hd d (List.mem_of_getElem? hdi), fun H2 k2 => ⟨_, k2.same _ _ rfl hDl, szt (by rw [List.length_replicate]; omega), ?_⟩⟩
          exact ⟨(kp.trans k2).mut hD, by rw [upd_same, List.replicate_succ']⟩
        · refine ⟨D, List.replicate ys.length true, rfl, .inl (.inl (by rw [bl_all]; exact hDl)), ?_⟩
          rw [all_rep]
          exact k _ kp
/-! ### _law_row: so many ints from nought to below a size -/
def Drawn0 (many size : Int) (xs : List Int) : Prop := (xs.length : Int) = many ∧ ∀ x ∈ xs, 0 ≤ x ∧ x < size
def sp_l_row : Sp := fun vs H Q _ => ∃ (c many size : Int), vs = [.int c, .int many, .int size] ∧ 0 ≤ many ∧ many ≤ 1000 ∧ 0 < size ∧ size < 1073741824 ∧
  ∀ (xs : List Int) (p : Addr) (H' : Hp), H p = none → Kp H H' → H' p = some (.lst (xs.map V.int)) → Drawn0 many size xs → Q (.ref p) H'
theorem snoc_in {size z : Int} {xs : List Int} (hs : 0 < size) (h : ∀ x ∈ xs, 0 ≤ x ∧ x < size) : ∀ x ∈ xs ++ [z % size], 0 ≤ x ∧ x < size := by
  intro x hx
  rcases List.mem_append.mp hx with hx | hx
  · exact h x hx
  · rw [List.mem_singleton.mp hx]
    exact ⟨Int.emod_nonneg _ (by omega), Int.emod_lt_of_pos _ hs⟩
theorem ok_l_row (T : Txt K mg) : FnOk P w K mg base CX0 1 T.f_l_row T.d_l_row ["_law_cell_here", "_law_many", "_law_size"] sp_l_row := by
  refine T.F_l_row.ok sc_l_row (fun vs H Q E h => ?_) (fun cdv A outer s H vs Q E hr h => ?_)
  · obtain ⟨c, many, size, rfl, _⟩ := h
    rfl
  · obtain ⟨c, many, size, rfl, hm0, hm1, hs0, hs1, k⟩ := h
    refine ⟨_, (pss_cons (ps_set (i := 3) sc_l_row.nd rfl (by first | exact Or.inl rfl | exact Or.inr rfl) (pe_lst pa_nil))
      (pss_cons (ps_if (pt_cmpR op_ge (pv 0) (pe_op op_pow pe_int pe_int) (nomark _))
      (pss_cons (ps_set (i := 4) sc_l_row.nd rfl (by first | exact Or.inl rfl | exact Or.inr rfl) (pe_op op_sub (pv 0) (pe_op op_pow pe_int pe_int)))
      (pss_cons (ps_for PassesOwn.never rfl (pi_range1 (by rfl) T.m_range (pa_cons (pv 1) pa_nil)) (pg_name (i := 5) sc_l_row.nd rfl (by first | exact Or.inl rfl | exact Or.inr rfl))
      (pss_cons (ps_expr (pe_bm PySem.F.plainAttrs_list PySem.F.slot_list_append PySem.F.type_list_append mt_append (pv 3) (pa_cons (pe_op op_mod (pv 4) (pv 2)) pa_nil)))
      (pss_one (ps_set (i := 4) sc_l_row.nd rfl (by first | exact Or.inl rfl | exact Or.inr rfl) (pe_op op_fdiv (pv 4) (pv 2))))))
      (pss_one (ps_ret (pv 3)))))
      pss_nil)
      (pss_cons (ps_set (i := 6) sc_l_row.nd rfl (by first | exact Or.inl rfl | exact Or.inr rfl) (pe_op op_mod (pv 0) pe_int))
      (pss_cons (ps_for PassesOwn.never rfl (pi_range1 (by rfl) T.m_range (pa_cons (pv 1) pa_nil)) (pg_name (i := 5) sc_l_row.nd rfl (by first | exact Or.inl rfl | exact Or.inr rfl))
      (pss_cons (ps_set (i := 6) sc_l_row.nd rfl (by first | exact Or.inl rfl | exact Or.inr rfl) (pe_op op_mod (pe_op op_add (pe_op op_add (pe_op op_mul (pv 6) pe_int) pe_int) (pv 5)) pe_int))
      (pss_cons (ps_set (i := 7) sc_l_row.nd rfl (by first | exact Or.inl rfl | exact Or.inr rfl) (pe_op op_mod (pe_op op_fdiv (pe_op op_mul (pv 6) (pe_op op_add (pe_op op_mod (pv 6) pe_int) pe_int)) pe_int) pe_int))
      (pss_one (ps_expr (pe_bm PySem.F.plainAttrs_list PySem.F.slot_list_append PySem.F.type_list_append mt_append (pv 3) (pa_cons (pe_op op_mod (pv 7) (pv 2)) pa_nil)))))))
      (pss_one (ps_ret (pv 3))))))), ?_⟩
    refine ⟨Nat.zero_le _, fun p np => ?_⟩
    generalize h_H1 : upd H p _ = H1
    have k_H1 : Kp H H1 := by rw [← h_H1]; exact .new np
    have q_H1 := (congrFun h_H1 p).symm.trans upd_same
    clear h_H1
    refine ⟨_, rfl, _, _, rfl, rfl, ⟨by decide, by decide, by decide⟩, _, _, rfl, rfl, _, rfl, iteD (fun c1 => ?_) (fun c1 => ?_)⟩
    · refine ⟨_, rfl, _, _, rfl, rfl, ⟨by decide, by decide, by decide⟩, _, _, rfl, rfl, ?_⟩
      refine ⟨_, rfl, many, rfl, by omega, by omega, ?_⟩
      refine for_range (lo := 0) (n := many.toNat) (fun i σ H' => ∃ (xs : List Int) (r : Int) (y : Option V), σ = [some (.int c), some (.int many), some (.int size), some (.ref p), some (.int r), y, none, none] ∧ Kp H H' ∧ H' p = some (.lst (xs.map V.int)) ∧ xs.length = i ∧ ∀ x ∈ xs, 0 ≤ x ∧ x < size)
        ⟨[], _, none, rfl, k_H1, q_H1, rfl, by simp⟩ ?_ ?_
      · rintro i σ H' hi ⟨xs, r, y, rfl, kp, hp, hl, hb⟩
        refine ⟨_, rfl, .inl ⟨rfl, _, SqL.of hp⟩, _, rfl, _, rfl, _, _, rfl, rfl, hs0, p, _, _, rfl, rfl, hp, szt (by rw [List.length_map]; omega), ?_⟩
        refine ⟨_, rfl, _, rfl, _, _, rfl, rfl, ⟨hs0, hs1⟩, ?_⟩
        refine ⟨xs ++ [r % size], _, _, rfl, kp.mut np, ?_, by rw [List.length_append, hl]; rfl, snoc_in hs0 hb⟩
        rw [upd_same, List.map_append]
        rfl
      · rintro σ H' ⟨xs, r, y, rfl, kp, hp, hl, hb⟩
        exact ⟨_, rfl, k xs p H' np kp hp ⟨by omega, hb⟩⟩
    · refine ⟨_, rfl, _, _, rfl, rfl, (by show (0 : Int) < 2147483647; decide), ?_⟩
      refine ⟨_, rfl, many, rfl, by omega, by omega, ?_⟩
      refine for_range (lo := 0) (n := many.toNat) (fun i σ H' => ∃ (xs : List Int) (r : Int) (y y2 : Option V), σ = [some (.int c), some (.int many), some (.int size), some (.ref p), none, y, some (.int r), y2] ∧ Kp H H' ∧ H' p = some (.lst (xs.map V.int)) ∧ xs.length = i ∧ ∀ x ∈ xs, 0 ≤ x ∧ x < size)
        ⟨[], _, none, none, rfl, k_H1, q_H1, rfl, by simp⟩ ?_ ?_
      · rintro i σ H' hi ⟨xs, r, y, y2, rfl, kp, hp, hl, hb⟩
        refine ⟨_, rfl, _, _, rfl, rfl, .inr ⟨by decide, by decide⟩, _, _, rfl, rfl, _, rfl, _, _, rfl, rfl, _, _, rfl, rfl, (by show (0 : Int) < 2147483647; decide), ?_⟩
        generalize hr2 : (fun (i j : Int) => V.int (i % j)) _ _ = sv
        obtain ⟨r2, rfl⟩ : ∃ r2 : Int, sv = .int r2 := ⟨_, hr2.symm⟩
        clear hr2
        have b0 : 0 ≤ r2 % 65521 := Int.emod_nonneg _ (by decide)
        have b1 : r2 % 65521 < 65521 := Int.emod_lt_of_pos _ (by decide)
        refine ⟨_, rfl, _, rfl, _, _, rfl, rfl, (by show (0 : Int) < 65521; decide), _, _, rfl, rfl, _, _, rfl, rfl, .inr ⟨by omega, by omega⟩, _, _, rfl, rfl, ⟨by decide, by decide⟩, _, _, rfl, rfl, (by show (0 : Int) < 1000003; decide), ?_⟩
        refine ⟨_, rfl, .inl ⟨rfl, _, SqL.of hp⟩, _, rfl, _, rfl, _, _, rfl, rfl, hs0, p, _, _, rfl, rfl, hp, szt (by rw [List.length_map]; omega), ?_⟩
        refine ⟨xs ++ [r2 * (r2 % 65521 + 3) / 1009 % 1000003 % size], r2, _, _, rfl, kp.mut np, ?_, by rw [List.length_append, hl]; rfl, snoc_in hs0 hb⟩
        rw [upd_same, List.map_append]
        rfl
      · rintro σ H' ⟨xs, r, y, y2, rfl, kp, hp, hl, hb⟩
        exact ⟨_, rfl, k xs p H' np kp hp ⟨by omega, hb⟩⟩
/-! ### data of few levels can be compared -/
theorem lay_all {ds : List PyData} (h : ∀ d ∈ ds, PyData.canLay0 d = true) : PyData.canLayAll0 ds = true := by
  induction ds with
  | nil => simp [PyData.canLayAll0]
  | cons d r ih => simp [PyData.canLayAll0, h d List.mem_cons_self, ih fun x hx => h x (List.mem_cons_of_mem _ hx)]
theorem dep_all {ds : List PyData} {n : Nat} (h : ∀ d ∈ ds, PyData.depth d ≤ n) : PyData.depthAll ds ≤ n := by
  induction ds with
  | nil => simp [PyData.depthAll]
  | cons d r ih =>
    have h1 := h d List.mem_cons_self
    have h2 := ih fun x hx => h x (List.mem_cons_of_mem _ hx)
    simp only [PyData.depthAll]
    omega
/-- the same without texts -/
inductive Dm : Nat → PyData → Prop
  | non (n : Nat) : Dm (n + 1) .none
  | bl (n : Nat) (b : Bool) : Dm (n + 1) (.bool b)
  | int (n : Nat) (i : Int) : Dm (n + 1) (.int i)
  | lst {n : Nat} {ds : List PyData} : (∀ d ∈ ds, Dm n d) → ds.length ≤ 10000 → Dm (n + 1) (.list ds)
  | tup {n : Nat} {ds : List PyData} : (∀ d ∈ ds, Dm n d) → ds.length ≤ 10000 → Dm (n + 1) (.tuple ds)
theorem Dm.dn {n : Nat} {d : PyData} (h : Dm n d) : Dn n d := by
  induction h with
  | non n => exact .non _
  | bl n b => exact .bl _ _
  | int n i => exact .int _ _
  | lst h1 h2 ih => exact .lst ih h2
  | tup h1 h2 ih => exact .tup ih h2
theorem Dm.lay {n : Nat} {d : PyData} (h : Dm n d) : PyData.canLay0 d = true ∧ PyData.depth d ≤ n := by
  induction h with
  | non n => exact ⟨by simp [PyData.canLay0], by simp [PyData.depth]⟩
  | bl n b => exact ⟨by simp [PyData.canLay0], by simp [PyData.depth]⟩
  | int n i => exact ⟨by simp [PyData.canLay0], by simp [PyData.depth]⟩
  | lst h1 h2 ih =>
    refine ⟨by simp only [PyData.canLay0]; exact lay_all fun d hd => (ih d hd).1, ?_⟩
    have := dep_all fun d hd => (ih d hd).2
    simp only [PyData.depth]
    omega
  | tup h1 h2 ih =>
    refine ⟨by simp only [PyData.canLay0]; exact lay_all fun d hd => (ih d hd).1, ?_⟩
    have := dep_all fun d hd => (ih d hd).2
    simp only [PyData.depth]
    omega
theorem Dm.shaped {n : Nat} {d : PyData} (h : Dm n d) (hn : n ≤ 64) : SeqAt.shaped d = true := by
  have ⟨h1, h2⟩ := h.lay
  show (PyData.canLay0 d && decide (PyData.depth d ≤ 64)) = true
  rw [h1, decide_eq_true (by omega)]
  rfl
theorem Dm.same {n : Nat} {d : PyData} (h : Dm n d) (hn : n ≤ 64) : PyData.eqv d d = true := SeqAt.eqv_refl _ (SeqAt.canLay_of_shaped (h.shaped hn))
theorem dm_dI {n : Nat} {ns : List Int} (h : ns.length ≤ 10000) : Dm (n + 2) (dI ns) := .lst (fun d hd => by obtain ⟨z, _, rfl⟩ := List.mem_map.mp hd; exact .int _ _) (by rw [List.length_map]; exact h)
/-! ### plans: the beats of acts -/
def mxB (ac : List Int) (i : Nat) : Int := if i + 1 < ac.length then max (ac.getD i 0) (ac.getD (i + 1) 0) else ac.getD i 0
def bh (ws ac : List Int) : Nat → Int
  | 0 => 0
  | i + 1 => max (ws.getD i 0) (max (bh ws ac i + 1) (mxB ac i + 1))
def nextA (ws ac : List Int) (n : Nat) : List Int := (List.range n).map fun i => bh ws ac (i + 1)
theorem nextA_succ (ws ac : List Int) (n : Nat) : nextA ws ac (n + 1) = nextA ws ac n ++ [bh ws ac (n + 1)] := by
  unfold nextA
  rw [List.range_succ, List.map_append]
  rfl
theorem nextA_len (ws ac : List Int) (n : Nat) : (nextA ws ac n).length = n := by
  unfold nextA
  rw [List.length_map, List.length_range]
theorem cut_two {ac : List Int} {i : Nat} (h : i < ac.length) : ∃ ms : List Int, cutV (ac.map V.int) (some (i : Int)) (some ((i : Int) + 2)) = ms.map V.int ∧ 0 < ms.length ∧ ∀ m, m ∈ ms → (∀ y, y ∈ ms → y ≤ m) → m = mxB ac i := by
  unfold cutV
  rw [List.length_map, HT.sIx_nat, show (i : Int) + 2 = ((i + 2 : Nat) : Int) by omega, HT.sIx_nat]
  refine ⟨(ac.drop (min i ac.length)).take (min (i + 2) ac.length - min i ac.length), by rw [List.map_take, List.map_drop], ?_, ?_⟩
  · rw [List.length_take, List.length_drop]
    omega
  · rw [show min i ac.length = i by omega]
    intro m hm hy
    unfold mxB
    by_cases c : i + 1 < ac.length
    · have e : (ac.drop i).take (min (i + 2) ac.length - i) = [ac.getD i 0, ac.getD (i + 1) 0] := by
        have z1 : ac.getD i 0 = ac[i] := by rw [List.getD_eq_getElem?_getD, List.getElem?_eq_getElem h]; rfl
        have z2 : ac.getD (i + 1) 0 = ac[i + 1] := by rw [List.getD_eq_getElem?_getD, List.getElem?_eq_getElem c]; rfl
        rw [show min (i + 2) ac.length - i = 2 by omega, List.drop_eq_getElem_cons h, List.drop_eq_getElem_cons c, List.take_succ_cons, List.take_succ_cons, List.take_zero, z1, z2]
      rw [e] at hm hy
      rw [if_pos c]
      have h1 := hy (ac.getD i 0) (by simp)
      have h2 := hy (ac.getD (i + 1) 0) (by simp)
      simp only [List.mem_cons, List.not_mem_nil, or_false] at hm
      rcases hm with rfl | rfl <;> omega
    · have e : (ac.drop i).take (min (i + 2) ac.length - i) = [ac.getD i 0] := by
        have z1 : ac.getD i 0 = ac[i] := by rw [List.getD_eq_getElem?_getD, List.getElem?_eq_getElem h]; rfl
        rw [show min (i + 2) ac.length - i = 1 by omega, List.drop_eq_getElem_cons h, List.take_succ_cons, List.take_zero, z1]
      rw [e] at hm
      rw [if_neg c]
      exact List.mem_singleton.mp hm
theorem max_nu (a b c : Int) : nuMax3 (.int a) (.int b) (.int c) = some (.int (max a (max b c))) := by
  have h2 : ∀ x y : Int, nuMax2 (.int x) (.int y) = some (.int (max x y)) := by
    intro x y
    show some (if decide (x < y) = true then V.int y else V.int x) = _
    by_cases h : x < y
    · rw [decide_eq_true h, if_pos rfl, show max x y = y by omega]
    · rw [decide_eq_false h, if_neg Bool.false_ne_true, show max x y = x by omega]
  unfold nuMax3
  rw [h2]
  show nuMax2 (.int (max a b)) (.int c) = _
  rw [h2, show max (max a b) c = max a (max b c) by omega]
def sp_p_next_acts (K : PySem.W.Frag) : Sp := fun vs H Q _ => ∃ (a b : Addr) (ws ac : List Int), vs = [.ref a, .ref b] ∧ SqL K H a (ws.map V.int) ∧ SqL K H b (ac.map V.int) ∧ ws.length ≤ 1000 ∧ ac.length = ws.length ∧
  ∀ (p : Addr) (H' : Hp), Kp H H' → H p = none → H' p = some (.lst ((nextA ws ac ws.length).map V.int)) → Q (.ref p) H'
theorem ok_p_next_acts (T : Txt K mg) : FnOk P w K mg base CX0 1 T.f_p_next_acts T.d_p_next_acts ["wakes", "acted"] (sp_p_next_acts K) := by
  refine T.F_p_next_acts.ok sc_p_next_acts (fun vs H Q E h => ?_) (fun cdv A outer s H vs Q E hr h => ?_)
  · obtain ⟨a, b, ws, ac, rfl, _⟩ := h
    rfl
  · obtain ⟨a, b, ws, ac, rfl, hS, hB, hl, hlc, k⟩ := h
    refine ⟨_, (pss_cons (ps_set (i := 2) sc_p_next_acts.nd rfl (by first | exact Or.inl rfl | exact Or.inr rfl) (pe_lst pa_nil))
      (pss_cons (ps_set (i := 3) sc_p_next_acts.nd rfl (by first | exact Or.inl rfl | exact Or.inr rfl) pe_int)
      (pss_cons (ps_for PassesOwn.never rfl (pi_enum (by rfl) T.m_enumerate (pa_cons (pv 0) pa_nil)) (pg_tup (n := 2) rfl (pgs_cons (pg_name (i := 4) sc_p_next_acts.nd rfl (by first | exact Or.inl rfl | exact Or.inr rfl)) (pgs_cons (pg_name (i := 5) sc_p_next_acts.nd rfl (by first | exact Or.inl rfl | exact Or.inr rfl)) pgs_nil)))
      (pss_cons (ps_set (i := 6) sc_p_next_acts.nd rfl (by first | exact Or.inl rfl | exact Or.inr rfl) (pe_callB (cr_max rfl) (by rfl) T.m_max (by decide +kernel) (pa_cons (pe_slice sl_list (pv 1) (po_some (pv 4)) (po_some (pe_op op_add (pv 4) pe_int))) pa_nil)))
      (pss_cons (ps_set (i := 3) sc_p_next_acts.nd rfl (by first | exact Or.inl rfl | exact Or.inr rfl) (pe_callB (call_max3Nu rfl) (by rfl) T.m_max (by decide +kernel) (pa_cons (pv 5) (pa_cons (pe_op op_add (pv 3) pe_int) (pa_cons (pe_op op_add (pv 6) pe_int) pa_nil)))))
      (pss_one (ps_expr (pe_bm PySem.F.plainAttrs_list PySem.F.slot_list_append PySem.F.type_list_append mt_append (pv 2) (pa_cons (pv 3) pa_nil)))))))
      (pss_one (ps_ret (pv 2)))))), ?_⟩
    refine ⟨Nat.zero_le _, fun p np => ?_⟩
    generalize h_H1 : upd H p _ = H1
    have k_H1 : Kp H H1 := by rw [← h_H1]; exact .new np
    have q_H1 := (congrFun h_H1 p).symm.trans upd_same
    clear h_H1
    refine ⟨_, rfl, a, _, rfl, k_H1.sqL hS, for_it (walk_enum (K := K) (a := a) (xs := ws.map V.int)) (fun i σ H' => ∃ (y1 y2 y3 : Option V), σ = [some (.ref a), some (.ref b), some (.ref p), some (.int (bh ws ac i)), y1, y2, y3] ∧ Kp H H' ∧ H' p = some (.lst ((nextA ws ac i).map V.int)))
      ⟨none, none, none, rfl, k_H1, q_H1⟩ (fun i σ H' _ ⟨_, _, _, _, kp, _⟩ => kp.sqL hS) ?_ ?_⟩
    · rintro i x σ H' H'' hi ⟨y1, y2, y3, rfl, kp, hp⟩ ⟨t, i', v, rfl, nt, rfl, ei, ev⟩
      cases Option.some.inj ei
      rw [List.length_map] at hi
      have ev : (ws.map V.int)[i]? = some v := ev
      rw [List.getElem?_map, List.getElem?_eq_getElem hi] at ev
      cases Option.some.inj ev
      have ew : ws.getD i 0 = ws[i] := by rw [List.getD_eq_getElem?_getD, List.getElem?_eq_getElem hi]; rfl
      generalize h_H2 : upd H' t _ = H2
      have k_H2 : Kp H' H2 := by rw [← h_H2]; exact .new nt
      have q_H2 := (congrFun h_H2 t).symm.trans upd_same
      clear h_H2
      refine ⟨t, _, rfl, .inl (.inl q_H2), rfl, _, _, rfl, _, _, rfl, rfl, ?_⟩
      refine ⟨_, rfl, _, rfl, _, rfl, _, rfl, _, _, rfl, rfl, _, rfl, b, _, rfl, (kp.trans k_H2).sqL hB, fun u nu => ?_⟩
      obtain ⟨ms, em, hm0, hmx⟩ := cut_two (ac := ac) (i := i) (by omega)
      generalize h_H3 : upd H2 u _ = H3
      have k_H3 : Kp H2 H3 := by rw [← h_H3]; exact .new nu
      have q_H3 := (congrFun h_H3 u).symm.trans upd_same
      clear h_H3
      have qu : H3 u = some (.lst (ms.map V.int)) := by rw [q_H3]; exact congrArg (fun z => some (HO.lst z)) em
      refine ⟨u, ms, rfl, .inl (.inl qu), hm0, fun m h1 h2 => ?_⟩
      rw [hmx m h1 h2]
      refine ⟨_, rfl, _, rfl, _, _, rfl, rfl, _, rfl, _, _, rfl, rfl, _, _, _, _, rfl, max_nu _ _ _, ?_⟩
      rw [← ew]
      have h3 := (k_H2.trans k_H3).same _ _ rfl hp
      refine ⟨_, rfl, .inl ⟨rfl, _, SqL.of h3⟩, _, rfl, p, _, _, rfl, rfl, h3, szt (by rw [List.length_map, nextA_len]; omega), ?_⟩
      refine ⟨_, _, _, rfl, ((kp.trans k_H2).trans k_H3).mut np, ?_⟩
      rw [upd_same, nextA_succ, List.map_append]
      rfl
    · rintro σ H' ⟨y1, y2, y3, rfl, kp, hp⟩
      rw [List.length_map] at hp
      exact ⟨_, rfl, k p H' kp np hp⟩
/-! the beats of each sign -/
mutual
def lwL (ws : List Int) : Nat → List Int
  | 0 => List.replicate ws.length 0
  | s + 1 => nextA ws (rsL ws s) ws.length
def rsL (ws : List Int) (s : Nat) : List Int := nextA ws (lwL ws s) ws.length
end
theorem lwL_len (ws : List Int) (s : Nat) : (lwL ws s).length = ws.length := by
  cases s with
  | zero => simp only [lwL]; rw [List.length_replicate]
  | succ s => simp only [lwL]; rw [nextA_len]
theorem rsL_len (ws : List Int) (s : Nat) : (rsL ws s).length = ws.length := by
  simp only [rsL]
  rw [nextA_len]
def okPlan (s : Int) (ws : List Int) : Bool := (decide (2 ≤ (ws.length : Int)) && decide ((ws.length : Int) ≤ 12)) && ((decide (0 ≤ s) && decide (s ≤ 60)) && ws.all (fun c => decide (1 ≤ c) && decide (c ≤ 1000)))
def sp_p_check_plan (K : PySem.W.Frag) (P C : Addr) : Sp := fun vs H Q E => ∃ (s : Int) (a : Addr) (ws : List Int), vs = [.int s, .ref a] ∧ SqL K H a (ws.map V.int) ∧ GxR.TabG H P ∧ (okPlan s ws = true → ∀ H', Kp H H' → Q .non H') ∧ (okPlan s ws = false → ∀ H', Kp H H' → E (.ref C) none H')
theorem ok_p_check_plan (T : Txt K mg) (TB : GxR.TabB base mg T.c_tab T.P_tab) : FnOk P w K mg base (L2.CX P w) 4 T.f_p_check_plan T.d_p_check_plan ["signs", "wakes"] (sp_p_check_plan K T.P_tab T.a_BadCount) := by
  obtain ⟨tl, hu⟩ := T.r_LAST_FIRST_BEAT
  have hL : mg "LAST_FIRST_BEAT" = some (.int 1000 tl) := T.c_LAST_FIRST_BEAT.trans (congrArg some hu)
  refine T.W_p_check_plan.okX sc_p_check_plan (fun vs H Q E h => ?_) (fun A outer s H vs Q E hr h => ?_)
  · obtain ⟨s, a, ws, rfl, _⟩ := h
    rfl
  · obtain ⟨s, a, ws, rfl, hS, hT, k, kE⟩ := h
    have hlen : ((ws.map V.int).length : Int) = (ws.length : Int) := by rw [List.length_map]
    unfold okPlan at k kE
    refine ⟨_, (pss_cons (ps_if (pt_not (pt_chain op_le op_le (pe_glob rfl T.c_FEWEST_MASTS T.r_FEWEST_MASTS) (pe_callB call_len_seq (by rfl) T.m_len PySem.boot_len (pa_cons (pv 1) pa_nil)) (pe_glob rfl T.c_MOST_MASTS T.r_MOST_MASTS)))
      (pss_one (ps_raise rfl (takes_of rfl rfl rfl rfl) (pmk_own PySem.F.excBase_ValueError T.x_BadCount T.g_BadCount T.k_BadCount (raises_own T.b_BadCount T.t_BadCount) rfl)))
      pss_nil)
      (pss_cons (ps_if (pt_not (pt_chain op_le op_le pe_int (pv 0) (pe_glob rfl T.c_MOST_SIGNS T.r_MOST_SIGNS)))
      (pss_one (ps_raise rfl (takes_of rfl rfl rfl rfl) (pmk_own PySem.F.excBase_ValueError T.x_BadCount T.g_BadCount T.k_BadCount (raises_own T.b_BadCount T.t_BadCount) rfl)))
      pss_nil)
      (pss_one (ps_if (pt_not (pt_val (pe_allI hr (by rfl) T.m_all (by decide +kernel) TB rfl ⟨rfl, rfl, noCell (by decide +kernel), rfl, rfl, noFree (by decide +kernel)⟩ (pv 1) (elt_chain rfl rfl rfl hL) (fun _ => rfl))))
      (pss_one (ps_raise rfl (takes_of rfl rfl rfl rfl) (pmk_own PySem.F.excBase_ValueError T.x_BadCount T.g_BadCount T.k_BadCount (raises_own T.b_BadCount T.t_BadCount) rfl)))
      pss_nil)))), ?_⟩
    refine ⟨_, rfl, a, _, rfl, .inl hS, _, _, rfl, rfl, _, rfl, ?_⟩
    rw [hlen]
    by_cases c1 : 2 ≤ (ws.length : Int)
    · rw [decide_eq_true c1] at k kE
      refine iteTo (decide_eq_true c1) ⟨_, _, rfl, rfl, _, rfl, ?_⟩
      by_cases c2 : (ws.length : Int) ≤ 12
      · rw [decide_eq_true c2] at k kE
        refine iteFo (by rw [decide_eq_true c2]; rfl) ?_
        refine ⟨_, rfl, _, _, rfl, rfl, _, rfl, ?_⟩
        by_cases c3 : 0 ≤ s
        · rw [decide_eq_true c3] at k kE
          refine iteTo (decide_eq_true c3) ⟨_, _, rfl, rfl, _, rfl, ?_⟩
          by_cases c4 : s ≤ 60
          · rw [decide_eq_true c4] at k kE
            refine iteFo (by rw [decide_eq_true c4]; rfl) ?_
            refine ⟨_, rfl, a, ws, rfl, hS, hT, fun H2 t2 => ⟨_, rfl, ?_⟩⟩
            have kp := kp_tabbed hT t2
            refine iteB (fun c => ?_) (fun c => ?_)
            · exact kE (by simpa using c) _ kp
            · exact k (by simpa using c) _ kp
          · rw [decide_eq_false c4] at kE
            exact iteTo (by rw [decide_eq_false c4]; rfl) (kE rfl _ (.refl _))
        · rw [decide_eq_false c3] at kE
          exact iteFo (decide_eq_false c3) ⟨_, rfl, iteTo rfl (kE rfl _ (.refl _))⟩
      · rw [decide_eq_false c2] at kE
        exact iteTo (by rw [decide_eq_false c2]; rfl) (kE rfl _ (.refl _))
    · rw [decide_eq_false c1] at kE
      exact iteFo (decide_eq_false c1) ⟨_, rfl, iteTo rfl (kE rfl _ (.refl _))⟩
theorem okPlan_iff {s : Int} {ws : List Int} (h : okPlan s ws = true) : 2 ≤ ws.length ∧ ws.length ≤ 12 ∧ 0 ≤ s ∧ s ≤ 60 := by
  unfold okPlan at h
  simp only [Bool.and_eq_true, decide_eq_true_eq] at h
  omega
/-- the tuples of a told plan, each with its two lists, in the heap H'; all of them new in H -/
def Told (ws : List Int) (H H' : Hp) (p : Addr) (ts : List (Addr × Addr × Addr)) : Prop :=
  ∀ (j : Nat) (t r l : Addr), ts[j]? = some (t, r, l) → (t ≠ p ∧ r ≠ p ∧ l ≠ p) ∧ (H t = none ∧ H r = none ∧ H l = none) ∧ H' t = some (.tup [.ref r, .ref l]) ∧ H' r = some (.lst ((rsL ws j).map V.int)) ∧ H' l = some (.lst ((lwL ws (j + 1)).map V.int))
def sp_p_times (K : PySem.W.Frag) (P C : Addr) : Sp := fun vs H Q E => ∃ (s : Int) (a : Addr) (ws : List Int), vs = [.int s, .ref a] ∧ SqL K H a (ws.map V.int) ∧ GxR.TabG H P ∧
  (okPlan s ws = true → ∀ (p : Addr) (ts : List (Addr × Addr × Addr)) (H' : Hp), Kp H H' → H p = none → H' p = some (.lst (ts.map fun x => .ref x.1)) → (ts.length : Int) = s → Told ws H H' p ts → Q (.ref p) H') ∧ (okPlan s ws = false → ∀ H', Kp H H' → E (.ref C) none H')
theorem rep_int (n : Nat) (z : Int) : (List.replicate n [V.int z]).flatten = (List.replicate n z).map V.int := by
  rw [List.flatten_replicate_singleton, List.map_replicate]
theorem ok_p_times (T : Txt K mg) (TB : GxR.TabB base mg T.c_tab T.P_tab) : FnOk P w K mg base (L2.CX P w) 5 T.f_p_times T.d_p_times ["signs", "wakes"] (sp_p_times K T.P_tab T.a_BadCount) := by
  refine T.F_p_times.okX sc_p_times (fun vs H Q E h => ?_) (fun cdv A outer s H vs Q E hr h => ?_)
  · obtain ⟨s, a, ws, rfl, _⟩ := h
    rfl
  · obtain ⟨s, a, ws, rfl, hS, hT, k, kE⟩ := h
    have hlen : ((ws.map V.int).length : Int) = (ws.length : Int) := by rw [List.length_map]
    refine ⟨_, (pss_cons (ps_expr (pe_call (ok_p_check_plan T TB) (hr.mono (by decide)) rfl T.g_p_check_plan T.F_p_check_plan.kp T.b_p_check_plan .nil (passes_call (takes_of rfl rfl rfl rfl) (fun _ _ _ _ z => z)) (pa_cons (pv 0) (pa_cons (pv 1) pa_nil))))
      (pss_cons (ps_set (i := 2) sc_p_times.nd rfl (by first | exact Or.inl rfl | exact Or.inr rfl) (pe_lst pa_nil))
      (pss_cons (ps_set (i := 3) sc_p_times.nd rfl (by first | exact Or.inl rfl | exact Or.inr rfl) (pe_op op_rep (pe_lst (pa_cons pe_int pa_nil)) (pe_callB call_len_seq (by rfl) T.m_len PySem.boot_len (pa_cons (pv 1) pa_nil))))
      (pss_cons (ps_for (passes_of rfl) rfl (pi_range1 (by rfl) T.m_range (pa_cons (pv 0) pa_nil)) (pg_name (i := 4) sc_p_times.nd rfl (by first | exact Or.inl rfl | exact Or.inr rfl))
      (pss_cons (ps_set (i := 5) sc_p_times.nd rfl (by first | exact Or.inl rfl | exact Or.inr rfl) (pe_call (ok_p_next_acts T) (hr.mono (by decide)) rfl T.g_p_next_acts T.F_p_next_acts.kp T.b_p_next_acts .nil pass0 (pa_cons (pv 1) (pa_cons (pv 3) pa_nil))))
      (pss_cons (ps_set (i := 3) sc_p_times.nd rfl (by first | exact Or.inl rfl | exact Or.inr rfl) (pe_call (ok_p_next_acts T) (hr.mono (by decide)) rfl T.g_p_next_acts T.F_p_next_acts.kp T.b_p_next_acts .nil pass0 (pa_cons (pv 1) (pa_cons (pv 5) pa_nil))))
      (pss_one (ps_expr (pe_bm PySem.F.plainAttrs_list PySem.F.slot_list_append PySem.F.type_list_append mt_append (pv 2) (pa_cons (pe_tup (pa_cons (pv 5) (pa_cons (pv 3) pa_nil))) pa_nil)))))))
      (pss_one (ps_ret (pv 2))))))), ?_⟩
    refine ⟨_, rfl, _, rfl, s, a, ws, rfl, hS, hT, fun hg H1 k1 => ?_, fun hg H1 k1 => kE hg _ k1⟩
    have k := k hg
    obtain ⟨g1, g2, g3, g4⟩ := okPlan_iff hg
    refine ⟨Nat.zero_le _, fun p np => ?_⟩
    generalize h_H2 : upd H1 p _ = H2
    have k_H2 : Kp H1 H2 := by rw [← h_H2]; exact .new np
    have q_H2 := (congrFun h_H2 p).symm.trans upd_same
    clear h_H2
    have fp := k1.free _ np
    refine ⟨szl (by show 1 ≤ 100000; decide), fun u nu => ?_⟩
    generalize h_H3 : upd H2 u _ = H3
    have k_H3 : Kp H2 H3 := by rw [← h_H3]; exact .new nu
    have q_H3 := (congrFun h_H3 u).symm.trans upd_same
    clear h_H3
    refine ⟨_, rfl, a, _, rfl, .inl (((k1.trans k_H2).trans k_H3).sqL hS), u, _, _, rfl, rfl, q_H3, by rw [hlen]; omega, by rw [hlen]; omega, szl (by rw [Int.toNat_natCast, List.length_map]; show 1 * ws.length ≤ 100000; omega), fun q nq => ?_⟩
    generalize h_H4 : upd H3 q _ = H4
    have k_H4 : Kp H3 H4 := by rw [← h_H4]; exact .new nq
    have q_H4 := (congrFun h_H4 q).symm.trans upd_same
    clear h_H4
    rw [Int.toNat_natCast, List.length_map, rep_int] at q_H4
    have k04 := ((k1.trans k_H2).trans k_H3).trans k_H4
    have hp4 := (k_H3.trans k_H4).same _ _ rfl q_H2
    have neq : q ≠ p := (ne_of_none (k_H3.same _ _ rfl q_H2) nq).symm
    refine ⟨_, rfl, s, rfl, by omega, by omega, ?_⟩
    refine for_range (lo := 0) (n := s.toNat) (fun i σ H' => ∃ (ts : List (Addr × Addr × Addr)) (l : Addr) (y4 y5 : Option V), σ = [some (.int s), some (.ref a), some (.ref p), some (.ref l), y4, y5] ∧ Kp H H' ∧ H' p = some (.lst (ts.map fun x => .ref x.1)) ∧ ts.length = i ∧ Told ws H H' p ts ∧ l ≠ p ∧ H' l = some (.lst ((lwL ws i).map V.int)))
        ⟨[], q, none, none, rfl, k04, hp4, rfl, by intro j t r l h; simp at h, neq, by simp only [lwL]; exact q_H4⟩ ?_ ?_
    · rintro i σ H' hi ⟨ts, l, y4, y5, rfl, kp, hp, htl, told, nel, hl⟩
      refine ⟨_, rfl, _, rfl, a, l, ws, lwL ws i, rfl, kp.sqL hS, .inl (.inl hl), by omega, lwL_len ws i, fun r H5 k5 nr qr => ?_⟩
      refine ⟨_, rfl, _, rfl, a, r, ws, rsL ws i, rfl, (kp.trans k5).sqL hS, .inl (.inl (by simp only [rsL]; exact qr)), by omega, rsL_len ws i, fun l2 H6 k6 nl2 ql2 => ?_⟩
      have hp6 := (k5.trans k6).same _ _ rfl hp
      refine ⟨_, rfl, .inl ⟨rfl, _, SqL.of hp6⟩, _, rfl, _, rfl, szl (by show 2 ≤ 100000; decide), fun t nt => ?_⟩
      generalize h_H7 : upd H6 t _ = H7
      have k_H7 : Kp H6 H7 := by rw [← h_H7]; exact .new nt
      have q_H7 := (congrFun h_H7 t).symm.trans upd_same
      clear h_H7
      have k57 := (k5.trans k6).trans k_H7
      have hp7 := k_H7.same _ _ rfl hp6
      refine ⟨p, _, _, rfl, rfl, hp7, szt (by rw [List.length_map]; omega), ?_⟩
      have ner : r ≠ p := (ne_of_none hp nr).symm
      have nel2 : l2 ≠ p := (ne_of_none (k5.same _ _ rfl hp) nl2).symm
      have net : t ≠ p := (ne_of_none hp6 nt).symm
      refine ⟨ts ++ [(t, r, l2)], l2, _, _, rfl, (kp.trans k57).mut fp, by rw [upd_same, List.map_append]; rfl, by rw [List.length_append, htl]; rfl, fun j t' r' l' hj => ?_, nel2, by rw [upd_ne nel2]; simp only [lwL]; exact k_H7.same _ _ rfl ql2⟩
      by_cases c : j < ts.length
      · rw [List.getElem?_append_left c] at hj
        obtain ⟨⟨d1, d2, d3⟩, d4, d5, d6, d7⟩ := told j t' r' l' hj
        exact ⟨⟨d1, d2, d3⟩, d4, by rw [upd_ne d1]; exact k57.same _ _ rfl d5, by rw [upd_ne d2]; exact k57.same _ _ rfl d6, by rw [upd_ne d3]; exact k57.same _ _ rfl d7⟩
      · have c2 : j = ts.length := by
          have z := (List.getElem?_eq_some_iff.mp hj).1
          rw [List.length_append] at z
          have : [(t, r, l2)].length = 1 := rfl
          omega
        subst c2
        rw [List.getElem?_append_right (Nat.le_refl _), Nat.sub_self] at hj
        cases Option.some.inj hj
        refine ⟨⟨net, ner, nel2⟩, ⟨(kp.trans (k5.trans k6)).free _ nt, kp.free _ nr, (kp.trans k5).free _ nl2⟩, by rw [upd_ne net]; exact q_H7, ?_, ?_⟩
        · rw [upd_ne ner, htl]
          simp only [rsL]
          exact (k6.trans k_H7).same _ _ rfl qr
        · rw [upd_ne nel2, htl]
          simp only [lwL]
          exact k_H7.same _ _ rfl ql2
    · rintro σ H' ⟨ts, l, y4, y5, rfl, kp, hp, htl, told, nel, hl⟩
      exact ⟨_, rfl, k p ts H' kp fp hp (by omega) told⟩
/-- when a plan is through -/
def thrN (s : Int) (ws : List Int) : Int := if s = 0 then 0 else bh ws (rsL ws (s.toNat - 1)) ws.length
def sp_p_through (K : PySem.W.Frag) (P C : Addr) : Sp := fun vs H Q E => ∃ (s : Int) (a : Addr) (ws : List Int), vs = [.int s, .ref a] ∧ SqL K H a (ws.map V.int) ∧ GxR.TabG H P ∧
  (okPlan s ws = true → ∀ H', Kp H H' → Q (.int (thrN s ws)) H') ∧ (okPlan s ws = false → ∀ H', Kp H H' → E (.ref C) none H')
theorem at_minus {α : Type} {xs : List α} {v : α} (h : xs[xs.length - 1]? = some v) : atI xs (-1) = some v := by
  have hne : xs ≠ [] := fun e => by rw [e] at h; simp at h
  have e := List.dropLast_concat_getLast hne
  have z := atI_last xs.dropLast (xs.getLast hne)
  rw [e] at z
  rw [z, List.getLast_eq_getElem]
  rw [← h]
  exact (List.getElem?_eq_getElem _).symm
theorem ok_p_through (T : Txt K mg) (TB : GxR.TabB base mg T.c_tab T.P_tab) : FnOk P w K mg base (L2.CX P w) 6 T.f_p_through T.d_p_through ["signs", "wakes"] (sp_p_through K T.P_tab T.a_BadCount) := by
  refine T.F_p_through.okX sc_p_through (fun vs H Q E h => ?_) (fun cdv A outer s H vs Q E hr h => ?_)
  · obtain ⟨s, a, ws, rfl, _⟩ := h
    rfl
  · obtain ⟨s, a, ws, rfl, hS, hT, k, kE⟩ := h
    refine ⟨_, (pss_cons (ps_set (i := 2) sc_p_through.nd rfl (by first | exact Or.inl rfl | exact Or.inr rfl) (pe_call (ok_p_times T TB) (hr.mono (by decide)) rfl T.g_p_times T.F_p_times.kp T.b_p_times .nil (passes_call (takes_of rfl rfl rfl rfl) (fun _ _ _ _ z => z)) (pa_cons (pv 0) (pa_cons (pv 1) pa_nil))))
      (pss_cons (ps_if (pt_not (pt_truth (pv 2) (by intro _; rfl)))
      (pss_one (ps_ret pe_int))
      pss_nil)
      (pss_cons (ps_asg (pe_ix ix_list (pv 2) (pe_un un_neg pe_int) (fun _ _ => rfl)) (pg_tup (n := 2) rfl (pgs_cons (pg_name (i := 3) sc_p_through.nd rfl (by first | exact Or.inl rfl | exact Or.inr rfl)) (pgs_cons (pg_name (i := 4) sc_p_through.nd rfl (by first | exact Or.inl rfl | exact Or.inr rfl)) pgs_nil))))
      (pss_one (ps_ret (pe_ix ix_list (pv 4) (pe_un un_neg pe_int) (fun _ _ => rfl))))))), ?_⟩
    refine ⟨_, rfl, _, rfl, s, a, ws, rfl, hS, hT, fun hg p ts H1 k1 np hp htl told => ?_, fun hg H1 k1 => kE hg _ k1⟩
    have k := k hg
    obtain ⟨g1, g2, g3, g4⟩ := okPlan_iff hg
    unfold thrN at k
    cases ts with
    | nil =>
      have hs : s = 0 := by simp at htl; omega
      rw [if_pos hs] at k
      exact ⟨_, rfl, false, .inl ⟨[], .inl (.inl hp), rfl⟩, iteTo rfl (k _ k1)⟩
    | cons t0 r0 =>
      have hs : s ≠ 0 := fun e => by rw [List.length_cons] at htl; omega
      rw [if_neg hs] at k
      refine ⟨_, rfl, true, .inl ⟨_, .inl (.inl hp), rfl⟩, iteFo rfl ?_⟩
      generalize hts : t0 :: r0 = ts at hp htl told
      have hpos : 0 < ts.length := by omega
      obtain ⟨x, hx⟩ : ∃ x, ts[ts.length - 1]? = some x := ⟨_, List.getElem?_eq_getElem (by omega)⟩
      obtain ⟨t, r, l⟩ := x
      obtain ⟨_, _, d5, d6, d7⟩ := told _ t r l hx
      have hi1 : atI (ts.map fun x => V.ref x.1) (-1) = some (.ref t) := at_minus (by rw [List.length_map, List.getElem?_map, hx]; rfl)
      refine ⟨_, rfl, 1, rfl, p, _, _, _, rfl, rfl, .inl (.inl hp), hi1, ?_⟩
      refine ⟨t, _, rfl, .inl (.inl d5), rfl, _, _, rfl, _, _, rfl, rfl, ?_⟩
      have e1 : ts.length - 1 + 1 = ts.length := by omega
      have e2 : s.toNat - 1 = ts.length - 1 := by omega
      have hi2 : atI ((lwL ws (ts.length - 1 + 1)).map V.int) (-1) = some (.int (bh ws (rsL ws (ts.length - 1)) ws.length)) := by
        refine at_minus ?_
        simp only [lwL]
        rw [List.length_map, nextA_len, List.getElem?_map]
        unfold nextA
        rw [List.getElem?_map, List.getElem?_range (by omega)]
        show some (V.int (bh ws _ (ws.length - 1 + 1))) = _
        rw [show ws.length - 1 + 1 = ws.length by omega]
      refine ⟨_, rfl, 1, rfl, l, _, _, _, rfl, rfl, .inl (.inl d7), hi2, ?_⟩
      rw [← e2]
      exact k _ k1
/-! ### plans with one first beat changed -/
theorem okPlan_set {s : Int} {ws : List Int} {j : Nat} {z : Int} (h : okPlan s ws = true) (hz : 1 ≤ z) (hz2 : z ≤ 1000) : okPlan s (ws.set j z) = true := by
  unfold okPlan at *
  rw [List.length_set]
  simp only [Bool.and_eq_true, decide_eq_true_eq, List.all_eq_true] at *
  refine ⟨h.1, h.2.1, fun x hx => ?_⟩
  rcases List.mem_or_eq_of_mem_set hx with hx | rfl
  · exact h.2.2 x hx
  · exact ⟨hz, hz2⟩
theorem okPlan_at {s : Int} {ws : List Int} {j : Nat} (h : okPlan s ws = true) (hj : j < ws.length) : 1 ≤ ws.getD j 0 ∧ ws.getD j 0 ≤ 1000 := by
  unfold okPlan at h
  simp only [Bool.and_eq_true, decide_eq_true_eq, List.all_eq_true] at h
  have hm : ws.getD j 0 ∈ ws := by
    rw [List.getD_eq_getElem?_getD, List.getElem?_eq_getElem hj]
    exact List.getElem_mem hj
  exact h.2.2 _ hm
theorem set_self {ws : List Int} {j : Nat} (hj : j < ws.length) : ws.set j (ws.getD j 0) = ws := by
  rw [List.getD_eq_getElem?_getD, List.getElem?_eq_getElem hj]
  exact List.set_getElem_self hj
/-! ### playing beat by beat comes to the recurrence -/
def acts (ws : List Int) : Nat → List Int
  | 0 => List.replicate ws.length 0
  | k + 1 => nextA ws (acts ws k) ws.length
theorem acts_len (ws : List Int) (k : Nat) : (acts ws k).length = ws.length := by
  cases k with
  | zero => show (List.replicate ws.length (0 : Int)).length = _; rw [List.length_replicate]
  | succ k => show (nextA ws (acts ws k) ws.length).length = _; rw [nextA_len]
theorem lw_acts (ws : List Int) : ∀ s : Nat, lwL ws s = acts ws (2 * s) ∧ rsL ws s = acts ws (2 * s + 1)
  | 0 => by
    have e : lwL ws 0 = acts ws 0 := by simp only [lwL]; rfl
    refine ⟨e, ?_⟩
    simp only [rsL]
    rw [e]
    rfl
  | s + 1 => by
    obtain ⟨_, h⟩ := lw_acts ws s
    have e : lwL ws (s + 1) = acts ws (2 * (s + 1)) := by
      simp only [lwL]
      rw [h]
      rfl
    refine ⟨e, ?_⟩
    simp only [rsL]
    rw [e]
    rfl
def TT (ws : List Int) (k p : Nat) : Int := (acts ws k).getD p 0
theorem TT_zero (ws : List Int) (p : Nat) : TT ws 0 p = 0 := by
  show (List.replicate ws.length (0 : Int)).getD p 0 = 0
  rw [List.getD_eq_getElem?_getD, List.getElem?_replicate]
  split <;> rfl
theorem nextA_get {ws ac : List Int} {n i : Nat} (h : i < n) : (nextA ws ac n).getD i 0 = bh ws ac (i + 1) := by
  unfold nextA
  rw [List.getD_eq_getElem?_getD, List.getElem?_map, List.getElem?_range h]
  rfl
theorem TT_succ {ws : List Int} {k p : Nat} (h : p < ws.length) : TT ws (k + 1) p = bh ws (acts ws k) (p + 1) := nextA_get h
theorem TT_rec {ws : List Int} {k p : Nat} (h : p < ws.length) : TT ws (k + 1) p = max (ws.getD p 0) (max ((if p = 0 then 0 else TT ws (k + 1) (p - 1)) + 1) ((if p + 1 < ws.length then max (TT ws k p) (TT ws k (p + 1)) else TT ws k p) + 1)) := by
  rw [TT_succ h]
  show max _ (max (bh ws (acts ws k) p + 1) (mxB (acts ws k) p + 1)) = _
  have e1 : bh ws (acts ws k) p = if p = 0 then 0 else TT ws (k + 1) (p - 1) := by
    by_cases c : p = 0
    · subst c
      rfl
    · rw [if_neg c, TT_succ (by omega), show p - 1 + 1 = p by omega]
  have e2 : mxB (acts ws k) p = if p + 1 < ws.length then max (TT ws k p) (TT ws k (p + 1)) else TT ws k p := by
    unfold mxB TT
    rw [acts_len]
  rw [e1, e2]
theorem TT_self {ws : List Int} {k p : Nat} (h : p < ws.length) : TT ws k p < TT ws (k + 1) p := by
  rw [TT_rec h]
  split <;> omega
theorem TT_wake {ws : List Int} {k p : Nat} (h : p < ws.length) : ws.getD p 0 ≤ TT ws (k + 1) p := by
  rw [TT_rec h]
  omega
theorem TT_behind {ws : List Int} {k p : Nat} (h : p + 1 < ws.length) : TT ws (k + 1) p < TT ws (k + 1) (p + 1) := by
  rw [TT_rec (p := p + 1) h, if_neg (by omega), show p + 1 - 1 = p by omega]
  omega
theorem TT_ahead {ws : List Int} {k p : Nat} (h : p + 1 < ws.length) : TT ws k (p + 1) < TT ws (k + 1) p := by
  rw [TT_rec (p := p) (by omega), if_pos h]
  omega
theorem TT_pos {ws : List Int} {k p : Nat} (h : p < ws.length) : 0 ≤ TT ws k p := by
  induction k with
  | zero => rw [TT_zero]; omega
  | succ k ih => have := TT_self (k := k) h; omega
theorem TT_mono {ws : List Int} {p : Nat} (h : p < ws.length) {j k : Nat} (hj : j ≤ k) : TT ws j p ≤ TT ws k p := by
  induction hj with
  | refl => omega
  | step _ ih => exact Int.le_trans ih (Int.le_of_lt (TT_self h))
theorem TT_bound {ws : List Int} (hw : ∀ p, p < ws.length → ws.getD p 0 ≤ 1000) : ∀ k p : Nat, p < ws.length → TT ws k p ≤ 1000 + 2 * (k : Int) + (p : Int)
  | 0, p, h => by rw [TT_zero]; omega
  | k + 1, 0, h => by
    have i1 := TT_bound hw k 0 h
    have w := hw 0 h
    rw [TT_rec h, if_pos rfl]
    split
    · have i2 := TT_bound hw k (0 + 1) (by omega)
      omega
    · omega
  | k + 1, p + 1, h => by
    have i0 := TT_bound hw (k + 1) p (by omega)
    have i1 := TT_bound hw k (p + 1) h
    have w := hw (p + 1) h
    rw [TT_rec h, if_neg (by omega), show p + 1 - 1 = p by omega]
    split
    · have i2 := TT_bound hw k (p + 1 + 1) (by omega)
      omega
    · omega
/-- behind beat b each place has done so many acts -/
def Sta (ws : List Int) (S : Nat) (b : Int) (c : Nat → Nat) : Prop := ∀ p, p < ws.length → c p ≤ 2 * S ∧ TT ws (c p) p ≤ b ∧ (c p < 2 * S → b < TT ws (c p + 1) p)
section
variable {ws : List Int} {S : Nat} {b : Int} {c : Nat → Nat}
theorem Sta.ge (h : Sta ws S b c) {p j : Nat} (hp : p < ws.length) (hj : j ≤ 2 * S) (ht : TT ws j p ≤ b) : j ≤ c p := by
  by_cases q : j ≤ c p
  · exact q
  · have z := (h p hp).2.2 (by omega)
    have m := TT_mono hp (show c p + 1 ≤ j by omega)
    omega
theorem Sta.le (h : Sta ws S b c) {p : Nat} (hp : p + 1 < ws.length) : c (p + 1) ≤ c p := by
  by_cases q : c (p + 1) = 0
  · omega
  · have z := h (p + 1) hp
    have t := TT_behind (ws := ws) (k := c (p + 1) - 1) hp
    rw [show c (p + 1) - 1 + 1 = c (p + 1) by omega] at t
    exact h.ge (by omega) z.1 (by omega)
theorem Sta.ge1 (h : Sta ws S b c) {p : Nat} (hp : p + 1 < ws.length) : c p ≤ c (p + 1) + 1 := by
  by_cases q : c p = 0
  · omega
  · have z := h p (by omega)
    have t := TT_ahead (ws := ws) (k := c p - 1) hp
    rw [show c p - 1 + 1 = c p by omega] at t
    have := h.ge hp (show c p - 1 ≤ 2 * S by omega) (by omega)
    omega
/-- who acts on the next beat -/
theorem Sta.acts_iff (h : Sta ws S b c) (hb : 0 ≤ b) {p : Nat} (hp : p < ws.length) : (c p < 2 * S ∧ TT ws (c p + 1) p ≤ b + 1) ↔ (ws.getD p 0 ≤ b + 1 ∧ (p = 0 → c p < 2 * S) ∧ (0 < p → c (p - 1) = c p + 1) ∧ (p + 1 < ws.length → c (p + 1) = c p)) := by
  have zp := h p hp
  constructor
  · rintro ⟨h1, h2⟩
    refine ⟨by have := TT_wake (k := c p) hp; omega, fun _ => h1, fun h0 => ?_, fun hn => ?_⟩
    · obtain ⟨q, rfl⟩ : ∃ q, p = q + 1 := ⟨p - 1, by omega⟩
      have t := TT_behind (ws := ws) (k := c (q + 1)) hp
      have g := h.ge (p := q) (j := c (q + 1) + 1) (by omega) (by omega) (by omega)
      have u := h.ge1 (p := q) hp
      show c (q + 1 - 1) = _
      rw [show q + 1 - 1 = q by omega]
      omega
    · have t := TT_ahead (ws := ws) (k := c p) hn
      have g := h.ge hn (j := c p) zp.1 (by omega)
      have u := h.le hn
      omega
  · rintro ⟨h1, h2, h3, h4⟩
    have hk : c p < 2 * S := by
      by_cases q : p = 0
      · exact h2 q
      · have := h3 (by omega)
        have := (h (p - 1) (by omega)).1
        omega
    refine ⟨hk, ?_⟩
    rw [TT_rec hp]
    have e1 : (if p = 0 then 0 else TT ws (c p + 1) (p - 1)) ≤ b := by
      split
      · exact hb
      · have := h3 (by omega)
        have z := (h (p - 1) (by omega)).2.1
        rw [this] at z
        exact z
    have e2 : (if p + 1 < ws.length then max (TT ws (c p) p) (TT ws (c p) (p + 1)) else TT ws (c p) p) ≤ b := by
      split
      · rename_i hn
        have := h4 hn
        have z := (h (p + 1) hn).2.1
        rw [this] at z
        omega
      · exact zp.2.1
    omega
/-- a beat -/
theorem Sta.step (h : Sta ws S b c) (f : Nat → Bool) (hf : ∀ p, p < ws.length → (f p = true ↔ (c p < 2 * S ∧ TT ws (c p + 1) p ≤ b + 1))) : Sta ws S (b + 1) (fun p => if f p = true then c p + 1 else c p) := by
  intro p hp
  have zp := h p hp
  have fp := hf p hp
  show (if f p = true then c p + 1 else c p) ≤ 2 * S ∧ TT ws (if f p = true then c p + 1 else c p) p ≤ b + 1 ∧ ((if f p = true then c p + 1 else c p) < 2 * S → b + 1 < TT ws ((if f p = true then c p + 1 else c p) + 1) p)
  by_cases q : f p = true
  · rw [if_pos q]
    obtain ⟨g1, g2⟩ := fp.mp q
    have z := zp.2.2 g1
    have t := TT_self (ws := ws) (k := c p + 1) hp
    exact ⟨by omega, g2, fun _ => by omega⟩
  · rw [if_neg q]
    refine ⟨zp.1, by omega, fun g => ?_⟩
    have z := zp.2.2 g
    by_cases y : TT ws (c p + 1) p ≤ b + 1
    · exact (q (fp.mpr ⟨g, y⟩)).elim
    · omega
/-- where nobody has acted on beat b, nobody acts until the next first beat -/
theorem Sta.skip (h0 : Sta ws S (b - 1) c) (h : Sta ws S b c) (hb : 1 ≤ b) {m : Int} (hm : ∀ p, p < ws.length → b < ws.getD p 0 → m ≤ ws.getD p 0) (hbm : b ≤ m - 1) : Sta ws S (m - 1) c := by
  have key : ∀ (τ : Nat) (p : Nat), p < ws.length → c p < 2 * S → TT ws (c p + 1) p = (τ : Int) → m ≤ (τ : Int) := by
    intro τ
    induction τ using Nat.strongRecOn with
    | ind τ ih =>
      intro p hp hk ht
      have zp := h p hp
      have z0 := h0 p hp
      have hlt := zp.2.2 hk
      by_cases done : m ≤ (τ : Int)
      · exact done
      · exfalso
        have hw : ws.getD p 0 < (τ : Int) := by
          by_cases y : b < ws.getD p 0
          · have := hm p hp y
            have := TT_wake (k := c p) hp
            omega
          · omega
        have hb1 : (if p = 0 then 0 else TT ws (c p + 1) (p - 1)) + 1 < (τ : Int) := by
          split
          · omega
          · rename_i hp0
            obtain ⟨q, rfl⟩ : ∃ q, p = q + 1 := ⟨p - 1, by omega⟩
            rw [show q + 1 - 1 = q by omega]
            have t := TT_behind (ws := ws) (k := c (q + 1)) hp
            by_cases y : TT ws (c (q + 1) + 1) q ≤ b
            · have g := h.ge (p := q) (j := c (q + 1) + 1) (by omega) (by omega) y
              have zq := (h0 q (by omega)).2.1
              have mm := TT_mono (ws := ws) (p := q) (by omega) g
              omega
            · have g : c q = c (q + 1) := by
                have u := h.le (p := q) hp
                by_cases v : c (q + 1) + 1 ≤ c q
                · have mm := TT_mono (ws := ws) (p := q) (by omega) v
                  have := (h q (by omega)).2.1
                  omega
                · omega
              have pos := TT_pos (ws := ws) (k := c (q + 1) + 1) (p := q) (by omega)
              have := ih (TT ws (c (q + 1) + 1) q).toNat (by omega) q (by omega) (by omega) (by rw [g]; omega)
              omega
        have hb2 : (if p + 1 < ws.length then max (TT ws (c p) p) (TT ws (c p) (p + 1)) else TT ws (c p) p) + 1 < (τ : Int) := by
          have s1 := z0.2.1
          split
          · rename_i hn
            have t := TT_ahead (ws := ws) (k := c p) hn
            by_cases y : TT ws (c p) (p + 1) ≤ b
            · have g := h.ge hn (j := c p) zp.1 y
              have zq := (h0 (p + 1) hn).2.1
              have mm := TT_mono (ws := ws) hn g
              omega
            · have u := h.ge1 hn
              have g : c (p + 1) + 1 = c p := by
                by_cases v : c p ≤ c (p + 1)
                · have mm := TT_mono (ws := ws) hn v
                  have := (h (p + 1) hn).2.1
                  omega
                · omega
              have pos := TT_pos (ws := ws) (k := c p) hn
              have := ih (TT ws (c p) (p + 1)).toNat (by omega) (p + 1) hn (by omega) (by rw [g]; omega)
              omega
          · omega
        rw [TT_rec hp] at ht
        omega
  intro p hp
  have zp := h p hp
  refine ⟨zp.1, by omega, fun g => ?_⟩
  have pos := TT_pos (ws := ws) (k := c p + 1) hp
  have := key (TT ws (c p + 1) p).toNat p hp g (by omega)
  omega
end
/-! ### places that a test picks -/
def fil (f : Nat → Bool) (n : Nat) : List Int := ((List.range n).filter f).map (fun (x : Nat) => (x : Int))
theorem fil_yes {f : Nat → Bool} {n : Nat} (h : f n = true) : fil f (n + 1) = fil f n ++ [(n : Int)] := by
  unfold fil
  rw [List.range_succ, List.filter_append, List.map_append]
  simp [h]
theorem fil_no {f : Nat → Bool} {n : Nat} (h : f n = false) : fil f (n + 1) = fil f n := by
  unfold fil
  rw [List.range_succ, List.filter_append, List.map_append]
  simp [h]
theorem fil_len (f : Nat → Bool) (n : Nat) : (fil f n).length ≤ n := by
  unfold fil
  rw [List.length_map]
  exact Nat.le_trans (List.length_filter_le _ _) (by rw [List.length_range]; exact Nat.le_refl _)
theorem fil_mem {f : Nat → Bool} {n : Nat} {x : Int} : x ∈ fil f n ↔ ∃ p : Nat, x = (p : Int) ∧ p < n ∧ f p = true := by
  unfold fil
  simp only [List.mem_map, List.mem_filter, List.mem_range]
  constructor
  · rintro ⟨p, ⟨h1, h2⟩, rfl⟩
    exact ⟨p, rfl, h1, h2⟩
  · rintro ⟨p, rfl, h1, h2⟩
    exact ⟨p, ⟨h1, h2⟩, rfl⟩
/-! ### _law_step: who acts -/
def behN (sh : List Int) (wt : Int) (p : Nat) : Int := if 0 < p then sh.getD (p - 1) 0 else (if decide (0 < wt) = true then 1 else 0)
def ahdN (sh : List Int) (p : Nat) : Int := if p + 1 < sh.length then sh.getD (p + 1) 0 else -1
def stp (sh : List Int) (wt : Int) (bg : List Bool) (p : Nat) : Bool :=
  bg.getD p false && ((decide (sh.getD p 0 = 0) && (decide (behN sh wt p = 1) && (decide (p + 1 = sh.length) || decide (ahdN sh p = 0)))) || (decide (sh.getD p 0 = 1) && ((decide (p = 0) || decide (behN sh wt p = 0)) && (decide (p + 1 = sh.length) || decide (ahdN sh p = 1)))))
theorem at_pred {sh : List Int} {p : Nat} (h0 : p ≠ 0) (h : p < sh.length) : atI (sh.map V.int) ((p : Int) - 1) = some (.int (sh.getD (p - 1) 0)) := by
  have e := getD_at (ns := sh) (j := p - 1) (by omega)
  rw [← e]
  congr 1
  omega
theorem at_succ {sh : List Int} {p : Nat} (h : p + 1 < sh.length) : atI (sh.map V.int) ((p : Int) + 1) = some (.int (sh.getD (p + 1) 0)) := by
  have e := getD_at (ns := sh) (j := p + 1) h
  rw [← e]
  congr 1
theorem at_bl {bs : List Bool} {j : Nat} (h : j < bs.length) : atI (bs.map V.bl) (j : Int) = some (.bl (bs.getD j false)) := by
  refine atI_nat ?_
  rw [List.getElem?_map, List.getElem?_eq_getElem h, List.getD_eq_getElem?_getD, List.getElem?_eq_getElem h]
  rfl
def sp_l_step (K : PySem.W.Frag) : Sp := fun vs H Q _ => ∃ (a f : Addr) (sh : List Int) (wt : Int) (bg : List Bool), vs = [.ref a, .int wt, .ref f] ∧ SqL K H a (sh.map V.int) ∧ SqL K H f (bg.map V.bl) ∧ bg.length = sh.length ∧ sh.length ≤ 1000 ∧
  ∀ (p : Addr) (H' : Hp), Kp H H' → H p = none → H' p = some (.lst ((fil (stp sh wt bg) sh.length).map V.int)) → Q (.ref p) H'
theorem ok_l_step (T : Txt K mg) : FnOk P w K mg base CX0 1 T.f_l_step T.d_l_step ["_law_shown", "_law_waits", "_law_begun"] (sp_l_step K) := by
  refine T.F_l_step.ok sc_l_step (fun vs H Q E h => ?_) (fun cdv A outer s H vs Q E hr h => ?_)
  · obtain ⟨a, f, sh, wt, bg, rfl, _⟩ := h
    rfl
  · obtain ⟨a, f, sh, wt, bg, rfl, hS, hF, hbl, hl, k⟩ := h
    have hlen : ((sh.map V.int).length : Int) = (sh.length : Int) := by rw [List.length_map]
    refine ⟨_, (pss_cons (ps_set (i := 3) sc_l_step.nd rfl (by first | exact Or.inl rfl | exact Or.inr rfl) (pe_op op_sub (pe_callB call_len_seq (by rfl) T.m_len PySem.boot_len (pa_cons (pv 0) pa_nil)) pe_int))
      (pss_cons (ps_set (i := 4) sc_l_step.nd rfl (by first | exact Or.inl rfl | exact Or.inr rfl) (pe_lst pa_nil))
      (pss_cons (ps_for PassesOwn.never rfl (pi_range1 (by rfl) T.m_range (pa_cons (pe_callB call_len_seq (by rfl) T.m_len PySem.boot_len (pa_cons (pv 0) pa_nil)) pa_nil)) (pg_name (i := 5) sc_l_step.nd rfl (by first | exact Or.inl rfl | exact Or.inr rfl))
      (Evl.pss_cut (ps_set (i := 6) sc_l_step.nd rfl (by first | exact Or.inl rfl | exact Or.inr rfl) (pe_ifExp (pt_cmpR op_gt (pv 5) pe_int (nomark _)) (pe_ix ix_list (pv 0) (pe_op op_sub (pv 5) pe_int) (fun _ _ => rfl)) (pe_callTy call_int1 (by rfl) T.m_int (by decide +kernel) (pa_cons (pe_cmpR op_gt (pv 1) pe_int (nomark _)) pa_nil))))
      (Evl.pss_cut (ps_set (i := 7) sc_l_step.nd rfl (by first | exact Or.inl rfl | exact Or.inr rfl) (pe_ifExp (pt_cmpR op_lt (pv 5) (pv 3) (nomark _)) (pe_ix ix_list (pv 0) (pe_op op_add (pv 5) pe_int) (fun _ _ => rfl)) (pe_op op_sub pe_int pe_int)))
      (Evl.pss_cut (ps_if (pt_not (pt_val (pe_ix ix_list (pv 2) (pv 5) (fun _ _ => rfl))))
      (pss_one ps_continue)
      pss_nil)
      (Evl.pss_cut (ps_if (PW.pt (pw_and (pt_cmpR op_eq (pe_ix ix_list (pv 0) (pv 5) (fun _ _ => rfl)) pe_int (nomark _)) (pw_and (pt_cmpR op_eq (pv 6) pe_int (nomark _)) (pw_and1 (PW.pt (pw_or (pt_cmpR op_eq (pv 5) (pv 3) (nomark _)) (pw_or1 (pt_cmpR op_eq (pv 7) pe_int (nomark _)))))))))
      (pss_one (ps_expr (pe_bm PySem.F.plainAttrs_list PySem.F.slot_list_append PySem.F.type_list_append mt_append (pv 4) (pa_cons (pv 5) pa_nil))))
      pss_nil)
      (pss_one (ps_if (PW.pt (pw_and (pt_cmpR op_eq (pe_ix ix_list (pv 0) (pv 5) (fun _ _ => rfl)) pe_int (nomark _)) (pw_and (PW.pt (pw_or (pt_cmpR op_eq (pv 5) pe_int (nomark _)) (pw_or1 (pt_cmpR op_eq (pv 6) pe_int (nomark _))))) (pw_and1 (PW.pt (pw_or (pt_cmpR op_eq (pv 5) (pv 3) (nomark _)) (pw_or1 (pt_cmpR op_eq (pv 7) pe_int (nomark _)))))))))
      (pss_one (ps_expr (pe_bm PySem.F.plainAttrs_list PySem.F.slot_list_append PySem.F.type_list_append mt_append (pv 4) (pa_cons (pv 5) pa_nil))))
      pss_nil)))))))
      (pss_one (ps_ret (pv 4)))))), ?_⟩
    refine ⟨_, rfl, a, _, rfl, .inl hS, _, _, rfl, rfl, ?_⟩
    refine ⟨Nat.zero_le _, fun q nq => ?_⟩
    generalize h_H1 : upd H q _ = H1
    have k_H1 : Kp H H1 := by rw [← h_H1]; exact .new nq
    have q_H1 := (congrFun h_H1 q).symm.trans upd_same
    clear h_H1
    refine ⟨_, rfl, a, _, rfl, .inl (k_H1.sqL hS), _, rfl, by omega, by rw [hlen]; omega, ?_⟩
    refine for_range (lo := 0) (n := ((sh.map V.int).length : Int).toNat) (fun i σ H' => ∃ (y5 y6 y7 : Option V), σ = [some (.ref a), some (.int wt), some (.ref f), some (.int (((sh.map V.int).length : Int) - 1)), some (.ref q), y5, y6, y7] ∧ Kp H H' ∧ H' q = some (.lst ((fil (stp sh wt bg) i).map V.int)))
      ⟨none, none, none, rfl, k_H1, q_H1⟩ ?_ ?_
    · rintro i σ H' hi ⟨y5, y6, y7, rfl, kp, hq⟩
      have hi : i < sh.length := by rw [List.length_map] at hi; omega
      have ez : (0 : Int) + (i : Int) = (i : Int) := Int.zero_add _
      rw [ez]
      have hfl := fil_len (stp sh wt bg) i
      let Mid (u6 u7 : Option V) : L2.St := [some (.ref a), some (.int wt), some (.ref f), some (.int (((sh.map V.int).length : Int) - 1)), some (.ref q), some (.int (i : Int)), u6, u7]
      refine ⟨fun σ' H'' => σ' = Mid (some (.int (behN sh wt i))) y7 ∧ H'' = H', ?_, ?_⟩
      · unfold behN
        by_cases c : 0 < i
        · rw [if_pos c]
          exact ⟨_, rfl, _, _, rfl, rfl, _, rfl, iteTo (decide_eq_true (by omega)) ⟨_, rfl, _, rfl, _, _, rfl, rfl, a, _, _, _, rfl, rfl, kp.sqL hS, at_pred (by omega) hi, rfl, rfl⟩⟩
        · rw [if_neg c]
          exact ⟨_, rfl, _, _, rfl, rfl, _, rfl, iteFo (decide_eq_false (by omega)) ⟨_, rfl, _, _, rfl, rfl, .inr ⟨_, rfl, rfl, rfl⟩⟩⟩
      rintro σ' H'' ⟨rfl, rfl⟩
      refine ⟨fun σ' H3 => σ' = Mid (some (.int (behN sh wt i))) (some (.int (ahdN sh i))) ∧ H3 = H'', ?_, ?_⟩
      · unfold ahdN
        by_cases c : i + 1 < sh.length
        · rw [if_pos c]
          exact ⟨_, rfl, _, rfl, _, _, rfl, rfl, _, rfl, iteTo (decide_eq_true (by rw [hlen]; omega)) ⟨_, rfl, _, rfl, _, _, rfl, rfl, a, _, _, _, rfl, rfl, kp.sqL hS, at_succ c, rfl, rfl⟩⟩
        · rw [if_neg c]
          exact ⟨_, rfl, _, rfl, _, _, rfl, rfl, _, rfl, iteFo (decide_eq_false (by rw [hlen]; omega)) ⟨_, _, rfl, rfl, rfl, rfl⟩⟩
      rintro σ' H'' ⟨rfl, rfl⟩
      have stop : stp sh wt bg i = false → ∃ (y5 y6 y7 : Option V), Mid (some (.int (behN sh wt i))) (some (.int (ahdN sh i))) = [some (.ref a), some (.int wt), some (.ref f), some (.int (((sh.map V.int).length : Int) - 1)), some (.ref q), y5, y6, y7] ∧ Kp H H'' ∧ H'' q = some (.lst ((fil (stp sh wt bg) (i + 1)).map V.int)) := fun hs => ⟨_, _, _, rfl, kp, by rw [fil_no hs]; exact hq⟩
      have go : stp sh wt bg i = true → ∃ (y5 y6 y7 : Option V), Mid (some (.int (behN sh wt i))) (some (.int (ahdN sh i))) = [some (.ref a), some (.int wt), some (.ref f), some (.int (((sh.map V.int).length : Int) - 1)), some (.ref q), y5, y6, y7] ∧ Kp H (upd H'' q (.lst (((fil (stp sh wt bg) i).map V.int) ++ [.int (i : Int)]))) ∧ (upd H'' q (.lst (((fil (stp sh wt bg) i).map V.int) ++ [.int (i : Int)]))) q = some (.lst ((fil (stp sh wt bg) (i + 1)).map V.int)) := fun hs => ⟨_, _, _, rfl, kp.mut nq, by rw [upd_same, fil_yes hs, List.map_append]; rfl⟩
      generalize hbe : behN sh wt i = be at stop go
      generalize hah : ahdN sh i = ah at stop go
      have estp : stp sh wt bg i = (bg.getD i false && ((decide (sh.getD i 0 = 0) && (decide (be = 1) && (decide (i + 1 = sh.length) || decide (ah = 0)))) || (decide (sh.getD i 0 = 1) && ((decide (i = 0) || decide (be = 0)) && (decide (i + 1 = sh.length) || decide (ah = 1)))))) := by unfold stp; rw [hbe, hah]
      refine ⟨fun σ' H3 => σ' = Mid (some (.int be)) (some (.int ah)) ∧ H3 = H'' ∧ bg.getD i false = true, ?_, ?_⟩
      · refine ⟨_, rfl, _, rfl, f, _, _, _, rfl, rfl, kp.sqL hF, at_bl (by omega), _, rfl, ?_⟩
        cases hb : bg.getD i false with
        | false =>
          rw [hb] at estp
          exact iteTo rfl (stop (by rw [estp]; rfl))
        | true => exact iteFo rfl ⟨rfl, rfl, rfl⟩
      rintro σ' H3 ⟨rfl, rfl, hb⟩
      rw [hb, Bool.true_and] at estp
      have eL : decide (V.int (i : Int) = V.int (((sh.map V.int).length : Int) - 1)) = decide (i + 1 = sh.length) := by
        refine decide_eq_decide.mpr ?_
        rw [hlen]
        exact ⟨fun z => by have := V.int.inj z; omega, fun z => by congr 1; omega⟩
      have dI0 : ∀ x y : Int, decide (V.int x = V.int y) = decide (x = y) := fun x y => decide_eq_decide.mpr ⟨fun z => V.int.inj z, fun z => by rw [z]⟩
      have e0 : decide (V.int (i : Int) = V.int 0) = decide (i = 0) := by rw [dI0]; exact decide_eq_decide.mpr (by omega)
      refine ⟨fun σ' H4 => σ' = Mid (some (.int be)) (some (.int ah)) ∧ ((H4 = H3 ∧ (decide (sh.getD i 0 = 0) && (decide (be = 1) && (decide (i + 1 = sh.length) || decide (ah = 0)))) = false) ∨ (sh.getD i 0 ≠ 1 ∧ stp sh wt bg i = true ∧ H4 = upd H3 q (.lst (((fil (stp sh wt bg) i).map V.int) ++ [.int (i : Int)])))), ?_, ?_⟩
      · refine ⟨_, rfl, _, rfl, a, _, _, _, rfl, rfl, kp.sqL hS, getD_at hi, rfl, _, rfl, ?_⟩
        rw [dI0]
        by_cases c1 : sh.getD i 0 = 0
        · rw [decide_eq_true c1] at estp ⊢
          refine iteTo rfl ⟨_, rfl, rfl, _, rfl, ?_⟩
          rw [dI0]
          by_cases c2 : be = 1
          · rw [decide_eq_true c2] at estp ⊢
            refine iteTo rfl ⟨_, rfl, _, rfl, rfl, _, rfl, ?_⟩
            rw [eL]
            have done : (decide (i + 1 = sh.length) || decide (ah = 0)) = true → stp sh wt bg i = true := fun z => by rw [estp, z]; rfl
            by_cases c3 : i + 1 = sh.length
            · rw [decide_eq_true c3] at done ⊢
              refine iteTo rfl (iteTo rfl ?_)
              exact ⟨_, rfl, .inl ⟨rfl, _, SqL.of hq⟩, _, rfl, q, _, _, rfl, rfl, hq, szt (by rw [List.length_map]; omega), rfl, .inr ⟨by omega, done rfl, rfl⟩⟩
            · rw [decide_eq_false c3] at done ⊢
              refine iteFo rfl ⟨_, rfl, rfl, _, rfl, ?_⟩
              rw [dI0]
              by_cases c4 : ah = 0
              · rw [decide_eq_true c4] at done ⊢
                refine iteTo rfl ?_
                exact ⟨_, rfl, .inl ⟨rfl, _, SqL.of hq⟩, _, rfl, q, _, _, rfl, rfl, hq, szt (by rw [List.length_map]; omega), rfl, .inr ⟨by omega, done rfl, rfl⟩⟩
              · rw [decide_eq_false c4]
                exact iteFo rfl ⟨rfl, .inl ⟨rfl, rfl⟩⟩
          · rw [decide_eq_false c2]
            exact iteFo rfl ⟨rfl, .inl ⟨rfl, rfl⟩⟩
        · rw [decide_eq_false c1]
          exact iteFo rfl ⟨rfl, .inl ⟨rfl, rfl⟩⟩
      rintro σ' H4 ⟨rfl, ⟨rfl, hno⟩ | ⟨hn1, hyes, rfl⟩⟩
      · rw [hno, Bool.false_or] at estp
        refine ⟨_, rfl, _, rfl, a, _, _, _, rfl, rfl, kp.sqL hS, getD_at hi, rfl, _, rfl, ?_⟩
        rw [dI0]
        by_cases c1 : sh.getD i 0 = 1
        · rw [decide_eq_true c1, Bool.true_and] at estp
          rw [decide_eq_true c1]
          refine iteTo rfl ⟨_, rfl, rfl, _, rfl, ?_⟩
          rw [e0]
          have tail : (decide (i = 0) || decide (be = 0)) = true → stp sh wt bg i = (decide (i + 1 = sh.length) || decide (ah = 1)) := fun z => by rw [estp, z, Bool.true_and]
          by_cases c2 : i = 0
          · have tl := tail (by rw [decide_eq_true c2]; rfl)
            rw [decide_eq_true c2]
            refine iteTo rfl (iteTo rfl ⟨_, rfl, _, rfl, rfl, _, rfl, ?_⟩)
            rw [eL]
            by_cases c3 : i + 1 = sh.length
            · rw [decide_eq_true c3] at tl ⊢
              exact iteTo rfl (iteTo rfl ⟨_, rfl, .inl ⟨rfl, _, SqL.of hq⟩, _, rfl, q, _, _, rfl, rfl, hq, szt (by rw [List.length_map]; omega), go (by rw [tl]; rfl)⟩)
            · rw [decide_eq_false c3] at tl ⊢
              refine iteFo rfl ⟨_, rfl, rfl, _, rfl, ?_⟩
              rw [dI0]
              by_cases c4 : ah = 1
              · rw [decide_eq_true c4] at tl ⊢
                exact iteTo rfl ⟨_, rfl, .inl ⟨rfl, _, SqL.of hq⟩, _, rfl, q, _, _, rfl, rfl, hq, szt (by rw [List.length_map]; omega), go (by rw [tl]; rfl)⟩
              · rw [decide_eq_false c4] at tl ⊢
                exact iteFo rfl (stop (by rw [tl]; rfl))
          · rw [decide_eq_false c2]
            refine iteFo rfl ⟨_, rfl, rfl, _, rfl, ?_⟩
            rw [dI0]
            by_cases c5 : be = 0
            · have tl := tail (by rw [decide_eq_true c5, Bool.or_true])
              rw [decide_eq_true c5]
              refine iteTo rfl ⟨_, rfl, _, rfl, rfl, _, rfl, ?_⟩
              rw [eL]
              by_cases c3 : i + 1 = sh.length
              · rw [decide_eq_true c3] at tl ⊢
                exact iteTo rfl (iteTo rfl ⟨_, rfl, .inl ⟨rfl, _, SqL.of hq⟩, _, rfl, q, _, _, rfl, rfl, hq, szt (by rw [List.length_map]; omega), go (by rw [tl]; rfl)⟩)
              · rw [decide_eq_false c3] at tl ⊢
                refine iteFo rfl ⟨_, rfl, rfl, _, rfl, ?_⟩
                rw [dI0]
                by_cases c4 : ah = 1
                · rw [decide_eq_true c4] at tl ⊢
                  exact iteTo rfl ⟨_, rfl, .inl ⟨rfl, _, SqL.of hq⟩, _, rfl, q, _, _, rfl, rfl, hq, szt (by rw [List.length_map]; omega), go (by rw [tl]; rfl)⟩
                · rw [decide_eq_false c4] at tl ⊢
                  exact iteFo rfl (stop (by rw [tl]; rfl))
            · rw [decide_eq_false c5]
              exact iteFo rfl (stop (by rw [estp, decide_eq_false c2, decide_eq_false c5]; rfl))
        · rw [decide_eq_false c1, Bool.false_and] at estp
          rw [decide_eq_false c1]
          exact iteFo rfl (stop estp)
      · have hSu : SqL K (upd H3 q (.lst (((fil (stp sh wt bg) i).map V.int) ++ [.int (i : Int)]))) a (sh.map V.int) := (kp.mut nq).sqL hS
        refine ⟨_, rfl, _, rfl, a, _, _, _, rfl, rfl, hSu, getD_at hi, rfl, _, rfl, ?_⟩
        rw [dI0, decide_eq_false hn1]
        exact iteFo rfl (go hyes)
    · rintro σ H' ⟨y5, y6, y7, rfl, kp, hq⟩
      have e : ((sh.map V.int).length : Int).toNat = sh.length := by rw [hlen]; omega
      rw [e] at hq
      exact ⟨_, rfl, k q H' kp nq hq⟩
/-! ### the state of playing -/
def shL (n : Nat) (d : Nat → Nat) : List Int := (List.range n).map fun p => ((d p % 2 : Nat) : Int)
def hiL (ws : List Int) (k p : Nat) : List Int := (List.range ((k + 1) / 2)).map fun s => TT ws (2 * s + 1) p
def loL (ws : List Int) (k p : Nat) : List Int := (List.range (k / 2)).map fun s => TT ws (2 * s + 2) p
theorem shL_len (n : Nat) (d : Nat → Nat) : (shL n d).length = n := by unfold shL; rw [List.length_map, List.length_range]
theorem shL_at {n p : Nat} {d : Nat → Nat} (h : p < n) : (shL n d).getD p 0 = ((d p % 2 : Nat) : Int) := by
  unfold shL
  rw [List.getD_eq_getElem?_getD, List.getElem?_map, List.getElem?_range h]
  rfl
theorem hiL_odd {ws : List Int} {k p : Nat} (h : k % 2 = 1) : hiL ws (k + 1) p = hiL ws k p := by
  unfold hiL
  rw [show (k + 1 + 1) / 2 = (k + 1) / 2 by omega]
theorem hiL_even {ws : List Int} {k p : Nat} (h : k % 2 = 0) : hiL ws (k + 1) p = hiL ws k p ++ [TT ws (k + 1) p] := by
  unfold hiL
  rw [show (k + 1 + 1) / 2 = (k + 1) / 2 + 1 by omega, List.range_succ, List.map_append]
  show _ ++ [TT ws (2 * ((k + 1) / 2) + 1) p] = _
  rw [show 2 * ((k + 1) / 2) + 1 = k + 1 by omega]
theorem loL_even {ws : List Int} {k p : Nat} (h : k % 2 = 0) : loL ws (k + 1) p = loL ws k p := by
  unfold loL
  rw [show (k + 1) / 2 = k / 2 by omega]
theorem loL_odd {ws : List Int} {k p : Nat} (h : k % 2 = 1) : loL ws (k + 1) p = loL ws k p ++ [TT ws (k + 1) p] := by
  unfold loL
  rw [show (k + 1) / 2 = k / 2 + 1 by omega, List.range_succ, List.map_append]
  show _ ++ [TT ws (2 * (k / 2) + 2) p] = _
  rw [show 2 * (k / 2) + 2 = k + 1 by omega]
theorem Sta.congr {ws : List Int} {S : Nat} {b : Int} {c d : Nat → Nat} (h : Sta ws S b c) (e : ∀ p, p < ws.length → d p = c p) : Sta ws S b d := by
  intro p hp
  rw [e p hp]
  exact h p hp
theorem begun_at {ws : List Int} {b : Int} {p : Nat} (h : p < ws.length) : (ws.map fun z => decide (z ≤ b)).getD p false = decide (ws.getD p 0 ≤ b) := by
  rw [List.getD_eq_getElem?_getD, List.getElem?_map, List.getElem?_eq_getElem h, List.getD_eq_getElem?_getD, List.getElem?_eq_getElem h]
  rfl
theorem stp_acts {ws : List Int} {S : Nat} {b wt : Int} {c : Nat → Nat} (h : Sta ws S b c) (hb : 0 ≤ b) (hw : wt = (S : Int) - (((c 0 + 1) / 2 : Nat) : Int)) {p : Nat} (hp : p < ws.length) :
    stp (shL ws.length c) wt (ws.map fun z => decide (z ≤ b + 1)) p = true ↔ (c p < 2 * S ∧ TT ws (c p + 1) p ≤ b + 1) := by
  rw [h.acts_iff hb hp]
  unfold stp behN ahdN
  rw [begun_at hp, shL_at hp, shL_len]
  simp only [Bool.and_eq_true, Bool.or_eq_true, decide_eq_true_eq]
  by_cases h0 : p = 0
  · subst h0
    have z0 := (h 0 hp).1
    rw [if_neg (by omega)]
    by_cases hn : 0 + 1 < ws.length
    · have u1 := h.le hn
      have u2 := h.ge1 hn
      rw [if_pos hn, shL_at hn]
      split <;> omega
    · rw [if_neg hn]
      split <;> omega
  · obtain ⟨q, rfl⟩ : ∃ q, p = q + 1 := ⟨p - 1, by omega⟩
    have v1 := h.le (p := q) hp
    have v2 := h.ge1 (p := q) hp
    rw [if_pos (by omega), show q + 1 - 1 = q by omega, shL_at (show q < ws.length by omega)]
    by_cases hn : q + 1 + 1 < ws.length
    · have u1 := h.le hn
      have u2 := h.ge1 hn
      rw [if_pos hn, shL_at hn]
      omega
    · rw [if_neg hn]
      omega
theorem TT_last {ws : List Int} {k : Nat} (hk : 1 ≤ k) : ∀ {p q : Nat}, p ≤ q → q < ws.length → TT ws k p ≤ TT ws k q := by
  intro p q hpq hq
  induction hpq with
  | refl => omega
  | step _ ih =>
    rename_i m _
    have i := ih (by omega)
    have t := TT_behind (ws := ws) (k := k - 1) hq
    rw [show k - 1 + 1 = k by omega] at t
    show _ ≤ TT ws k (m + 1)
    omega
theorem Sta.before {ws : List Int} {S : Nat} {b : Int} {c : Nat → Nat} (h : Sta ws S b c) {p : Nat} (hp : p < ws.length) (hc : c p < 2 * S) : b < TT ws (2 * S) (ws.length - 1) := by
  have z := (h p hp).2.2 hc
  have m := TT_mono (ws := ws) hp (show c p + 1 ≤ 2 * S by omega)
  have l := TT_last (ws := ws) (k := 2 * S) (by omega) (show p ≤ ws.length - 1 by omega) (by omega)
  omega
theorem thr_TT {ws : List Int} (h : 1 ≤ ws.length) (S : Nat) : thrN (S : Int) ws = TT ws (2 * S) (ws.length - 1) := by
  unfold thrN
  by_cases c : (S : Int) = 0
  · rw [if_pos c, show 2 * S = 0 by omega, TT_zero]
  · rw [if_neg c, (lw_acts ws _).2, show 2 * S = (2 * ((S : Int).toNat - 1) + 1) + 1 by omega, TT_succ (by omega), show ws.length - 1 + 1 = ws.length by omega]
theorem at_once {α : Type} {l : List α} (h : l.Nodup) {i j : Nat} {x : α} (hij : i < j) (h1 : l[i]? = some x) (h2 : l[j]? = some x) : False := by
  obtain ⟨a1, e1⟩ := List.getElem?_eq_some_iff.mp h1
  obtain ⟨a2, e2⟩ := List.getElem?_eq_some_iff.mp h2
  exact List.pairwise_iff_getElem.mp h i j a1 a2 hij (e1.trans e2.symm)
def flN (f : Nat → Bool) (n : Nat) : List Nat := (List.range n).filter f
theorem fil_flN (f : Nat → Bool) (n : Nat) : fil f n = (flN f n).map fun (x : Nat) => (x : Int) := rfl
theorem flN_nodup (f : Nat → Bool) (n : Nat) : (flN f n).Nodup := List.Pairwise.filter f List.nodup_range
theorem flN_mem {f : Nat → Bool} {n p : Nat} : p ∈ flN f n ↔ p < n ∧ f p = true := by
  unfold flN
  rw [List.mem_filter, List.mem_range]
def dd (c : Nat → Nat) (L : List Nat) (p : Nat) : Nat := if p ∈ L then c p + 1 else c p
theorem flN_at {f : Nat → Bool} {n i : Nat} {x : V} (h : ((fil f n).map V.int)[i]? = some x) : ∃ p, (flN f n)[i]? = some p ∧ x = .int (p : Int) ∧ p < n ∧ f p = true ∧ p ∉ (flN f n).take i := by
  rw [fil_flN, List.getElem?_map, List.getElem?_map] at h
  cases e : (flN f n)[i]? with
  | none => rw [e] at h; cases h
  | some p =>
    rw [e] at h
    have m := flN_mem.mp (List.mem_of_getElem? e)
    refine ⟨p, rfl, (Option.some.inj h).symm, m.1, m.2, fun hm => ?_⟩
    obtain ⟨j, hj⟩ := List.mem_iff_getElem?.mp hm
    rw [List.getElem?_take] at hj
    split at hj
    · rename_i hji
      exact at_once (flN_nodup f n) hji hj e
    · cases hj
/-! ### _law_played: beat by beat -/
structure Pl (H H' : Hp) (psh ph pl : Addr) (hs ls : List Addr) (ws : List Int) (d : Nat → Nat) : Prop where
  kp : Kp H H'
  sh : H' psh = some (.lst ((shL ws.length d).map V.int))
  hh : H' ph = some (.lst (hs.map V.ref))
  ll : H' pl = some (.lst (ls.map V.ref))
  hv : ∀ p u, hs[p]? = some u → H' u = some (.lst ((hiL ws (d p) p).map V.int))
  lv : ∀ p u, ls[p]? = some u → H' u = some (.lst ((loL ws (d p) p).map V.int))
theorem Pl.more {H H' H'' : Hp} {psh ph pl : Addr} {hs ls : List Addr} {ws : List Int} {d : Nat → Nat} (x : Pl H H' psh ph pl hs ls ws d) (k : Kp H' H'') : Pl H H'' psh ph pl hs ls ws d :=
  ⟨x.kp.trans k, k.same _ _ rfl x.sh, k.same _ _ rfl x.hh, k.same _ _ rfl x.ll, fun p u h => k.same _ _ rfl (x.hv p u h), fun p u h => k.same _ _ rfl (x.lv p u h)⟩
/-- the places of the lists lie apart, and are new -/
structure Apart (H : Hp) (psh ph pl : Addr) (hs ls : List Addr) (n : Nat) : Prop where
  hn : hs.length = n
  ln : ls.length = n
  hd : hs.Nodup
  ld : ls.Nodup
  hl : ∀ u, u ∈ hs → u ∉ ls
  h1 : ∀ u, u ∈ hs → u ≠ psh ∧ u ≠ ph ∧ u ≠ pl ∧ H u = none
  l1 : ∀ u, u ∈ ls → u ≠ psh ∧ u ≠ ph ∧ u ≠ pl ∧ H u = none
  s1 : psh ≠ ph ∧ psh ≠ pl ∧ H psh = none
theorem at_ref {us : List Addr} {p : Nat} {u : Addr} (h : us[p]? = some u) : atI (us.map V.ref) (p : Int) = some (.ref u) := atI_nat (by rw [List.getElem?_map, h]; rfl)
theorem shL_q {n i : Nat} {d : Nat → Nat} : ((shL n d).map V.int)[i]? = if i < n then some (.int ((d i % 2 : Nat) : Int)) else none := by
  unfold shL
  rw [List.getElem?_map, List.getElem?_map]
  by_cases h : i < n
  · rw [if_pos h, List.getElem?_range h]
    rfl
  · rw [if_neg h, List.getElem?_eq_none (by rw [List.length_range]; omega)]
    rfl
theorem shL_set {n p : Nat} {d e : Nat → Nat} (hp : p < n) (h1 : e p = d p + 1) (h2 : ∀ q, q ≠ p → e q = d q) : ((shL n d).map V.int).set p (.int (1 - ((d p % 2 : Nat) : Int))) = (shL n e).map V.int := by
  refine List.ext_getElem? fun i => ?_
  rw [List.getElem?_set, shL_q, shL_q]
  by_cases c : p = i
  · subst c
    rw [if_pos rfl, if_pos (by rw [List.length_map, shL_len]; exact hp), if_pos hp, h1]
    congr 2
    omega
  · rw [if_neg c, h2 i (fun z => c z.symm)]
theorem dd_here {c : Nat → Nat} {L : List Nat} {p : Nat} (h : p ∉ L) : dd c L p = c p := if_neg h
theorem dd_next {c : Nat → Nat} {L : List Nat} {p : Nat} (h : p ∉ L) : dd c (L ++ [p]) p = c p + 1 := if_pos (by simp)
theorem dd_other {c : Nat → Nat} {L : List Nat} {p q : Nat} (h : q ≠ p) : dd c (L ++ [p]) q = dd c L q := by
  unfold dd
  by_cases m : q ∈ L
  · rw [if_pos m, if_pos (List.mem_append_left _ m)]
  · rw [if_neg m, if_neg (by simp [m, h])]
theorem nd_other {us : List Addr} (h : us.Nodup) {p q : Nat} {u v : Addr} (h1 : us[p]? = some u) (h2 : us[q]? = some v) (ne : q ≠ p) : v ≠ u := by
  intro e
  subst e
  rcases Nat.lt_or_gt_of_ne ne with c | c
  · exact at_once h c h2 h1
  · exact at_once h c h1 h2
def sp_l_played (K : PySem.W.Frag) : Sp := fun vs H Q _ => ∃ (S : Nat) (a : Addr) (ws : List Int), vs = [.int (S : Int), .ref a, .int 1400] ∧ SqL K H a (ws.map V.int) ∧ okPlan (S : Int) ws = true ∧
  ∀ (t ph pl : Addr) (hs ls : List Addr) (H' : Hp), Kp H H' → H' t = some (.tup [.int (thrN (S : Int) ws), .ref ph, .ref pl]) → H' ph = some (.lst (hs.map V.ref)) → H' pl = some (.lst (ls.map V.ref)) → hs.length = ws.length → ls.length = ws.length →
    (∀ p u, hs[p]? = some u → H' u = some (.lst ((hiL ws (2 * S) p).map V.int))) → (∀ p u, ls[p]? = some u → H' u = some (.lst ((loL ws (2 * S) p).map V.int))) → Q (.ref t) H'
theorem ok_l_played (T : Txt K mg) : FnOk P w K mg base CX0 2 T.f_l_played T.d_l_played ["_law_signs", "_law_wakes_here", "_law_most"] (sp_l_played K) := by
  refine T.F_l_played.ok sc_l_played (fun vs H Q E h => ?_) (fun cdv A outer s H vs Q E hr h => ?_)
  · obtain ⟨S, a, ws, rfl, _⟩ := h
    rfl
  · obtain ⟨S, a, ws, rfl, hS, hg, k⟩ := h
    have hlen : ((ws.map V.int).length : Int) = (ws.length : Int) := by rw [List.length_map]
    obtain ⟨g1, g2, g3, g4⟩ := okPlan_iff hg
    have hbd : TT ws (2 * S) (ws.length - 1) < 1400 := by
      have := TT_bound (fun p hp => (okPlan_at hg hp).2) (2 * S) (ws.length - 1) (by omega)
      omega
    refine ⟨_, (pss_cons (ps_set (i := 3) sc_l_played.nd rfl (by first | exact Or.inl rfl | exact Or.inr rfl) (pe_op op_rep (pe_lst (pa_cons pe_int pa_nil)) (pe_callB call_len_seq (by rfl) T.m_len PySem.boot_len (pa_cons (pv 1) pa_nil))))
      (pss_cons (ps_setLc (i := 4) (own := [("_law_wake", 5)]) (g := gName 5) (tt := tYes) (by rfl) sc_l_played.nd rfl rfl (sw_true rfl rfl rfl (by decide +kernel)) (pi_list (pv 1)) (blkOk_by (own := [("_law_wake", 5)]) (N := ["_law_signs", "_law_wakes_here", "_law_most", "_law_shown", "_law_highs", "_law_wake", "_law_lows", "_law_waits", "_law_beat", "_law_some", "_law_place"]) (sc := defScope s_l_played) (by decide +kernel)) (fun _ _ _ _ _ => (pg_name (i := 5) sc_l_played.nd rfl (by first | exact Or.inl rfl | exact Or.inr rfl))) (fun _ _ _ _ _ => pts_nil) (fun _ _ _ _ _ => (pe_lst pa_nil)))
      (pss_cons (ps_setLc (i := 6) (own := [("_law_wake", 5)]) (g := gName 5) (tt := tYes) (by rfl) sc_l_played.nd rfl rfl (sw_true rfl rfl rfl (by decide +kernel)) (pi_list (pv 1)) (blkOk_by (own := [("_law_wake", 5)]) (N := ["_law_signs", "_law_wakes_here", "_law_most", "_law_shown", "_law_highs", "_law_wake", "_law_lows", "_law_waits", "_law_beat", "_law_some", "_law_place"]) (sc := defScope s_l_played) (by decide +kernel)) (fun _ _ _ _ _ => (pg_name (i := 5) sc_l_played.nd rfl (by first | exact Or.inl rfl | exact Or.inr rfl))) (fun _ _ _ _ _ => pts_nil) (fun _ _ _ _ _ => (pe_lst pa_nil)))
      (pss_cons (ps_set (i := 7) sc_l_played.nd rfl (by first | exact Or.inl rfl | exact Or.inr rfl) (pv 0))
      (pss_cons (ps_set (i := 8) sc_l_played.nd rfl (by first | exact Or.inl rfl | exact Or.inr rfl) pe_int)
      (pss_cons (ps_while PassesOwn.never (PW.pt (pw_and (PW.pt (pw_or (pt_cmpR op_gt (pv 7) pe_int (nomark _)) (pw_or1 (pt_cmpR op_gt (pe_callB (cr_max rfl) (by rfl) T.m_max (by decide +kernel) (pa_cons (pv 3) pa_nil)) pe_int (nomark _))))) (pw_and1 (pt_cmpR op_lt (pv 8) (pv 2) (nomark _)))))
      (pss_cons (ps_aug (i := 8) sc_l_played.nd rfl (by first | exact Or.inl rfl | exact Or.inr rfl) pe_int ip_add)
      (pss_cons (ps_set (i := 9) sc_l_played.nd rfl (by first | exact Or.inl rfl | exact Or.inr rfl) (pe_call (ok_l_step T) (hr.mono (by decide)) rfl T.g_l_step T.F_l_step.kp T.b_l_step .nil pass0 (pa_cons (pv 3) (pa_cons (pv 7) (pa_cons (pe_lc (own := [("_law_wake", 5)]) (g := gName 5) (tt := tYes) (by rfl) sc_l_played.nd (pi_list (pv 1)) (blkOk_by (own := [("_law_wake", 5)]) (N := ["_law_signs", "_law_wakes_here", "_law_most", "_law_shown", "_law_highs", "_law_wake", "_law_lows", "_law_waits", "_law_beat", "_law_some", "_law_place"]) (sc := defScope s_l_played) (by decide +kernel)) (fun _ _ _ _ _ => (pg_name (i := 5) sc_l_played.nd rfl (by first | exact Or.inl rfl | exact Or.inr rfl))) (fun _ _ _ _ _ => pts_nil) (fun _ _ _ _ _ => (pe_cmpR op_le (pv 5) (pv 8) (nomark _)))) pa_nil)))))
      (Evl.pss_cut (ps_if (pt_cmpR op_eq (pe_callB call_len_seq (by rfl) T.m_len PySem.boot_len (pa_cons (pv 9) pa_nil)) pe_int (nomark _))
      (pss_one (ps_set (i := 8) sc_l_played.nd rfl (by first | exact Or.inl rfl | exact Or.inr rfl) (pe_callB (call_max2 rfl) (by rfl) T.m_max (by decide +kernel) (pa_cons (pv 8) (pa_cons (pe_op op_sub (pe_callBK (cr_minDf rfl hr.units) (by rfl) T.m_min (by decide +kernel) (pa_cons (pe_lc (own := [("_law_wake", 5)]) (g := gName 5) (by rfl) sc_l_played.nd (pi_list (pv 1)) (blkOk_by (own := [("_law_wake", 5)]) (N := ["_law_signs", "_law_wakes_here", "_law_most", "_law_shown", "_law_highs", "_law_wake", "_law_lows", "_law_waits", "_law_beat", "_law_some", "_law_place"]) (sc := defScope s_l_played) (by decide +kernel)) (fun _ _ _ _ _ => (pg_name (i := 5) sc_l_played.nd rfl (by first | exact Or.inl rfl | exact Or.inr rfl))) (fun _ _ _ _ _ => (pts_one (pt_cmpR op_gt (pv 5) (pv 8) (nomark _)))) (fun _ _ _ _ _ => (pv 5))) pa_nil) (pk_cons (pv 2) pk_nil)) pe_int) pa_nil)))))
      pss_nil)
      (pss_one (ps_for PassesOwn.never rfl (pi_list (pv 9)) (pg_name (i := 10) sc_l_played.nd rfl (by first | exact Or.inl rfl | exact Or.inr rfl))
      (pss_cons (ps_if (pt_cmpR op_eq (pe_ix ix_list (pv 3) (pv 10) (fun _ _ => rfl)) pe_int (nomark _))
      (pss_one (ps_expr (pe_bm PySem.F.plainAttrs_list PySem.F.slot_list_append PySem.F.type_list_append mt_append (pe_ix ix_list (pv 6) (pv 10) (fun _ _ => rfl)) (pa_cons (pv 8) pa_nil))))
      (pss_cons (ps_expr (pe_bm PySem.F.plainAttrs_list PySem.F.slot_list_append PySem.F.type_list_append mt_append (pe_ix ix_list (pv 4) (pv 10) (fun _ _ => rfl)) (pa_cons (pv 8) pa_nil)))
      (pss_one (ps_aug (i := 7) sc_l_played.nd rfl (by first | exact Or.inl rfl | exact Or.inr rfl) (pe_callTy call_int1 (by rfl) T.m_int (by decide +kernel) (pa_cons (pe_cmpR op_eq (pv 10) pe_int (nomark _)) pa_nil)) ip_sub))))
      (pss_one (ps_asg (pe_op op_sub pe_int (pe_ix ix_list (pv 3) (pv 10) (fun _ _ => rfl))) (pg_sub (pv 3) (pv 10) set_list))))))))))
      (pss_one (ps_ret (pe_tup (pa_cons (pv 8) (pa_cons (pv 4) (pa_cons (pv 6) pa_nil)))))))))))), ?_⟩
    refine ⟨szl (by show 1 ≤ 100000; decide), fun u0 nu0 => ?_⟩
    generalize h_Ha : upd H u0 _ = Ha
    have k_Ha : Kp H Ha := by rw [← h_Ha]; exact .new nu0
    have q_Ha := (congrFun h_Ha u0).symm.trans upd_same
    clear h_Ha
    refine ⟨_, rfl, a, _, rfl, .inl (k_Ha.sqL hS), u0, _, _, rfl, rfl, q_Ha, by rw [hlen]; omega, by rw [hlen]; omega, szl (by rw [Int.toNat_natCast, List.length_map]; show 1 * ws.length ≤ 100000; omega), fun psh nsh => ?_⟩
    generalize h_Hb : upd Ha psh _ = Hb
    have k_Hb : Kp Ha Hb := by rw [← h_Hb]; exact .new nsh
    have q_Hb := (congrFun h_Hb psh).symm.trans upd_same
    clear h_Hb
    rw [Int.toNat_natCast, List.length_map, rep_int] at q_Hb
    have kb := k_Ha.trans k_Hb
    have fsh := k_Ha.free _ nsh

    refine ⟨_, rfl, a, rfl, ⟨_, kb.sqL hS⟩, fun ph nph => ?_⟩
    refine lc_list (K := K) (a := a) (xs := ws.map V.int) (fun i H' => ∃ us : List Addr, us.length = i ∧ Kp Hb H' ∧ H' ph = some (.lst (us.map V.ref)) ∧ us.Nodup ∧ ∀ u, u ∈ us → u ≠ ph ∧ Hb u = none ∧ H' u = some (.lst [])) ⟨[], rfl, Kp.new nph, upd_same, List.nodup_nil, by simp⟩ (fun i H' _ ⟨_, _, kq, _⟩ => (kb.trans kq).sqL hS) ?_ ?_
    · rintro i x H' hi ⟨us, hul, kq, hDl, hnd, hus⟩
      have hil : i < ws.length := by
        have z := (List.getElem?_eq_some_iff.mp hi).1
        rw [List.length_map] at z
        exact z
      refine ⟨rfl, Nat.zero_le _, fun u nu => ?_⟩
      generalize h_Hx : upd H' u _ = Hx
      have k_Hx : Kp H' Hx := by rw [← h_Hx]; exact .new nu
      have q_Hx := (congrFun h_Hx u).symm.trans upd_same
      clear h_Hx
      have hDx := k_Hx.same _ _ rfl hDl
      have neu : u ≠ ph := (ne_of_none hDl nu).symm
      refine ⟨_, hDx, szt (by rw [List.length_map]; omega), us ++ [u], by rw [List.length_append, hul]; rfl, (kq.trans k_Hx).mut nph, by rw [upd_same, List.map_append]; rfl, ?_, fun v hv => ?_⟩
      · rw [List.nodup_append]
        refine ⟨hnd, by simp, fun v hv w hw => ?_⟩
        rw [List.mem_singleton.mp hw]
        exact ne_of_none (hus v hv).2.2 nu
      · rcases List.mem_append.mp hv with hv | hv
        · obtain ⟨z1, z2, z3⟩ := hus v hv
          exact ⟨z1, z2, by rw [upd_ne z1]; exact k_Hx.same _ _ rfl z3⟩
        · rw [List.mem_singleton.mp hv]
          exact ⟨neu, kq.free _ nu, by rw [upd_ne neu]; exact q_Hx⟩
    rintro Hc ⟨hs, ul_hs, kk_hs, hD_hs, nd_hs, fu_hs⟩
    rw [List.length_map] at ul_hs
    have kc := kb.trans kk_hs

    refine ⟨_, rfl, a, rfl, ⟨_, kc.sqL hS⟩, fun pl npl => ?_⟩
    refine lc_list (K := K) (a := a) (xs := ws.map V.int) (fun i H' => ∃ us : List Addr, us.length = i ∧ Kp Hc H' ∧ H' pl = some (.lst (us.map V.ref)) ∧ us.Nodup ∧ ∀ u, u ∈ us → u ≠ pl ∧ Hc u = none ∧ H' u = some (.lst [])) ⟨[], rfl, Kp.new npl, upd_same, List.nodup_nil, by simp⟩ (fun i H' _ ⟨_, _, kq, _⟩ => (kc.trans kq).sqL hS) ?_ ?_
    · rintro i x H' hi ⟨us, hul, kq, hDl, hnd, hus⟩
      have hil : i < ws.length := by
        have z := (List.getElem?_eq_some_iff.mp hi).1
        rw [List.length_map] at z
        exact z
      refine ⟨rfl, Nat.zero_le _, fun u nu => ?_⟩
      generalize h_Hx : upd H' u _ = Hx
      have k_Hx : Kp H' Hx := by rw [← h_Hx]; exact .new nu
      have q_Hx := (congrFun h_Hx u).symm.trans upd_same
      clear h_Hx
      have hDx := k_Hx.same _ _ rfl hDl
      have neu : u ≠ pl := (ne_of_none hDl nu).symm
      refine ⟨_, hDx, szt (by rw [List.length_map]; omega), us ++ [u], by rw [List.length_append, hul]; rfl, (kq.trans k_Hx).mut npl, by rw [upd_same, List.map_append]; rfl, ?_, fun v hv => ?_⟩
      · rw [List.nodup_append]
        refine ⟨hnd, by simp, fun v hv w hw => ?_⟩
        rw [List.mem_singleton.mp hw]
        exact ne_of_none (hus v hv).2.2 nu
      · rcases List.mem_append.mp hv with hv | hv
        · obtain ⟨z1, z2, z3⟩ := hus v hv
          exact ⟨z1, z2, by rw [upd_ne z1]; exact k_Hx.same _ _ rfl z3⟩
        · rw [List.mem_singleton.mp hv]
          exact ⟨neu, kq.free _ nu, by rw [upd_ne neu]; exact q_Hx⟩
    rintro Hd ⟨ls, ul_ls, kk_ls, hD_ls, nd_ls, fu_ls⟩
    rw [List.length_map] at ul_ls
    have kd := kc.trans kk_ls
    have ap : Apart H psh ph pl hs ls ws.length := by
      have qsc := kk_hs.same _ _ rfl q_Hb
      refine ⟨ul_hs, ul_ls, nd_hs, nd_ls, fun u hu hu2 => ?_, fun u hu => ?_, fun u hu => ?_, ne_of_none q_Hb nph, ne_of_none qsc npl, fsh⟩
      · have z := (fu_hs u hu).2.2
        rw [(fu_ls u hu2).2.1] at z
        cases z
      · obtain ⟨z1, z2, z3⟩ := fu_hs u hu
        exact ⟨(ne_of_none q_Hb z2).symm, z1, ne_of_none z3 npl, kb.free _ z2⟩
      · obtain ⟨z1, z2, z3⟩ := fu_ls u hu
        exact ⟨(ne_of_none qsc z2).symm, (ne_of_none hD_hs z2).symm, z1, kc.free _ z2⟩
    have x0 : Pl H Hd psh ph pl hs ls ws (fun _ => 0) := by
      refine ⟨kd, ?_, kk_ls.same _ _ rfl hD_hs, hD_ls, fun p u hu => ?_, fun p u hu => ?_⟩
      · rw [(kk_hs.trans kk_ls).same _ _ rfl q_Hb]
        unfold shL
        rw [show ((List.range ws.length).map fun p => (((fun _ : Nat => 0) p % 2 : Nat) : Int)) = List.replicate ws.length 0 from by
          rw [List.map_const', List.length_range]; rfl]
      · rw [kk_ls.same _ _ rfl (fu_hs u (List.mem_of_getElem? hu)).2.2]
        rfl
      · rw [(fu_ls u (List.mem_of_getElem? hu)).2.2]
        rfl
    refine ⟨_, rfl, ?_⟩
    refine ⟨fun m σ H' => ∃ (b : Int) (c : Nat → Nat) (wt : Int) (y9 y10 : Option V), m = (1400 - b).toNat ∧ σ = [some (.int (S : Int)), some (.ref a), some (.int 1400), some (.ref psh), some (.ref ph), none, some (.ref pl), some (.int wt), some (.int b), y9, y10] ∧ Pl H H' psh ph pl hs ls ws c ∧ wt = (S : Int) - (((c 0 + 1) / 2 : Nat) : Int) ∧ Sta ws S b c ∧ 0 ≤ b ∧ b ≤ TT ws (2 * S) (ws.length - 1),
      ⟨_, 0, fun _ => 0, _, none, none, rfl, rfl, x0, by show (S : Int) = (S : Int) - 0; omega, fun p hp => ⟨Nat.zero_le _, by rw [TT_zero]; omega, fun _ => by have := TT_self (ws := ws) (k := 0) hp; rw [TT_zero] at this; exact this⟩, by omega, TT_pos (by omega)⟩, ?_⟩
    rintro m σ H' ⟨b, c, wt, y9, y10, rfl, rfl, x, hwt, st, hb0, hbt⟩
    by_cases c1 : 0 < wt
    · refine ⟨_, rfl, _, _, rfl, rfl, _, rfl, iteTo (decide_eq_true c1) (iteTo rfl ?_)⟩
      have hup : 0 < ws.length := by omega
      have huc : c 0 < 2 * S := by omega
      refine ⟨_, rfl, _, rfl, _, _, rfl, rfl, _, rfl, iteTo (decide_eq_true (show b < 1400 by omega)) ?_⟩
      refine ⟨_, fun σ' H'' w => w, ?_⟩
      refine ⟨_, rfl, _, _, rfl, rfl, ?_⟩
      refine ⟨_, rfl, _, rfl, _, rfl, a, rfl, ⟨_, x.kp.sqL hS⟩, fun D nD => ?_⟩
      refine lc_list (K := K) (a := a) (xs := ws.map V.int) (fun i H'' => Kp H' H'' ∧ H'' D = some (.lst (((ws.take i).map fun z => decide (z ≤ b + 1)).map V.bl))) ⟨Kp.new nD, upd_same⟩ (fun i H'' _ ⟨kq, _⟩ => (x.kp.trans kq).sqL hS) ?_ ?_
      · rintro i v H'' hi ⟨kq, hDl⟩
        obtain ⟨z, _, rfl, hz⟩ := mem_ints hi
        refine ⟨rfl, ?_⟩
        refine ⟨_, rfl, _, rfl, _, _, rfl, rfl, _, hDl, szt (by rw [List.length_map, List.length_map, List.length_take]; omega), kq.mut nD, ?_⟩
        rw [upd_same, take_snoc hz, List.map_append, List.map_append]
        rfl
      rintro H2 ⟨k2, hD2⟩
      rw [List.length_map, List.take_length] at hD2
      have x2 := x.more k2
      refine ⟨psh, D, shL ws.length c, wt, ws.map fun z => decide (z ≤ b + 1), rfl, .inl (.inl x2.sh), .inl (.inl hD2), by rw [List.length_map, shL_len], by rw [shL_len]; omega, fun p9 H3 k3 n9 q9 => ?_⟩
      rw [shL_len] at q9
      have x3 := x2.more k3
      obtain ⟨f, hf⟩ : ∃ f : Nat → Bool, stp (shL ws.length c) wt (ws.map fun z => decide (z ≤ b + 1)) = f := ⟨_, rfl⟩
      rw [hf] at q9
      have fiff : ∀ p, p < ws.length → (f p = true ↔ (c p < 2 * S ∧ TT ws (c p + 1) p ≤ b + 1)) := fun p hp => by rw [← hf]; exact stp_acts st hb0 hwt hp
      have st1 := st.step f fiff
      have hle := st.before hup huc
      refine ⟨fun σ' H4 => ∃ b2 : Int, σ' = [some (.int (S : Int)), some (.ref a), some (.int 1400), some (.ref psh), some (.ref ph), none, some (.ref pl), some (.int wt), some (.int b2), some (.ref p9), y10] ∧ Kp H3 H4 ∧ b + 1 ≤ b2 ∧ b2 ≤ TT ws (2 * S) (ws.length - 1) ∧ Sta ws S b2 (fun p => if f p = true then c p + 1 else c p) ∧ (∀ p, p < ws.length → f p = true → TT ws (c p + 1) p = b2), ?_, ?_⟩
      · refine ⟨_, rfl, p9, _, rfl, .inl (.inl (.inl q9)), rfl, _, rfl, iteD (fun c0 => ?_) (fun c0 => ?_)⟩
        · have c0 := V.int.inj c0
          rw [List.length_map] at c0
          have e0 : fil f ws.length = [] := List.length_eq_zero_iff.mp (by omega)
          have nof : ∀ p, p < ws.length → f p = false := fun p hp => by
            cases e : f p with
            | false => rfl
            | true =>
              have m : ((p : Int)) ∈ fil f ws.length := fil_mem.mpr ⟨p, rfl, hp, e⟩
              rw [e0] at m
              cases m
          have ceq : ∀ p, p < ws.length → (if f p = true then c p + 1 else c p) = c p := fun p hp => by rw [nof p hp]; rfl
          have st2 : Sta ws S (b + 1) c := st1.congr fun p hp => (ceq p hp).symm
          refine ⟨_, rfl, _, rfl, a, rfl, ⟨_, x3.kp.sqL hS⟩, fun D5 nD5 => ?_⟩
          refine lc_list (K := K) (a := a) (xs := ws.map V.int) (fun i H'' => Kp H3 H'' ∧ H'' D5 = some (.lst (((ws.take i).filter fun z => decide (b + 1 < z)).map V.int))) ⟨Kp.new nD5, upd_same⟩ (fun i H'' _ ⟨kq, _⟩ => (x3.kp.trans kq).sqL hS) ?_ ?_
          · rintro i v H'' hi ⟨kq, hDl⟩
            obtain ⟨z, _, rfl, hz⟩ := mem_ints hi
            have hfl : ((ws.take i).filter fun z => decide (b + 1 < z)).length ≤ ws.length := Nat.le_trans (List.length_filter_le _ _) (by rw [List.length_take]; omega)
            refine ⟨rfl, ?_⟩
            refine ⟨_, rfl, _, rfl, _, _, rfl, rfl, _, rfl, iteD (fun c1 => ?_) (fun c1 => ?_)⟩
            · refine ⟨_, rfl, _, hDl, szt (by rw [List.length_map]; omega), kq.mut nD5, ?_⟩
              have e : (ws.take (i + 1)).filter (fun z => decide (b + 1 < z)) = (ws.take i).filter (fun z => decide (b + 1 < z)) ++ [z] := by
                rw [take_snoc hz, List.filter_append]
                simp [show b + 1 < z from c1]
              rw [upd_same, e, List.map_append]
              rfl
            · refine ⟨kq, ?_⟩
              have e : (ws.take (i + 1)).filter (fun z => decide (b + 1 < z)) = (ws.take i).filter (fun z => decide (b + 1 < z)) := by
                rw [take_snoc hz, List.filter_append]
                simp [show ¬ b + 1 < z from c1]
              rw [e]
              exact hDl
          rintro H5 ⟨k5, hD5⟩
          rw [List.length_map, List.take_length] at hD5
          have fin : ∀ m : Int, (∀ p, p < ws.length → b + 1 < ws.getD p 0 → m ≤ ws.getD p 0) → ∃ b2 : Int, [some (V.int (S : Int)), some (.ref a), some (.int 1400), some (.ref psh), some (.ref ph), none, some (.ref pl), some (.int wt), some (.int (if m - 1 > b + 1 then m - 1 else b + 1)), some (.ref p9), y10] = [some (.int (S : Int)), some (.ref a), some (.int 1400), some (.ref psh), some (.ref ph), none, some (.ref pl), some (.int wt), some (.int b2), some (.ref p9), y10] ∧ Kp H3 H5 ∧ b + 1 ≤ b2 ∧ b2 ≤ TT ws (2 * S) (ws.length - 1) ∧ Sta ws S b2 (fun p => if f p = true then c p + 1 else c p) ∧ (∀ p, p < ws.length → f p = true → TT ws (c p + 1) p = b2) := by
            intro m hm
            have st3 : Sta ws S (if m - 1 > b + 1 then m - 1 else b + 1) c := by
              split
              · rename_i hgt
                exact Sta.skip (b := b + 1) (by rw [show b + 1 - 1 = b by omega]; exact st) st2 (by omega) hm (by omega)
              · exact st2
            have hle2 := st3.before hup huc
            refine ⟨_, rfl, k5, by split <;> omega, by omega, st3.congr ceq, fun p hp hfp => by rw [nof p hp] at hfp; cases hfp⟩
          refine ⟨_, rfl, D5, _, _, rfl, rfl, .inl (.inl hD5), fun e => ?_, fun m h1 h2 => ?_⟩
          · refine ⟨_, _, rfl, rfl, _, _, rfl, ?_⟩
            refine fin 1400 fun p hp hgt => ?_
            have hm : ws.getD p 0 ∈ ws.filter fun z => decide (b + 1 < z) := by
              rw [List.mem_filter]
              refine ⟨?_, decide_eq_true hgt⟩
              rw [List.getD_eq_getElem?_getD, List.getElem?_eq_getElem hp]
              exact List.getElem_mem hp
            rw [e] at hm
            cases hm
          · refine ⟨_, _, rfl, rfl, _, _, rfl, ?_⟩
            refine fin m fun p hp hgt => h2 _ ?_
            rw [List.mem_filter]
            refine ⟨?_, decide_eq_true hgt⟩
            rw [List.getD_eq_getElem?_getD, List.getElem?_eq_getElem hp]
            exact List.getElem_mem hp
        · refine ⟨b + 1, rfl, .refl _, by omega, by omega, st1, fun p hp hfp => ?_⟩
          obtain ⟨g1, g2⟩ := (fiff p hp).mp hfp
          have := (st p hp).2.2 g1
          omega
      rintro σ' H4 ⟨b2, rfl, k4, hb2, hb3, st4, hT⟩
      have x4 := x3.more k4
      have q94 := k4.same _ _ rfl q9
      refine ⟨_, rfl, p9, rfl, ⟨_, .inl (.inl q94)⟩, for_list (K := K) (a := p9) (xs := (fil f ws.length).map V.int) (fun i σ H5 => ∃ (w2 : Int) (y : Option V), σ = [some (.int (S : Int)), some (.ref a), some (.int 1400), some (.ref psh), some (.ref ph), none, some (.ref pl), some (.int w2), some (.int b2), some (.ref p9), y] ∧ H5 p9 = some (.lst ((fil f ws.length).map V.int)) ∧ Pl H H5 psh ph pl hs ls ws (dd c ((flN f ws.length).take i)) ∧ w2 = (S : Int) - (((dd c ((flN f ws.length).take i) 0 + 1) / 2 : Nat) : Int))
        ⟨wt, y10, rfl, q94, x4, hwt⟩ (fun i σ H5 _ ⟨_, _, _, h9, _⟩ => .inl (.inl h9)) ?_ ?_⟩
      · rintro i v σ H5 hi ⟨w2, y, rfl, h9, x5, hw2⟩
        obtain ⟨p, hpi, rfl, hp, hfp, hpn⟩ := flN_at hi
        have hTp := hT p hp hfp
        obtain ⟨u, hu1⟩ : ∃ u, hs[p]? = some u := ⟨_, List.getElem?_eq_getElem (by rw [ap.hn]; exact hp)⟩
        obtain ⟨v, hv1⟩ : ∃ v, ls[p]? = some v := ⟨_, List.getElem?_eq_getElem (by rw [ap.ln]; exact hp)⟩
        have um := List.mem_of_getElem? hu1
        have vm := List.mem_of_getElem? hv1
        obtain ⟨u1, u2, u3, u4⟩ := ap.h1 u um
        obtain ⟨v1, v2, v3, v4⟩ := ap.l1 v vm
        have n9' : p9 ≠ psh ∧ p9 ≠ u ∧ p9 ≠ v := ⟨(ne_of_none x2.sh n9).symm, (ne_of_none (x2.hv p u hu1) n9).symm, (ne_of_none (x2.lv p v hv1) n9).symm⟩
        have eat : atI ((shL ws.length (dd c ((flN f ws.length).take i))).map V.int) (p : Int) = some (.int ((c p % 2 : Nat) : Int)) := by
          rw [getD_at (by rw [shL_len]; exact hp), shL_at hp, dd_here hpn]
        rw [take_snoc hpi]
        have hix : ixN ((shL ws.length (dd c ((flN f ws.length).take i))).map V.int).length (p : Int) = some p := by
          rw [List.length_map, shL_len]
          unfold ixN
          rw [if_pos (by omega), if_pos (by omega), Int.toNat_natCast]
        refine ⟨_, rfl, _, rfl, psh, _, _, _, rfl, rfl, .inl (.inl x5.sh), eat, rfl, _, rfl, iteD (fun c1 => ?_) (fun c1 => ?_)⟩
        · have c1 : c p % 2 = 1 := by have := V.int.inj c1; omega
          have hlv := x5.lv p v hv1
          have l5 : (loL ws (dd c ((flN f ws.length).take i) p) p).length ≤ 10000 := by
            unfold loL
            rw [List.length_map, List.length_range, dd_here hpn]
            have := (st p hp).1
            omega
          refine ⟨_, rfl, _, rfl, pl, _, _, _, rfl, rfl, .inl (.inl x5.ll), at_ref hv1, .inl ⟨rfl, _, SqL.of hlv⟩, _, rfl, v, _, _, rfl, rfl, hlv, szt (by rw [List.length_map]; omega), ?_⟩
          have q6 : (upd H5 v (.lst (List.map V.int (loL ws (dd c ((flN f ws.length).take i) p) p) ++ [.int b2]))) psh = some (.lst ((shL ws.length (dd c ((flN f ws.length).take i))).map V.int)) := by rw [upd_ne v1.symm]; exact x5.sh
          refine ⟨_, rfl, _, rfl, psh, _, _, _, rfl, rfl, .inl (.inl q6), eat, _, _, rfl, rfl, _, rfl, _, rfl, psh, _, _, p, rfl, rfl, q6, hix, ?_⟩
          rw [← dd_here (c := c) hpn, shL_set (e := dd c ((flN f ws.length).take i ++ [p])) hp (by rw [dd_next hpn, dd_here hpn]) (fun q hq => dd_other hq)]
          refine ⟨w2, _, rfl, by rw [upd_ne n9'.1, upd_ne n9'.2.2]; exact h9, ⟨(x5.kp.mut v4).mut ap.s1.2.2, upd_same, by rw [upd_ne ap.s1.1.symm, upd_ne v2.symm]; exact x5.hh, by rw [upd_ne ap.s1.2.1.symm, upd_ne v3.symm]; exact x5.ll, fun q w hw => ?_, fun q w hw => ?_⟩, ?_⟩
          · have wm := List.mem_of_getElem? hw
            rw [upd_ne (ap.h1 w wm).1, upd_ne (fun z => ap.hl w wm (by rw [z]; exact vm)), x5.hv q w hw]
            by_cases e : q = p
            · subst e
              rw [dd_next hpn, dd_here hpn, hiL_odd c1]
            · rw [dd_other e]
          · have wm := List.mem_of_getElem? hw
            rw [upd_ne (ap.l1 w wm).1]
            by_cases e : q = p
            · subst e
              rw [hv1] at hw
              cases Option.some.inj hw
              rw [upd_same, dd_next hpn, dd_here hpn, loL_odd c1, hTp, List.map_append]
              rfl
            · rw [upd_ne (nd_other ap.ld hv1 hw e), dd_other e]
              exact x5.lv q w hw
          · rw [hw2]
            by_cases e : p = 0
            · subst e
              rw [dd_next hpn, dd_here hpn]
              omega
            · rw [dd_other (fun z => e z.symm)]
        · have c1 : c p % 2 = 0 := by
            have : ¬ ((c p % 2 : Nat) : Int) = 1 := fun z => c1 (by rw [z])
            omega
          have hhv := x5.hv p u hu1
          have l5 : (hiL ws (dd c ((flN f ws.length).take i) p) p).length ≤ 10000 := by
            unfold hiL
            rw [List.length_map, List.length_range, dd_here hpn]
            have := (st p hp).1
            omega
          refine ⟨_, rfl, _, rfl, ph, _, _, _, rfl, rfl, .inl (.inl x5.hh), at_ref hu1, .inl ⟨rfl, _, SqL.of hhv⟩, _, rfl, u, _, _, rfl, rfl, hhv, szt (by rw [List.length_map]; omega), ?_⟩
          refine ⟨_, rfl, _, rfl, rfl, .inr ⟨_, rfl, _, _, rfl, rfl, ?_⟩⟩
          have q6 : (upd H5 u (.lst (List.map V.int (hiL ws (dd c ((flN f ws.length).take i) p) p) ++ [.int b2]))) psh = some (.lst ((shL ws.length (dd c ((flN f ws.length).take i))).map V.int)) := by rw [upd_ne u1.symm]; exact x5.sh
          refine ⟨_, rfl, _, rfl, psh, _, _, _, rfl, rfl, .inl (.inl q6), eat, _, _, rfl, rfl, _, rfl, _, rfl, psh, _, _, p, rfl, rfl, q6, hix, ?_⟩
          rw [← dd_here (c := c) hpn, shL_set (e := dd c ((flN f ws.length).take i ++ [p])) hp (by rw [dd_next hpn, dd_here hpn]) (fun q hq => dd_other hq)]
          refine ⟨_, _, rfl, by rw [upd_ne n9'.1, upd_ne n9'.2.1]; exact h9, ⟨(x5.kp.mut u4).mut ap.s1.2.2, upd_same, by rw [upd_ne ap.s1.1.symm, upd_ne u2.symm]; exact x5.hh, by rw [upd_ne ap.s1.2.1.symm, upd_ne u3.symm]; exact x5.ll, fun q w hw => ?_, fun q w hw => ?_⟩, ?_⟩
          · have wm := List.mem_of_getElem? hw
            rw [upd_ne (ap.h1 w wm).1]
            by_cases e : q = p
            · subst e
              rw [hu1] at hw
              cases Option.some.inj hw
              rw [upd_same, dd_next hpn, dd_here hpn, hiL_even c1, hTp, List.map_append]
              rfl
            · rw [upd_ne (nd_other ap.hd hu1 hw e), dd_other e]
              exact x5.hv q w hw
          · have wm := List.mem_of_getElem? hw
            rw [upd_ne (ap.l1 w wm).1, upd_ne (fun z => ap.hl u um (by rw [← z]; exact wm)), x5.lv q w hw]
            by_cases e : q = p
            · subst e
              rw [dd_next hpn, dd_here hpn, loL_even c1]
            · rw [dd_other e]
          · rw [hw2]
            by_cases e : p = 0
            · subst e
              rw [dd_next hpn, dd_here hpn]
              have e1 : (if decide (V.int ((0 : Nat) : Int) = V.int 0) = true then (1 : Int) else 0) = 1 := if_pos (decide_eq_true rfl)
              show _ - (if decide (V.int ((0 : Nat) : Int) = V.int 0) = true then (1 : Int) else 0) = _
              rw [e1]
              omega
            · rw [dd_other (fun z => e z.symm)]
              show _ - (if decide (V.int (p : Int) = V.int 0) = true then 1 else 0) = _
              rw [if_neg (by rw [decide_eq_false (fun z => e (by have := V.int.inj z; omega))]; exact Bool.false_ne_true)]
              omega
      · rintro σ H5 ⟨w2, y, rfl, h9, x5, hw2⟩
        have etk : (flN f ws.length).take ((fil f ws.length).map V.int).length = flN f ws.length := by
          rw [fil_flN, List.length_map, List.length_map, List.take_length]
        rw [etk] at x5 hw2
        refine ⟨(1400 - b2).toNat, by omega, b2, dd c (flN f ws.length), w2, _, _, rfl, rfl, x5, hw2, st4.congr (fun p hp => ?_), by omega, hb3⟩
        unfold dd
        by_cases e : f p = true
        · rw [if_pos (flN_mem.mpr ⟨hp, e⟩), if_pos e]
        · rw [if_neg (fun z => e (flN_mem.mp z).2), if_neg e]
    · refine ⟨_, rfl, _, _, rfl, rfl, _, rfl, iteFo (decide_eq_false c1) ?_⟩
      refine ⟨_, rfl, psh, _, rfl, .inl (.inl x.sh), by rw [shL_len]; omega, fun mx hm1 hm2 => ?_⟩
      by_cases c2 : 0 < mx
      · refine ⟨_, _, rfl, rfl, _, rfl, iteTo (decide_eq_true c2) ?_⟩
        obtain ⟨p0, hup, huc⟩ : ∃ p0, p0 < ws.length ∧ c p0 < 2 * S := by
          unfold shL at hm1
          obtain ⟨p0, hp0, e0⟩ := List.mem_map.mp hm1
          have hp0 := List.mem_range.mp hp0
          have := (st p0 hp0).1
          exact ⟨p0, hp0, by omega⟩
        refine ⟨_, rfl, _, rfl, _, _, rfl, rfl, _, rfl, iteTo (decide_eq_true (show b < 1400 by omega)) ?_⟩
        refine ⟨_, fun σ' H'' w => w, ?_⟩
        refine ⟨_, rfl, _, _, rfl, rfl, ?_⟩
        refine ⟨_, rfl, _, rfl, _, rfl, a, rfl, ⟨_, x.kp.sqL hS⟩, fun D nD => ?_⟩
        refine lc_list (K := K) (a := a) (xs := ws.map V.int) (fun i H'' => Kp H' H'' ∧ H'' D = some (.lst (((ws.take i).map fun z => decide (z ≤ b + 1)).map V.bl))) ⟨Kp.new nD, upd_same⟩ (fun i H'' _ ⟨kq, _⟩ => (x.kp.trans kq).sqL hS) ?_ ?_
        · rintro i v H'' hi ⟨kq, hDl⟩
          obtain ⟨z, _, rfl, hz⟩ := mem_ints hi
          refine ⟨rfl, ?_⟩
          refine ⟨_, rfl, _, rfl, _, _, rfl, rfl, _, hDl, szt (by rw [List.length_map, List.length_map, List.length_take]; omega), kq.mut nD, ?_⟩
          rw [upd_same, take_snoc hz, List.map_append, List.map_append]
          rfl
        rintro H2 ⟨k2, hD2⟩
        rw [List.length_map, List.take_length] at hD2
        have x2 := x.more k2
        refine ⟨psh, D, shL ws.length c, wt, ws.map fun z => decide (z ≤ b + 1), rfl, .inl (.inl x2.sh), .inl (.inl hD2), by rw [List.length_map, shL_len], by rw [shL_len]; omega, fun p9 H3 k3 n9 q9 => ?_⟩
        rw [shL_len] at q9
        have x3 := x2.more k3
        obtain ⟨f, hf⟩ : ∃ f : Nat → Bool, stp (shL ws.length c) wt (ws.map fun z => decide (z ≤ b + 1)) = f := ⟨_, rfl⟩
        rw [hf] at q9
        have fiff : ∀ p, p < ws.length → (f p = true ↔ (c p < 2 * S ∧ TT ws (c p + 1) p ≤ b + 1)) := fun p hp => by rw [← hf]; exact stp_acts st hb0 hwt hp
        have st1 := st.step f fiff
        have hle := st.before hup huc
        refine ⟨fun σ' H4 => ∃ b2 : Int, σ' = [some (.int (S : Int)), some (.ref a), some (.int 1400), some (.ref psh), some (.ref ph), none, some (.ref pl), some (.int wt), some (.int b2), some (.ref p9), y10] ∧ Kp H3 H4 ∧ b + 1 ≤ b2 ∧ b2 ≤ TT ws (2 * S) (ws.length - 1) ∧ Sta ws S b2 (fun p => if f p = true then c p + 1 else c p) ∧ (∀ p, p < ws.length → f p = true → TT ws (c p + 1) p = b2), ?_, ?_⟩
        · refine ⟨_, rfl, p9, _, rfl, .inl (.inl (.inl q9)), rfl, _, rfl, iteD (fun c0 => ?_) (fun c0 => ?_)⟩
          · have c0 := V.int.inj c0
            rw [List.length_map] at c0
            have e0 : fil f ws.length = [] := List.length_eq_zero_iff.mp (by omega)
            have nof : ∀ p, p < ws.length → f p = false := fun p hp => by
              cases e : f p with
              | false => rfl
              | true =>
                have m : ((p : Int)) ∈ fil f ws.length := fil_mem.mpr ⟨p, rfl, hp, e⟩
                rw [e0] at m
                cases m
            have ceq : ∀ p, p < ws.length → (if f p = true then c p + 1 else c p) = c p := fun p hp => by rw [nof p hp]; rfl
            have st2 : Sta ws S (b + 1) c := st1.congr fun p hp => (ceq p hp).symm
            refine ⟨_, rfl, _, rfl, a, rfl, ⟨_, x3.kp.sqL hS⟩, fun D5 nD5 => ?_⟩
            refine lc_list (K := K) (a := a) (xs := ws.map V.int) (fun i H'' => Kp H3 H'' ∧ H'' D5 = some (.lst (((ws.take i).filter fun z => decide (b + 1 < z)).map V.int))) ⟨Kp.new nD5, upd_same⟩ (fun i H'' _ ⟨kq, _⟩ => (x3.kp.trans kq).sqL hS) ?_ ?_
            · rintro i v H'' hi ⟨kq, hDl⟩
              obtain ⟨z, _, rfl, hz⟩ := mem_ints hi
              have hfl : ((ws.take i).filter fun z => decide (b + 1 < z)).length ≤ ws.length := Nat.le_trans (List.length_filter_le _ _) (by rw [List.length_take]; omega)
              refine ⟨rfl, ?_⟩
              refine ⟨_, rfl, _, rfl, _, _, rfl, rfl, _, rfl, iteD (fun c1 => ?_) (fun c1 => ?_)⟩
              · refine ⟨_, rfl, _, hDl, szt (by rw [List.length_map]; omega), kq.mut nD5, ?_⟩
                have e : (ws.take (i + 1)).filter (fun z => decide (b + 1 < z)) = (ws.take i).filter (fun z => decide (b + 1 < z)) ++ [z] := by
                  rw [take_snoc hz, List.filter_append]
                  simp [show b + 1 < z from c1]
                rw [upd_same, e, List.map_append]
                rfl
              · refine ⟨kq, ?_⟩
                have e : (ws.take (i + 1)).filter (fun z => decide (b + 1 < z)) = (ws.take i).filter (fun z => decide (b + 1 < z)) := by
                  rw [take_snoc hz, List.filter_append]
                  simp [show ¬ b + 1 < z from c1]
                rw [e]
                exact hDl
            rintro H5 ⟨k5, hD5⟩
            rw [List.length_map, List.take_length] at hD5
            have fin : ∀ m : Int, (∀ p, p < ws.length → b + 1 < ws.getD p 0 → m ≤ ws.getD p 0) → ∃ b2 : Int, [some (V.int (S : Int)), some (.ref a), some (.int 1400), some (.ref psh), some (.ref ph), none, some (.ref pl), some (.int wt), some (.int (if m - 1 > b + 1 then m - 1 else b + 1)), some (.ref p9), y10] = [some (.int (S : Int)), some (.ref a), some (.int 1400), some (.ref psh), some (.ref ph), none, some (.ref pl), some (.int wt), some (.int b2), some (.ref p9), y10] ∧ Kp H3 H5 ∧ b + 1 ≤ b2 ∧ b2 ≤ TT ws (2 * S) (ws.length - 1) ∧ Sta ws S b2 (fun p => if f p = true then c p + 1 else c p) ∧ (∀ p, p < ws.length → f p = true → TT ws (c p + 1) p = b2) := by
              intro m hm
              have st3 : Sta ws S (if m - 1 > b + 1 then m - 1 else b + 1) c := by
                split
                · rename_i hgt
                  exact Sta.skip (b := b + 1) (by rw [show b + 1 - 1 = b by omega]; exact st) st2 (by omega) hm (by omega)
                · exact st2
              have hle2 := st3.before hup huc
              refine ⟨_, rfl, k5, by split <;> omega, by omega, st3.congr ceq, fun p hp hfp => by rw [nof p hp] at hfp; cases hfp⟩
            refine ⟨_, rfl, D5, _, _, rfl, rfl, .inl (.inl hD5), fun e => ?_, fun m h1 h2 => ?_⟩
            · refine ⟨_, _, rfl, rfl, _, _, rfl, ?_⟩
              refine fin 1400 fun p hp hgt => ?_
              have hm : ws.getD p 0 ∈ ws.filter fun z => decide (b + 1 < z) := by
                rw [List.mem_filter]
                refine ⟨?_, decide_eq_true hgt⟩
                rw [List.getD_eq_getElem?_getD, List.getElem?_eq_getElem hp]
                exact List.getElem_mem hp
              rw [e] at hm
              cases hm
            · refine ⟨_, _, rfl, rfl, _, _, rfl, ?_⟩
              refine fin m fun p hp hgt => h2 _ ?_
              rw [List.mem_filter]
              refine ⟨?_, decide_eq_true hgt⟩
              rw [List.getD_eq_getElem?_getD, List.getElem?_eq_getElem hp]
              exact List.getElem_mem hp
          · refine ⟨b + 1, rfl, .refl _, by omega, by omega, st1, fun p hp hfp => ?_⟩
            obtain ⟨g1, g2⟩ := (fiff p hp).mp hfp
            have := (st p hp).2.2 g1
            omega
        rintro σ' H4 ⟨b2, rfl, k4, hb2, hb3, st4, hT⟩
        have x4 := x3.more k4
        have q94 := k4.same _ _ rfl q9
        refine ⟨_, rfl, p9, rfl, ⟨_, .inl (.inl q94)⟩, for_list (K := K) (a := p9) (xs := (fil f ws.length).map V.int) (fun i σ H5 => ∃ (w2 : Int) (y : Option V), σ = [some (.int (S : Int)), some (.ref a), some (.int 1400), some (.ref psh), some (.ref ph), none, some (.ref pl), some (.int w2), some (.int b2), some (.ref p9), y] ∧ H5 p9 = some (.lst ((fil f ws.length).map V.int)) ∧ Pl H H5 psh ph pl hs ls ws (dd c ((flN f ws.length).take i)) ∧ w2 = (S : Int) - (((dd c ((flN f ws.length).take i) 0 + 1) / 2 : Nat) : Int))
          ⟨wt, y10, rfl, q94, x4, hwt⟩ (fun i σ H5 _ ⟨_, _, _, h9, _⟩ => .inl (.inl h9)) ?_ ?_⟩
        · rintro i v σ H5 hi ⟨w2, y, rfl, h9, x5, hw2⟩
          obtain ⟨p, hpi, rfl, hp, hfp, hpn⟩ := flN_at hi
          have hTp := hT p hp hfp
          obtain ⟨u, hu1⟩ : ∃ u, hs[p]? = some u := ⟨_, List.getElem?_eq_getElem (by rw [ap.hn]; exact hp)⟩
          obtain ⟨v, hv1⟩ : ∃ v, ls[p]? = some v := ⟨_, List.getElem?_eq_getElem (by rw [ap.ln]; exact hp)⟩
          have um := List.mem_of_getElem? hu1
          have vm := List.mem_of_getElem? hv1
          obtain ⟨u1, u2, u3, u4⟩ := ap.h1 u um
          obtain ⟨v1, v2, v3, v4⟩ := ap.l1 v vm
          have n9' : p9 ≠ psh ∧ p9 ≠ u ∧ p9 ≠ v := ⟨(ne_of_none x2.sh n9).symm, (ne_of_none (x2.hv p u hu1) n9).symm, (ne_of_none (x2.lv p v hv1) n9).symm⟩
          have eat : atI ((shL ws.length (dd c ((flN f ws.length).take i))).map V.int) (p : Int) = some (.int ((c p % 2 : Nat) : Int)) := by
            rw [getD_at (by rw [shL_len]; exact hp), shL_at hp, dd_here hpn]
          rw [take_snoc hpi]
          have hix : ixN ((shL ws.length (dd c ((flN f ws.length).take i))).map V.int).length (p : Int) = some p := by
            rw [List.length_map, shL_len]
            unfold ixN
            rw [if_pos (by omega), if_pos (by omega), Int.toNat_natCast]
          refine ⟨_, rfl, _, rfl, psh, _, _, _, rfl, rfl, .inl (.inl x5.sh), eat, rfl, _, rfl, iteD (fun c1 => ?_) (fun c1 => ?_)⟩
          · have c1 : c p % 2 = 1 := by have := V.int.inj c1; omega
            have hlv := x5.lv p v hv1
            have l5 : (loL ws (dd c ((flN f ws.length).take i) p) p).length ≤ 10000 := by
              unfold loL
              rw [List.length_map, List.length_range, dd_here hpn]
              have := (st p hp).1
              omega
            refine ⟨_, rfl, _, rfl, pl, _, _, _, rfl, rfl, .inl (.inl x5.ll), at_ref hv1, .inl ⟨rfl, _, SqL.of hlv⟩, _, rfl, v, _, _, rfl, rfl, hlv, szt (by rw [List.length_map]; omega), ?_⟩
            have q6 : (upd H5 v (.lst (List.map V.int (loL ws (dd c ((flN f ws.length).take i) p) p) ++ [.int b2]))) psh = some (.lst ((shL ws.length (dd c ((flN f ws.length).take i))).map V.int)) := by rw [upd_ne v1.symm]; exact x5.sh
            refine ⟨_, rfl, _, rfl, psh, _, _, _, rfl, rfl, .inl (.inl q6), eat, _, _, rfl, rfl, _, rfl, _, rfl, psh, _, _, p, rfl, rfl, q6, hix, ?_⟩
            rw [← dd_here (c := c) hpn, shL_set (e := dd c ((flN f ws.length).take i ++ [p])) hp (by rw [dd_next hpn, dd_here hpn]) (fun q hq => dd_other hq)]
            refine ⟨w2, _, rfl, by rw [upd_ne n9'.1, upd_ne n9'.2.2]; exact h9, ⟨(x5.kp.mut v4).mut ap.s1.2.2, upd_same, by rw [upd_ne ap.s1.1.symm, upd_ne v2.symm]; exact x5.hh, by rw [upd_ne ap.s1.2.1.symm, upd_ne v3.symm]; exact x5.ll, fun q w hw => ?_, fun q w hw => ?_⟩, ?_⟩
            · have wm := List.mem_of_getElem? hw
              rw [upd_ne (ap.h1 w wm).1, upd_ne (fun z => ap.hl w wm (by rw [z]; exact vm)), x5.hv q w hw]
              by_cases e : q = p
              · subst e
                rw [dd_next hpn, dd_here hpn, hiL_odd c1]
              · rw [dd_other e]
            · have wm := List.mem_of_getElem? hw
              rw [upd_ne (ap.l1 w wm).1]
              by_cases e : q = p
              · subst e
                rw [hv1] at hw
                cases Option.some.inj hw
                rw [upd_same, dd_next hpn, dd_here hpn, loL_odd c1, hTp, List.map_append]
                rfl
              · rw [upd_ne (nd_other ap.ld hv1 hw e), dd_other e]
                exact x5.lv q w hw
            · rw [hw2]
              by_cases e : p = 0
              · subst e
                rw [dd_next hpn, dd_here hpn]
                omega
              · rw [dd_other (fun z => e z.symm)]
          · have c1 : c p % 2 = 0 := by
              have : ¬ ((c p % 2 : Nat) : Int) = 1 := fun z => c1 (by rw [z])
              omega
            have hhv := x5.hv p u hu1
            have l5 : (hiL ws (dd c ((flN f ws.length).take i) p) p).length ≤ 10000 := by
              unfold hiL
              rw [List.length_map, List.length_range, dd_here hpn]
              have := (st p hp).1
              omega
            refine ⟨_, rfl, _, rfl, ph, _, _, _, rfl, rfl, .inl (.inl x5.hh), at_ref hu1, .inl ⟨rfl, _, SqL.of hhv⟩, _, rfl, u, _, _, rfl, rfl, hhv, szt (by rw [List.length_map]; omega), ?_⟩
            refine ⟨_, rfl, _, rfl, rfl, .inr ⟨_, rfl, _, _, rfl, rfl, ?_⟩⟩
            have q6 : (upd H5 u (.lst (List.map V.int (hiL ws (dd c ((flN f ws.length).take i) p) p) ++ [.int b2]))) psh = some (.lst ((shL ws.length (dd c ((flN f ws.length).take i))).map V.int)) := by rw [upd_ne u1.symm]; exact x5.sh
            refine ⟨_, rfl, _, rfl, psh, _, _, _, rfl, rfl, .inl (.inl q6), eat, _, _, rfl, rfl, _, rfl, _, rfl, psh, _, _, p, rfl, rfl, q6, hix, ?_⟩
            rw [← dd_here (c := c) hpn, shL_set (e := dd c ((flN f ws.length).take i ++ [p])) hp (by rw [dd_next hpn, dd_here hpn]) (fun q hq => dd_other hq)]
            refine ⟨_, _, rfl, by rw [upd_ne n9'.1, upd_ne n9'.2.1]; exact h9, ⟨(x5.kp.mut u4).mut ap.s1.2.2, upd_same, by rw [upd_ne ap.s1.1.symm, upd_ne u2.symm]; exact x5.hh, by rw [upd_ne ap.s1.2.1.symm, upd_ne u3.symm]; exact x5.ll, fun q w hw => ?_, fun q w hw => ?_⟩, ?_⟩
            · have wm := List.mem_of_getElem? hw
              rw [upd_ne (ap.h1 w wm).1]
              by_cases e : q = p
              · subst e
                rw [hu1] at hw
                cases Option.some.inj hw
                rw [upd_same, dd_next hpn, dd_here hpn, hiL_even c1, hTp, List.map_append]
                rfl
              · rw [upd_ne (nd_other ap.hd hu1 hw e), dd_other e]
                exact x5.hv q w hw
            · have wm := List.mem_of_getElem? hw
              rw [upd_ne (ap.l1 w wm).1, upd_ne (fun z => ap.hl u um (by rw [← z]; exact wm)), x5.lv q w hw]
              by_cases e : q = p
              · subst e
                rw [dd_next hpn, dd_here hpn, loL_even c1]
              · rw [dd_other e]
            · rw [hw2]
              by_cases e : p = 0
              · subst e
                rw [dd_next hpn, dd_here hpn]
                have e1 : (if decide (V.int ((0 : Nat) : Int) = V.int 0) = true then (1 : Int) else 0) = 1 := if_pos (decide_eq_true rfl)
                show _ - (if decide (V.int ((0 : Nat) : Int) = V.int 0) = true then (1 : Int) else 0) = _
                rw [e1]
                omega
              · rw [dd_other (fun z => e z.symm)]
                show _ - (if decide (V.int (p : Int) = V.int 0) = true then 1 else 0) = _
                rw [if_neg (by rw [decide_eq_false (fun z => e (by have := V.int.inj z; omega))]; exact Bool.false_ne_true)]
                omega
        · rintro σ H5 ⟨w2, y, rfl, h9, x5, hw2⟩
          have etk : (flN f ws.length).take ((fil f ws.length).map V.int).length = flN f ws.length := by
            rw [fil_flN, List.length_map, List.length_map, List.take_length]
          rw [etk] at x5 hw2
          refine ⟨(1400 - b2).toNat, by omega, b2, dd c (flN f ws.length), w2, _, _, rfl, rfl, x5, hw2, st4.congr (fun p hp => ?_), by omega, hb3⟩
          unfold dd
          by_cases e : f p = true
          · rw [if_pos (flN_mem.mpr ⟨hp, e⟩), if_pos e]
          · rw [if_neg (fun z => e (flN_mem.mp z).2), if_neg e]
      · refine ⟨_, _, rfl, rfl, _, rfl, iteFo (decide_eq_false c2) (iteFo rfl ?_)⟩
        have even : ∀ p, p < ws.length → c p % 2 = 0 := fun p hp => by
          have z := hm2 ((c p % 2 : Nat) : Int) (List.mem_map.mpr ⟨p, List.mem_range.mpr hp, rfl⟩)
          omega
        have all : ∀ p, p < ws.length → c p = 2 * S := by
          intro p
          induction p with
          | zero =>
            intro hp
            have := even 0 hp
            have := (st 0 hp).1
            omega
          | succ p ih =>
            intro hp
            have i := ih (by omega)
            have := even (p + 1) hp
            have := st.le hp
            have := st.ge1 hp
            omega
        have ebt : b = thrN (S : Int) ws := by
          rw [thr_TT (by omega)]
          have z := (st (ws.length - 1) (by omega)).2.1
          rw [all (ws.length - 1) (by omega)] at z
          omega
        refine ⟨_, rfl, _, rfl, _, rfl, szl (by show 3 ≤ 100000; decide), fun t nt => ?_⟩
        generalize h_Hz : upd H' t _ = Hz
        have k_Hz : Kp H' Hz := by rw [← h_Hz]; exact .new nt
        have q_Hz := (congrFun h_Hz t).symm.trans upd_same
        clear h_Hz
        have xz := x.more k_Hz
        rw [ebt] at q_Hz
        refine k t ph pl hs ls Hz xz.kp q_Hz xz.hh xz.ll ap.hn ap.ln (fun p u hu => ?_) (fun p u hu => ?_)
        · have hp : p < ws.length := by have := (List.getElem?_eq_some_iff.mp hu).1; rw [ap.hn] at this; exact this
          rw [← all p hp]
          exact xz.hv p u hu
        · have hp : p < ws.length := by have := (List.getElem?_eq_some_iff.mp hu).1; rw [ap.ln] at this; exact this
          rw [← all p hp]
          exact xz.lv p u hu
/-! ### _law_wakes: first beats -/
theorem fourW (a b c z : Int) (ha : 0 ≤ a ∧ a ≤ 999) (hb : 0 ≤ b ∧ b ≤ 999) (hc : 0 ≤ c ∧ c ≤ 999) : ∃ v : Int, atI [V.int 0, V.int a, V.int b, V.int c] (z % 4) = some (.int v) ∧ 0 ≤ v ∧ v ≤ 999 := by
  have h0 : 0 ≤ z % 4 := Int.emod_nonneg _ (by decide)
  have h1 : z % 4 < 4 := Int.emod_lt_of_pos _ (by decide)
  generalize z % 4 = m at h0 h1
  have hm : m = 0 ∨ m = 1 ∨ m = 2 ∨ m = 3 := by omega
  rcases hm with rfl | rfl | rfl | rfl
  · exact ⟨0, rfl, by decide, by decide⟩
  · exact ⟨a, rfl, ha.1, ha.2⟩
  · exact ⟨b, rfl, hb.1, hb.2⟩
  · exact ⟨c, rfl, hc.1, hc.2⟩
def sp_l_wakes (K : PySem.W.Frag) : Sp := fun vs H Q _ => ∃ (a : Addr) (ns : List Int) (j : Nat), vs = [.ref a, .int (j : Int)] ∧ SqL K H a (ns.map V.int) ∧ j ≤ 1000 ∧
  ∀ (ws : List Int) (p : Addr) (H' : Hp), Kp H H' → H p = none → H' p = some (.lst (ws.map V.int)) → 2 ≤ ws.length → ws.length ≤ 12 → (∀ x ∈ ws, 1 ≤ x ∧ x ≤ 1000) → Q (.ref p) H'
theorem ok_l_wakes (T : Txt K mg) : FnOk P w K mg base CX0 2 T.f_l_wakes T.d_l_wakes ["_law_script", "_law_at"] (sp_l_wakes K) := by
  refine T.F_l_wakes.ok sc_l_wakes (fun vs H Q E h => ?_) (fun cdv A outer s H vs Q E hr h => ?_)
  · obtain ⟨a, ns, j, rfl, _⟩ := h
    rfl
  · obtain ⟨a, ns, j, rfl, hS, hj, k⟩ := h
    refine ⟨_, (pss_cons (ps_set (i := 2) sc_l_wakes.nd rfl (by first | exact Or.inl rfl | exact Or.inr rfl) (pe_op op_add pe_int (pe_op op_mod (pe_call (ok_l_cell T) (hr.mono (by decide)) rfl T.g_l_cell T.F_l_cell.kp T.b_l_cell .nil pass0 (pa_cons (pv 0) (pa_cons (pv 1) pa_nil))) pe_int)))
      (pss_cons (ps_set (i := 3) sc_l_wakes.nd rfl (by first | exact Or.inl rfl | exact Or.inr rfl) (pe_call (ok_l_row T) (hr.mono (by decide)) rfl T.g_l_row T.F_l_row.kp T.b_l_row .nil pass0 (pa_cons (pe_call (ok_l_cell T) (hr.mono (by decide)) rfl T.g_l_cell T.F_l_cell.kp T.b_l_cell .nil pass0 (pa_cons (pv 0) (pa_cons (pe_op op_add (pv 1) pe_int) pa_nil))) (pa_cons (pv 2) (pa_cons (pe_op op_mul pe_int pe_int) pa_nil)))))
      (pss_cons (ps_set (i := 4) sc_l_wakes.nd rfl (by first | exact Or.inl rfl | exact Or.inr rfl) (pe_op op_mod (pe_op op_fdiv (pe_call (ok_l_cell T) (hr.mono (by decide)) rfl T.g_l_cell T.F_l_cell.kp T.b_l_cell .nil pass0 (pa_cons (pv 0) (pa_cons (pv 1) pa_nil))) pe_int) pe_int))
      (pss_one (ps_ret (pe_lc (own := [("_law_num", 5)]) (g := gName 5) (tt := tYes) (by rfl) sc_l_wakes.nd (pi_list (pv 3)) (blkOk_by (own := [("_law_num", 5)]) (N := ["_law_script", "_law_at", "_law_many", "_law_nums", "_law_kind", "_law_num"]) (sc := defScope s_l_wakes) (by decide +kernel)) (fun _ _ _ _ _ => (pg_name (i := 5) sc_l_wakes.nd rfl (by first | exact Or.inl rfl | exact Or.inr rfl))) (fun _ _ _ _ _ => pts_nil) (fun _ _ _ _ _ => (pe_op op_add pe_int (pe_ix (ix_tupK K rfl) (pe_tup (pa_cons pe_int (pa_cons (pe_op op_mod (pe_op op_mul (pe_op op_fdiv (pv 5) pe_int) pe_int) pe_int) (pa_cons (pe_op op_mod (pv 5) pe_int) (pa_cons (pe_op op_mod (pv 5) pe_int) pa_nil))))) (pv 4) (fun _ _ => rfl)))))))))), ?_⟩
    have m0 : 0 ≤ cellV ns j % 11 := Int.emod_nonneg _ (by decide)
    have m1 : cellV ns j % 11 < 11 := Int.emod_lt_of_pos _ (by decide)
    refine ⟨_, rfl, _, rfl, a, ns, j, rfl, hS, by omega, _, _, rfl, rfl, (by show (0 : Int) < 11; decide), _, _, rfl, rfl, ?_⟩
    refine ⟨_, rfl, _, rfl, _, _, rfl, rfl, a, ns, j + 1, rfl, hS, by omega, _, rfl, _, _, rfl, rfl, .inl ⟨by decide, by decide⟩, _, _, _, rfl, (by show (0 : Int) ≤ 2 + cellV ns j % 11; omega), (by show (2 : Int) + cellV ns j % 11 ≤ 1000; omega), by decide, by decide, fun nums p3 H1 n3 k1 q1 ⟨hl, hb⟩ => ?_⟩
    have hl : (nums.length : Int) = 2 + cellV ns j % 11 := hl
    refine ⟨_, rfl, _, rfl, a, ns, j, rfl, k1.sqL hS, by omega, _, _, rfl, rfl, ⟨by decide, by decide⟩, _, _, rfl, rfl, (by show (0 : Int) < 4; decide), ?_⟩
    refine ⟨_, rfl, p3, rfl, ⟨_, .inl (.inl q1)⟩, fun D nD => ?_⟩
    refine lc_list (K := K) (a := p3) (xs := nums.map V.int) (fun i H' => ∃ zs : List Int, zs.length = i ∧ Kp H1 H' ∧ H' D = some (.lst (zs.map V.int)) ∧ ∀ x ∈ zs, 1 ≤ x ∧ x ≤ 1000) ⟨[], rfl, Kp.new nD, upd_same, by simp⟩ (fun i H' _ ⟨_, _, kq, _⟩ => kq.sqL (.inl (.inl q1))) ?_ ?_
    · rintro i x H' hi ⟨zs, hzl, kq, hDl, hzb⟩
      obtain ⟨z, _, rfl, hz⟩ := mem_ints hi
      have hil : i < nums.length := (List.getElem?_eq_some_iff.mp hz).1
      obtain ⟨v, hv, v0, v1⟩ := fourW (z / 1000 * 3 % 25) (z % 40) (z % 1000) (cellV ns j / 11) ⟨Int.emod_nonneg _ (by decide), by have := Int.emod_lt_of_pos (z / 1000 * 3) (show (0 : Int) < 25 by decide); omega⟩ ⟨Int.emod_nonneg _ (by decide), by have := Int.emod_lt_of_pos z (show (0 : Int) < 40 by decide); omega⟩ ⟨Int.emod_nonneg _ (by decide), by have := Int.emod_lt_of_pos z (show (0 : Int) < 1000 by decide); omega⟩
      refine ⟨rfl, ?_⟩
      refine ⟨_, rfl, _, _, rfl, rfl, ⟨by decide, by decide⟩, _, _, rfl, rfl, .inr ⟨by decide, by decide⟩, _, _, rfl, rfl, (by show (0 : Int) < 25; decide), _, rfl, _, _, rfl, rfl, (by show (0 : Int) < 40; decide), _, rfl, _, _, rfl, rfl, (by show (0 : Int) < 1000; decide), szl (by show 4 ≤ 100000; decide), fun t nt => ?_⟩
      generalize h_Hx : upd H' t _ = Hx
      have k_Hx : Kp H' Hx := by rw [← h_Hx]; exact .new nt
      have q_Hx := (congrFun h_Hx t).symm.trans upd_same
      clear h_Hx
      refine ⟨_, rfl, t, _, _, _, rfl, rfl, .inl (.inl q_Hx), hv, _, _, rfl, rfl, _, k_Hx.same _ _ rfl hDl, szt (by rw [List.length_map]; omega), zs ++ [1 + v], by rw [List.length_append, hzl]; rfl, (kq.trans k_Hx).mut nD, by rw [upd_same, List.map_append]; rfl, fun x hx => ?_⟩
      rcases List.mem_append.mp hx with hx | hx
      · exact hzb x hx
      · rw [List.mem_singleton.mp hx]
        omega
    · rintro H2 ⟨zs, hzl, k2, hD2, hzb⟩
      rw [List.length_map] at hzl
      exact k zs D H2 (k1.trans k2) (k1.free _ nD) hD2 (by omega) (by omega) hzb
theorem okPlan_of {S : Nat} {ws : List Int} (h1 : 2 ≤ ws.length) (h2 : ws.length ≤ 12) (h3 : S ≤ 60) (h : ∀ x ∈ ws, 1 ≤ x ∧ x ≤ 1000) : okPlan (S : Int) ws = true := by
  unfold okPlan
  simp only [Bool.and_eq_true, decide_eq_true_eq, List.all_eq_true]
  exact ⟨by omega, by omega, h⟩
theorem lay_intsW : ∀ ns : List Int, PyData.canLayAll0 (ns.map PyData.int) = true
  | [] => by simp [PyData.canLayAll0]
  | n :: r => by simp [PyData.canLayAll0, PyData.canLay0, lay_intsW r]
theorem shaped_intsW (ns : List Int) : SeqAt.shaped (dI ns) = true := by
  have h := dep_intsM ns
  show (PyData.canLay0 (.list (ns.map PyData.int)) && decide (PyData.depth (.list (ns.map PyData.int)) ≤ 64)) = true
  rw [Bool.and_eq_true]
  refine ⟨by simp only [PyData.canLay0]; exact lay_intsW ns, decide_eq_true ?_⟩
  simp only [PyData.depth]
  omega
theorem eqv_intsW (ns : List Int) : PyData.eqv (dI ns) (dI ns) = true := SeqAt.eqv_refl _ (SeqAt.canLay_of_shaped (shaped_intsW ns))
/-! ### the told beats are those played -/
theorem acts_map (ws : List Int) (k : Nat) : acts ws k = (List.range ws.length).map fun p => TT ws k p := by
  refine List.ext_getElem? fun i => ?_
  rw [List.getElem?_map]
  by_cases h : i < ws.length
  · rw [List.getElem?_range h]
    show _ = some ((acts ws k).getD i 0)
    have h2 : i < (acts ws k).length := by rw [acts_len]; exact h
    rw [List.getD_eq_getElem?_getD, List.getElem?_eq_getElem h2]
    rfl
  · rw [List.getElem?_eq_none (by rw [acts_len]; omega), List.getElem?_eq_none (by rw [List.length_range]; omega)]
    rfl
theorem hi_at {ws : List Int} {S s p : Nat} (h : s < S) : atI ((hiL ws (2 * S) p).map V.int) (s : Int) = some (.int (TT ws (2 * s + 1) p)) := by
  refine atI_nat ?_
  unfold hiL
  rw [List.getElem?_map, List.getElem?_map, List.getElem?_range (by omega)]
  rfl
theorem lo_at {ws : List Int} {S s p : Nat} (h : s < S) : atI ((loL ws (2 * S) p).map V.int) (s : Int) = some (.int (TT ws (2 * s + 2) p)) := by
  refine atI_nat ?_
  unfold loL
  rw [List.getElem?_map, List.getElem?_map, List.getElem?_range (by omega)]
  rfl
def dTm (ws : List Int) (s : Nat) : PyData := .tuple [dI (rsL ws s), dI (lwL ws (s + 1))]
theorem told_dp {K : PySem.W.Frag} {ws : List Int} {H0 H : Hp} {p : Addr} {ts : List (Addr × Addr × Addr)} (h : Told ws H0 H p ts) : ∀ n, n ≤ ts.length → DpAll K H ((ts.take n).map fun x => V.ref x.1) ((List.range n).map (dTm ws))
  | 0, _ => .nil
  | n + 1, hn => by
    have ih := told_dp (K := K) h n (by omega)
    obtain ⟨⟨t, r, l⟩, e⟩ : ∃ x, ts[n]? = some x := ⟨_, List.getElem?_eq_getElem (by omega)⟩
    obtain ⟨_, _, d5, d6, d7⟩ := h n t r l e
    rw [take_snoc e, List.map_append, List.range_succ, List.map_append]
    exact DpAll.snoc ih (.tup (.inl (.inl d5)) (.cons (dp_dI (.inl (.inl d6))) (.cons (dp_dI (.inl (.inl d7))) .nil)))
theorem Told.kp {ws : List Int} {H0 H H' : Hp} {p : Addr} {ts : List (Addr × Addr × Addr)} (h : Told ws H0 H p ts) (k : Kp H H') : Told ws H0 H' p ts := fun j t r l e => by
  obtain ⟨d1, d4, d5, d6, d7⟩ := h j t r l e
  exact ⟨d1, d4, k.same _ _ rfl d5, k.same _ _ rfl d6, k.same _ _ rfl d7⟩
theorem dm_times {ws : List Int} {S : Nat} (hw : ws.length ≤ 12) (hS : S ≤ 60) : Dm 4 (.list ((List.range S).map (dTm ws))) := by
  refine .lst (fun d hd => ?_) (by rw [List.length_map, List.length_range]; omega)
  obtain ⟨s, _, rfl⟩ := List.mem_map.mp hd
  refine .tup (fun d hd => ?_) (by show 2 ≤ 10000; decide)
  simp only [List.mem_cons, List.not_mem_nil, or_false] at hd
  rcases hd with rfl | rfl
  · exact dm_dI (by rw [rsL_len]; omega)
  · exact dm_dI (by rw [lwL_len]; omega)
def sp_l_right (K : PySem.W.Frag) (P : Addr) : Sp := fun vs H Q _ => ∃ (S : Nat) (a : Addr) (ws : List Int), vs = [.int (S : Int), .ref a] ∧ SqL K H a (ws.map V.int) ∧ GxR.TabG H P ∧ okPlan (S : Int) ws = true ∧ ∀ H', Kp H H' → Q (.bl true) H'
theorem ok_l_right (T : Txt K mg) (TB : GxR.TabB base mg T.c_tab T.P_tab) : FnOk P w K mg base CX0 9 T.f_l_right T.d_l_right ["_law_signs", "_law_wakes_here"] (sp_l_right K T.P_tab) := by
  refine T.F_l_right.ok sc_l_right (fun vs H Q E h => ?_) (fun cdv A outer s H vs Q E hr h => ?_)
  · obtain ⟨S, a, ws, rfl, _⟩ := h
    rfl
  · obtain ⟨S, a, ws, rfl, hS, hT, hg, k⟩ := h
    obtain ⟨g1, g2, g3, g4⟩ := okPlan_iff hg
    refine ⟨_, (pss_cons (ps_asg (pe_call (ok_l_played T) (hr.mono (by decide)) rfl T.g_l_played T.F_l_played.kp T.b_l_played .nil pass0 (pa_cons (pv 0) (pa_cons (pv 1) (pa_cons pe_int pa_nil)))) (pg_tup (n := 3) rfl (pgs_cons (pg_name (i := 2) sc_l_right.nd rfl (by first | exact Or.inl rfl | exact Or.inr rfl)) (pgs_cons (pg_name (i := 3) sc_l_right.nd rfl (by first | exact Or.inl rfl | exact Or.inr rfl)) (pgs_cons (pg_name (i := 4) sc_l_right.nd rfl (by first | exact Or.inl rfl | exact Or.inr rfl)) pgs_nil)))))
      (pss_cons (ps_set (i := 5) sc_l_right.nd rfl (by first | exact Or.inl rfl | exact Or.inr rfl) (pe_lst pa_nil))
      (pss_cons (ps_for PassesOwn.never rfl (pi_range1 (by rfl) T.m_range (pa_cons (pv 0) pa_nil)) (pg_name (i := 6) sc_l_right.nd rfl (by first | exact Or.inl rfl | exact Or.inr rfl))
      (pss_one (ps_expr (pe_bm PySem.F.plainAttrs_list PySem.F.slot_list_append PySem.F.type_list_append mt_append (pv 5) (pa_cons (pe_tup (pa_cons (pe_lc (own := [("_law_row_here", 7)]) (g := gName 7) (tt := tYes) (by rfl) sc_l_right.nd (pi_list (pv 3)) (blkOk_by (own := [("_law_row_here", 7)]) (N := ["_law_signs", "_law_wakes_here", "_law_beat", "_law_highs", "_law_lows", "_law_due", "_law_sign", "_law_row_here", "_law_handed", "_law_found", "_law_pair"]) (sc := defScope s_l_right) (by decide +kernel)) (fun _ _ _ _ _ => (pg_name (i := 7) sc_l_right.nd rfl (by first | exact Or.inl rfl | exact Or.inr rfl))) (fun _ _ _ _ _ => pts_nil) (fun _ _ _ _ _ => (pe_ix (ix_listK K rfl) (pv 7) (pv 6) (fun _ _ => rfl)))) (pa_cons (pe_lc (own := [("_law_row_here", 7)]) (g := gName 7) (tt := tYes) (by rfl) sc_l_right.nd (pi_list (pv 4)) (blkOk_by (own := [("_law_row_here", 7)]) (N := ["_law_signs", "_law_wakes_here", "_law_beat", "_law_highs", "_law_lows", "_law_due", "_law_sign", "_law_row_here", "_law_handed", "_law_found", "_law_pair"]) (sc := defScope s_l_right) (by decide +kernel)) (fun _ _ _ _ _ => (pg_name (i := 7) sc_l_right.nd rfl (by first | exact Or.inl rfl | exact Or.inr rfl))) (fun _ _ _ _ _ => pts_nil) (fun _ _ _ _ _ => (pe_ix (ix_listK K rfl) (pv 7) (pv 6) (fun _ _ => rfl)))) pa_nil))) pa_nil)))))
      (pss_cons (ps_set (i := 8) sc_l_right.nd rfl (by first | exact Or.inl rfl | exact Or.inr rfl) (pe_callTy call_list_of (by rfl) T.m_list (by decide +kernel) (pa_cons (pv 1) pa_nil)))
      (pss_cons (ps_set (i := 9) sc_l_right.nd rfl (by first | exact Or.inl rfl | exact Or.inr rfl) (pe_call (ok_p_times T TB) (hr.mono (by decide)) rfl T.g_p_times T.F_p_times.kp T.b_p_times .nil passL (pa_cons (pv 0) (pa_cons (pv 8) pa_nil))))
      (pss_cons (ps_if (PW.pt (pw_or (pt_not (pt_val (pe_call (ok_l_like T 4) (hr.mono (by decide)) rfl T.g_l_like T.F_l_like.kp T.b_l_like .nil pass0 (pa_cons (pv 9) (pa_cons (pv 5) pa_nil))))) (pw_or (pt_not (pt_val (pe_call (ok_l_like T 4) (hr.mono (by decide)) rfl T.g_l_like T.F_l_like.kp T.b_l_like .nil pass0 (pa_cons (pe_call (ok_p_through T TB) (hr.mono (by decide)) rfl T.g_p_through T.F_p_through.kp T.b_p_through .nil passL (pa_cons (pv 0) (pa_cons (pv 8) pa_nil))) (pa_cons (pv 2) pa_nil))))) (pw_or1 (pt_cmpR (op_neD hr.units) (pv 8) (pv 1) (nomark _))))))
      (pss_one (ps_ret pe_bl))
      pss_nil)
      (pss_cons (ps_for PassesOwn.never rfl (pi_list (pv 9)) (pg_name (i := 10) sc_l_right.nd rfl (by first | exact Or.inl rfl | exact Or.inr rfl))
      (pss_cons (ps_expr (pe_bm PySem.F.plainAttrs_list PySem.F.slot_list_append PySem.F.type_list_append mt_append (pe_ix ix_tup (pv 10) pe_int (fun _ _ => rfl)) (pa_cons pe_int pa_nil)))
      (pss_one (ps_expr (pe_bm0 PySem.F.plainAttrs_list PySem.F.slot_list_clear PySem.F.type_list_clear mt_clear (pe_ix ix_tup (pv 10) pe_int (fun _ _ => rfl)))))))
      (pss_cons (ps_expr (pe_bm PySem.F.plainAttrs_list PySem.F.slot_list_append PySem.F.type_list_append mt_append (pv 9) (pa_cons pe_int pa_nil)))
      (pss_one (ps_ret pe_bl)))))))))), ?_⟩
    refine ⟨_, rfl, _, rfl, S, a, ws, rfl, hS, hg, fun t ph pl hs ls H1 k1 qt qh ql hn ln hv lv => ?_⟩
    refine ⟨t, _, rfl, .inl (.inl qt), rfl, _, _, rfl, _, _, rfl, _, _, rfl, rfl, ?_⟩
    refine ⟨Nat.zero_le _, fun p np => ?_⟩
    generalize h_H2 : upd H1 p _ = H2
    have k_H2 : Kp H1 H2 := by rw [← h_H2]; exact .new np
    have q_H2 := (congrFun h_H2 p).symm.trans upd_same
    clear h_H2
    refine ⟨_, rfl, (S : Int), rfl, by omega, by omega, ?_⟩
    refine for_range (lo := 0) (n := (S : Int).toNat) (fun i σ H' => ∃ (ts : List (Addr × Addr × Addr)) (y6 : Option V), σ = [some (.int (S : Int)), some (.ref a), some (.int (thrN (S : Int) ws)), some (.ref ph), some (.ref pl), some (.ref p), y6, none, none, none, none] ∧ Kp H1 H' ∧ H' p = some (.lst (ts.map fun x => .ref x.1)) ∧ ts.length = i ∧ Told ws H1 H' p ts)
        ⟨[], none, rfl, k_H2, q_H2, rfl, by intro j t r l h; simp at h⟩ ?_ ?_
    · rintro i σ H' hi ⟨ts, y6, rfl, kp, hp, htl, told⟩
      have ez : (0 : Int) + (i : Int) = (i : Int) := Int.zero_add _
      rw [ez]
      have hiS : i < S := by omega
      refine ⟨_, rfl, .inl ⟨rfl, _, SqL.of hp⟩, _, rfl, ph, rfl, ⟨_, .inl (.inl (kp.same _ _ rfl qh))⟩, fun r nr => ?_⟩
      refine lc_list (K := K) (a := ph) (xs := hs.map V.ref) (fun j H'' => Kp H' H'' ∧ H'' r = some (.lst (((List.range j).map fun q => TT ws (2 * i + 1) q).map V.int))) ⟨Kp.new nr, upd_same⟩ (fun j H'' _ ⟨kq, _⟩ => .inl (.inl ((kp.trans kq).same _ _ rfl qh))) ?_ ?_
      · rintro j x H'' hj ⟨kq, hDl⟩
        rw [List.getElem?_map] at hj
        obtain ⟨u, hu, rfl⟩ : ∃ u, hs[j]? = some u ∧ x = .ref u := by
          cases e : hs[j]? with
          | none => rw [e] at hj; cases hj
          | some u => rw [e] at hj; exact ⟨u, rfl, (Option.some.inj hj).symm⟩
        have hjl : j < hs.length := (List.getElem?_eq_some_iff.mp hu).1
        refine ⟨rfl, ?_⟩
        refine ⟨_, rfl, _, rfl, u, _, _, _, rfl, rfl, .inl (.inl ((kp.trans kq).same _ _ rfl (hv j u hu))), hi_at hiS, _, hDl, szt (by rw [List.length_map, List.length_map, List.length_range]; omega), kq.mut nr, ?_⟩
        rw [upd_same, List.range_succ, List.map_append, List.map_append]
        rfl
      rintro H3 ⟨k3, hr3⟩
      rw [List.length_map, hn, ← acts_map, ← (lw_acts ws i).2] at hr3
      refine ⟨_, rfl, pl, rfl, ⟨_, .inl (.inl ((kp.trans k3).same _ _ rfl ql))⟩, fun l nl => ?_⟩
      refine lc_list (K := K) (a := pl) (xs := ls.map V.ref) (fun j H'' => Kp H3 H'' ∧ H'' l = some (.lst (((List.range j).map fun q => TT ws (2 * i + 2) q).map V.int))) ⟨Kp.new nl, upd_same⟩ (fun j H'' _ ⟨kq, _⟩ => .inl (.inl (((kp.trans k3).trans kq).same _ _ rfl ql))) ?_ ?_
      · rintro j x H'' hj ⟨kq, hDl⟩
        rw [List.getElem?_map] at hj
        obtain ⟨u, hu, rfl⟩ : ∃ u, ls[j]? = some u ∧ x = .ref u := by
          cases e : ls[j]? with
          | none => rw [e] at hj; cases hj
          | some u => rw [e] at hj; exact ⟨u, rfl, (Option.some.inj hj).symm⟩
        have hjl : j < ls.length := (List.getElem?_eq_some_iff.mp hu).1
        refine ⟨rfl, ?_⟩
        refine ⟨_, rfl, _, rfl, u, _, _, _, rfl, rfl, .inl (.inl (((kp.trans k3).trans kq).same _ _ rfl (lv j u hu))), lo_at hiS, _, hDl, szt (by rw [List.length_map, List.length_map, List.length_range]; omega), kq.mut nl, ?_⟩
        rw [upd_same, List.range_succ, List.map_append, List.map_append]
        rfl
      rintro H4 ⟨k4, hl4⟩
      rw [List.length_map, ln, ← acts_map, show 2 * i + 2 = 2 * (i + 1) by omega, ← (lw_acts ws (i + 1)).1] at hl4
      refine ⟨szl (by show 2 ≤ 100000; decide), fun t2 nt2 => ?_⟩
      generalize h_H5 : upd H4 t2 _ = H5
      have k_H5 : Kp H4 H5 := by rw [← h_H5]; exact .new nt2
      have q_H5 := (congrFun h_H5 t2).symm.trans upd_same
      clear h_H5
      have k35 := (k3.trans k4).trans k_H5
      have hp5 := k35.same _ _ rfl hp
      refine ⟨p, _, _, rfl, rfl, hp5, szt (by rw [List.length_map]; omega), ?_⟩
      have ner : r ≠ p := (ne_of_none hp nr).symm
      have nel : l ≠ p := (ne_of_none (k3.same _ _ rfl hp) nl).symm
      have net : t2 ≠ p := (ne_of_none ((k3.trans k4).same _ _ rfl hp) nt2).symm
      refine ⟨ts ++ [(t2, r, l)], _, rfl, (kp.trans k35).mut np, by rw [upd_same, List.map_append]; rfl, by rw [List.length_append, htl]; rfl, fun j t' r' l' hj => ?_⟩
      by_cases c : j < ts.length
      · rw [List.getElem?_append_left c] at hj
        obtain ⟨⟨d1, d2, d3⟩, d4, d5, d6, d7⟩ := told j t' r' l' hj
        exact ⟨⟨d1, d2, d3⟩, d4, by rw [upd_ne d1]; exact k35.same _ _ rfl d5, by rw [upd_ne d2]; exact k35.same _ _ rfl d6, by rw [upd_ne d3]; exact k35.same _ _ rfl d7⟩
      · have c2 : j = ts.length := by
          have z := (List.getElem?_eq_some_iff.mp hj).1
          rw [List.length_append] at z
          have : [(t2, r, l)].length = 1 := rfl
          omega
        subst c2
        rw [List.getElem?_append_right (Nat.le_refl _), Nat.sub_self] at hj
        cases Option.some.inj hj
        refine ⟨⟨net, ner, nel⟩, ⟨(kp.trans (k3.trans k4)).free _ nt2, kp.free _ nr, (kp.trans k3).free _ nl⟩, by rw [upd_ne net]; exact q_H5, ?_, ?_⟩
        · rw [upd_ne ner, htl]
          exact (k4.trans k_H5).same _ _ rfl hr3
        · rw [upd_ne nel, htl]
          exact k_H5.same _ _ rfl hl4
    · rintro σ H3 ⟨ts, y6, rfl, k13, hp, htl, told⟩
      have htl : ts.length = S := by omega
      have k03 := k1.trans k13
      refine ⟨_, rfl, a, _, rfl, .inl (k03.sqL hS), fun p8 n8 => ?_⟩
      generalize h_H4 : upd H3 p8 _ = H4
      have k_H4 : Kp H3 H4 := by rw [← h_H4]; exact .new n8
      have q_H4 := (congrFun h_H4 p8).symm.trans upd_same
      clear h_H4
      have k04 := k03.trans k_H4
      refine ⟨_, rfl, _, rfl, (S : Int), p8, ws, rfl, .inl (.inl q_H4), k04.tab _ hT, fun _ p9 us H5 k5 n9 q9 hul told9 => ?_, fun hb => by rw [hg] at hb; cases hb⟩
      have hul : us.length = S := by omega
      have dmt := dm_times (ws := ws) (S := S) g2 (by omega)
      have d9 : Dp K H5 (.ref p9) (.list ((List.range S).map (dTm ws))) := by
        have z := told_dp (K := K) told9 S (by omega)
        rw [← hul, List.take_length, hul] at z
        exact .lst (.inl (.inl q9)) z
      have d5 : Dp K H5 (.ref p) (.list ((List.range S).map (dTm ws))) := by
        have z := told_dp (K := K) (told.kp (k_H4.trans k5)) S (by omega)
        rw [← htl, List.take_length, htl] at z
        exact .lst (.inl (.inl ((k_H4.trans k5).same _ _ rfl hp))) z
      refine ⟨_, rfl, _, rfl, _, _, _, rfl, d9, d5, dmt.dn, fun H6 k6 => ⟨_, rfl, iteFo rfl ?_⟩⟩
      have k46 := k5.trans k6
      have k06 := k04.trans k46
      refine ⟨_, rfl, _, rfl, (S : Int), p8, ws, rfl, .inl (.inl (k46.same _ _ rfl q_H4)), k06.tab _ hT, fun _ H7 k7 => ?_, fun hb => by rw [hg] at hb; cases hb⟩
      refine ⟨_, rfl, _, _, _, rfl, .int _, .int _, .int _ _, fun H8 k8 => ⟨_, rfl, iteFo rfl ?_⟩⟩
      have k68 := k7.trans k8
      have dmw : Dm 4 (dI ws) := dm_dI (by omega)
      refine ⟨_, rfl, _, rfl, dI ws, dI ws, dp_dI (.inl (.inl ((k46.trans k68).same _ _ rfl q_H4))), dp_dI ((k06.trans k68).sqL hS), dmw.shaped (by decide), dmw.shaped (by decide), _, rfl, iteFo (by rw [dmw.same (by decide)]; rfl) ?_⟩
      have k58 := k6.trans k68
      have q98 := k58.same _ _ rfl q9
      have told8 := told9.kp k58
      refine ⟨_, rfl, p9, rfl, ⟨_, .inl (.inl q98)⟩, for_list (K := K) (a := p9) (xs := us.map fun x => V.ref x.1) (fun i σ H' => ∃ (y : Option V), σ = [some (.int (S : Int)), some (.ref a), some (.int (thrN (S : Int) ws)), some (.ref ph), some (.ref pl), some (.ref p), y6, none, some (.ref p8), some (.ref p9), y] ∧ Kp H4 H' ∧ H' p9 = some (.lst (us.map fun x => .ref x.1)) ∧ ∀ (j : Nat) (t r l : Addr), us[j]? = some (t, r, l) → H' t = some (.tup [.ref r, .ref l]) ∧ (∃ xs, H' r = some (.lst xs) ∧ xs.length ≤ 100 + i) ∧ (∃ xs, H' l = some (.lst xs) ∧ xs.length ≤ 100 + i))
        ⟨none, rfl, k5.trans k58, q98, fun j t r l hj => ?_⟩ (fun i σ H' _ ⟨_, _, _, h9, _⟩ => .inl (.inl h9)) ?_ ?_⟩
      · obtain ⟨_, _, e5, e6, e7⟩ := told8 j t r l hj
        exact ⟨e5, ⟨_, e6, by rw [List.length_map, rsL_len]; omega⟩, ⟨_, e7, by rw [List.length_map, lwL_len]; omega⟩⟩
      · rintro i x σ H' hi ⟨y, rfl, kp, h9, inv⟩
        have hil : i < us.length := by
          have z := (List.getElem?_eq_some_iff.mp hi).1
          rw [List.length_map] at z
          exact z
        rw [List.getElem?_map] at hi
        obtain ⟨⟨t, r, l⟩, hu⟩ : ∃ x, us[i]? = some x := ⟨_, List.getElem?_eq_getElem hil⟩
        rw [hu] at hi
        cases Option.some.inj hi
        obtain ⟨ht, ⟨xr, hr1, hr2⟩, ⟨xl, hl1, hl2⟩⟩ := inv i t r l hu
        obtain ⟨⟨_, ner, nel⟩, ⟨_, fr, fl⟩, _⟩ := told9 i t r l hu
        refine ⟨_, rfl, t, _, _, _, rfl, rfl, .inl (.inl ht), rfl, .inl ⟨rfl, _, SqL.of hr1⟩, r, _, _, rfl, rfl, hr1, szt (by omega), ?_⟩
        have ntr : ∀ (t' : Addr) (o : List V), H' t' = some (.tup o) → t' ≠ r := fun t' o h => ne_of h hr1 (by intro z; cases z)
        have kX : Kp H4 (upd H' r (.lst (xr ++ [V.int 0]))) := kp.mut fr
        have hX9 : (upd H' r (.lst (xr ++ [V.int 0]))) p9 = some (.lst (us.map fun x => .ref x.1)) := by rw [upd_ne ner.symm]; exact h9
        have lst1 : ∀ (u : Addr) (xs : List V), H' u = some (.lst xs) → xs.length ≤ 100 + i → ∃ xs, (upd H' r (.lst (xr ++ [V.int 0]))) u = some (.lst xs) ∧ xs.length ≤ 100 + (i + 1) := fun u xs h hl => by
          by_cases c : u = r
          · rw [c]
            exact ⟨_, upd_same, by rw [List.length_append]; show xr.length + 1 ≤ _; omega⟩
          · exact ⟨xs, by rw [upd_ne c]; exact h, by omega⟩
        have invX : ∀ (j : Nat) (t r' l' : Addr), us[j]? = some (t, r', l') → (upd H' r (.lst (xr ++ [V.int 0]))) t = some (.tup [.ref r', .ref l']) ∧ (∃ xs, (upd H' r (.lst (xr ++ [V.int 0]))) r' = some (.lst xs) ∧ xs.length ≤ 100 + (i + 1)) ∧ (∃ xs, (upd H' r (.lst (xr ++ [V.int 0]))) l' = some (.lst xs) ∧ xs.length ≤ 100 + (i + 1)) := fun j t' r' l' hj => by
          obtain ⟨a1, ⟨x1, a2, a3⟩, ⟨x2, a4, a5⟩⟩ := inv j t' r' l' hj
          exact ⟨by rw [upd_ne (ntr t' _ a1)]; exact a1, lst1 r' x1 a2 a3, lst1 l' x2 a4 a5⟩
        generalize upd H' r (.lst (xr ++ [V.int 0])) = HX at kX hX9 invX
        obtain ⟨ht2, _, ⟨xl2, hl3, _⟩⟩ := invX i t r l hu
        refine ⟨_, rfl, t, _, _, _, rfl, rfl, .inl (.inl ht2), rfl, .inl ⟨rfl, _, SqL.of hl3⟩, l, _, rfl, rfl, hl3, ?_⟩
        have lst2 : ∀ (u : Addr) (xs : List V), HX u = some (.lst xs) → xs.length ≤ 100 + (i + 1) → ∃ xs, (upd HX l (.lst [])) u = some (.lst xs) ∧ xs.length ≤ 100 + (i + 1) := fun u xs h hl => by
          by_cases c : u = l
          · rw [c]
            exact ⟨_, upd_same, Nat.zero_le _⟩
          · exact ⟨xs, by rw [upd_ne c]; exact h, hl⟩
        refine ⟨_, rfl, kX.mut fl, by rw [upd_ne nel.symm]; exact hX9, fun j t' r' l' hj => ?_⟩
        obtain ⟨a1, ⟨x1, a2, a3⟩, ⟨x2, a4, a5⟩⟩ := invX j t' r' l' hj
        exact ⟨by rw [upd_ne (ne_of a1 hl3 (by intro z; cases z))]; exact a1, lst2 r' x1 a2 a3, lst2 l' x2 a4 a5⟩
      · rintro σ H' ⟨y, rfl, kp, h9, inv⟩
        refine ⟨_, rfl, .inl ⟨rfl, _, SqL.of h9⟩, p9, _, _, rfl, rfl, h9, szt (by rw [List.length_map]; omega), ?_⟩
        exact k _ (k04.trans (kp.mut n9))
/-! ### law -/
def sp_law (K : PySem.W.Frag) (P : Addr) : Sp := fun vs H Q _ => ∃ (a : Addr) (ns : List Int), vs = [.ref a] ∧ SqL K H a (ns.map V.int) ∧ ns.length ≤ 63 ∧ GxR.TabG H P ∧ ∀ H', Q (.bl true) H'
theorem ok_law (T : Txt K mg) (TB : GxR.TabB base mg T.c_tab T.P_tab) {f : Addr} {fd : FuncData} (F : Fun K "law" "law" s_law f fd) : FnOk P w K mg base CX0 11 f fd ["_law_script"] (sp_law K T.P_tab) := by
  refine F.ok sc_law (fun vs H Q E h => ?_) (fun cdv A outer s H vs Q E hr h => ?_)
  · obtain ⟨a, ns, rfl, _⟩ := h
    rfl
  · obtain ⟨a, ns, rfl, hS, hlen, hT, k⟩ := h
    refine ⟨_, (pss_cons (ps_set (i := 1) sc_law.nd rfl (by first | exact Or.inl rfl | exact Or.inr rfl) (pe_lst (pa_cons (pe_tup (pa_cons (pe_op op_mod (pe_call (ok_l_cell T) (hr.mono (by decide)) rfl T.g_l_cell T.F_l_cell.kp T.b_l_cell .nil pass0 (pa_cons (pv 0) (pa_cons pe_int pa_nil))) pe_int) (pa_cons (pe_call (ok_l_wakes T) (hr.mono (by decide)) rfl T.g_l_wakes T.F_l_wakes.kp T.b_l_wakes .nil pass0 (pa_cons (pv 0) (pa_cons pe_int pa_nil))) pa_nil))) (pa_cons (pe_tup (pa_cons (pe_op op_mod (pe_call (ok_l_cell T) (hr.mono (by decide)) rfl T.g_l_cell T.F_l_cell.kp T.b_l_cell .nil pass0 (pa_cons (pv 0) (pa_cons pe_int pa_nil))) pe_int) (pa_cons (pe_call (ok_l_wakes T) (hr.mono (by decide)) rfl T.g_l_wakes T.F_l_wakes.kp T.b_l_wakes .nil pass0 (pa_cons (pv 0) (pa_cons pe_int pa_nil))) pa_nil))) pa_nil))))
      (pss_cons (ps_for PassesOwn.never rfl (pi_tup (pe_tup (pa_cons pe_int (pa_cons pe_int (pa_cons pe_int pa_nil))))) (pg_name (i := 2) sc_law.nd rfl (by first | exact Or.inl rfl | exact Or.inr rfl))
      (pss_one (ps_if (pt_not (pt_val (pe_call (ok_l_right T TB) (hr.mono (by decide)) rfl T.g_l_right T.F_l_right.kp T.b_l_right .nil pass0 (pa_cons (pe_ix ix_tup (pe_ix ix_list (pv 1) (pv 2) (fun _ _ => rfl)) pe_int (fun _ _ => rfl)) (pa_cons (pe_ix ix_tup (pe_ix ix_list (pv 1) (pv 2) (fun _ _ => rfl)) pe_int (fun _ _ => rfl)) pa_nil)))))
      (pss_one (ps_ret pe_bl))
      pss_nil)))
      (pss_one (ps_ret pe_bl)))), ?_⟩
    have a0 : 0 ≤ cellV ns 2 % 61 := Int.emod_nonneg _ (by decide)
    have a1 : cellV ns 2 % 61 < 61 := Int.emod_lt_of_pos _ (by decide)
    have b0 : 0 ≤ cellV ns 5 % 5 := Int.emod_nonneg _ (by decide)
    have b1 : cellV ns 5 % 5 < 5 := Int.emod_lt_of_pos _ (by decide)
    refine ⟨_, rfl, a, ns, 2, rfl, hS, by decide, _, _, rfl, rfl, (by show (0 : Int) < 61; decide), _, rfl, a, ns, 0, rfl, hS, by decide, fun ws p1 H1 k1 n1 q1 w2 w12 hws => ?_⟩
    refine ⟨szl (by show 2 ≤ 100000; decide), fun t1 nt1 => ?_⟩
    generalize h_H2 : upd H1 t1 _ = H2
    have k_H2 : Kp H1 H2 := by rw [← h_H2]; exact .new nt1
    have q_H2 := (congrFun h_H2 t1).symm.trans upd_same
    clear h_H2
    have k02 := k1.trans k_H2
    refine ⟨_, rfl, a, ns, 5, rfl, k02.sqL hS, by decide, _, _, rfl, rfl, (by show (0 : Int) < 5; decide), _, rfl, a, ns, 3, rfl, k02.sqL hS, by decide, fun vs p2 H3 k3 n2 q2 v2 v12 hvs => ?_⟩
    refine ⟨szl (by show 2 ≤ 100000; decide), fun t2 nt2 => ?_⟩
    generalize h_H4 : upd H3 t2 _ = H4
    have k_H4 : Kp H3 H4 := by rw [← h_H4]; exact .new nt2
    have q_H4 := (congrFun h_H4 t2).symm.trans upd_same
    clear h_H4
    refine ⟨szl (by show 2 ≤ 100000; decide), fun ps nps => ?_⟩
    generalize h_H5 : upd H4 ps _ = H5
    have k_H5 : Kp H4 H5 := by rw [← h_H5]; exact .new nps
    have q_H5 := (congrFun h_H5 ps).symm.trans upd_same
    clear h_H5
    have k25 := (k3.trans k_H4).trans k_H5
    have k05 := k02.trans k25
    refine ⟨szl (by show 3 ≤ 100000; decide), fun p0 n0 => ?_⟩
    generalize h_H6 : upd H5 p0 _ = H6
    have k_H6 : Kp H5 H6 := by rw [← h_H6]; exact .new n0
    have q_H6 := (congrFun h_H6 p0).symm.trans upd_same
    clear h_H6
    have k06 := k05.trans k_H6
    have src : ∀ j : Nat, j < 2 → ∃ (t : Addr) (S : Nat) (p : Addr) (us : List Int), atI [V.ref t1, V.ref t2] (j : Int) = some (.ref t) ∧ H6 t = some (.tup [.int (S : Int), .ref p]) ∧ H6 p = some (.lst (us.map V.int)) ∧ okPlan (S : Int) us = true := by
      intro j hj
      have hm : j = 0 ∨ j = 1 := by omega
      rcases hm with rfl | rfl
      · refine ⟨t1, (cellV ns 2 % 61).toNat, p1, ws, rfl, ?_, (k_H2.trans (k25.trans k_H6)).same _ _ rfl q1, okPlan_of w2 w12 (by omega) hws⟩
        rw [(k25.trans k_H6).same _ _ rfl q_H2, show (((cellV ns 2 % 61).toNat : Nat) : Int) = cellV ns 2 % 61 by omega]
      · refine ⟨t2, (cellV ns 5 % 5).toNat, p2, vs, rfl, ?_, ((k_H4.trans k_H5).trans k_H6).same _ _ rfl q2, okPlan_of v2 v12 (by omega) hvs⟩
        rw [(k_H5.trans k_H6).same _ _ rfl q_H4, show (((cellV ns 5 % 5).toNat : Nat) : Int) = cellV ns 5 % 5 by omega]
    have qs := k_H6.same _ _ rfl q_H5
    refine ⟨p0, rfl, ⟨_, .inl (.inl q_H6)⟩, for_tup (K := K) (a := p0) (xs := [V.int 0, V.int 1, V.int 0]) (fun i σ H' => ∃ (y2 : Option V), σ = [some (.ref a), some (.ref ps), y2] ∧ Kp H6 H')
      ⟨none, rfl, .refl _⟩ (fun i σ H' _ ⟨_, _, kp⟩ => kp.sqT (.inl (.inl q_H6))) ?_ ?_⟩
    · rintro i x σ H' hi ⟨y2, rfl, kp⟩
      obtain ⟨j, rfl, hj⟩ : ∃ j : Nat, x = .int (j : Int) ∧ j < 2 := by
        have hm := List.mem_of_getElem? hi
        simp only [List.mem_cons, List.not_mem_nil, or_false] at hm
        rcases hm with rfl | rfl | rfl
        · exact ⟨0, rfl, by decide⟩
        · exact ⟨1, rfl, by decide⟩
        · exact ⟨0, rfl, by decide⟩
      obtain ⟨t, S, p, us, e1, e2, e3, e4⟩ := src j hj
      refine ⟨_, rfl, _, rfl, ps, _, _, _, rfl, rfl, .inl (.inl (kp.same _ _ rfl qs)), e1, t, _, _, _, rfl, rfl, .inl (.inl (kp.same _ _ rfl e2)), rfl, _, rfl, _, rfl, ps, _, _, _, rfl, rfl, .inl (.inl (kp.same _ _ rfl qs)), e1, t, _, _, _, rfl, rfl, .inl (.inl (kp.same _ _ rfl e2)), rfl, S, p, us, rfl, .inl (.inl (kp.same _ _ rfl e3)), (k06.trans kp).tab _ hT, e4, fun H7 k7 => ⟨_, rfl, iteFo rfl ?_⟩⟩
      exact ⟨_, rfl, kp.trans k7⟩
    · rintro σ H' ⟨y2, rfl, kp⟩
      exact k _
end
theorem all_mk {l : PySem.W.OpenLaw} {w : World} {K : PySem.W.Frag} {h : Heap} {mg : Str → Option Value} {fa : Addr} (X : K.In h) (G : h.Ns mainGlobals mg) (hfa : mg "law" = some (.ref fa)) (own : ∀ y ∈ (["check_plan"] : List Str), ∀ f, mg y = some (.ref f) → LamX.OwnTab K f h)
    {C_MastError : Addr}
    {C_BadCount : Addr}
    {f1 : Addr} {od1 an1 : Option Addr} {sl1 : Array (Option Value)} {oc1 kV1 dc1 pm1 ct1 : Value}
    {c_tab P_tab : Addr} {dd_tab : Option Addr} {vs_tab : Array Value} {sl_tab : Array (Option Value)} {fl_tab : Str} {tf_tab tg_tab tt_tab : Tok} {fg_tab tx_tab : Int} {b_tab : Bool}
    {f2 : Addr} {od2 an2 : Option Addr} {sl2 : Array (Option Value)} {oc2 kV2 dc2 pm2 cd2 ct2 : Value}
    {f3 : Addr} {od3 an3 : Option Addr} {sl3 : Array (Option Value)} {oc3 kV3 dc3 pm3 cd3 ct3 : Value}
    {f4 : Addr} {od4 an4 : Option Addr} {sl4 : Array (Option Value)} {oc4 kV4 dc4 pm4 cd4 ct4 : Value}
    {f5 : Addr} {od5 an5 : Option Addr} {sl5 : Array (Option Value)} {oc5 kV5 dc5 pm5 cd5 ct5 : Value}
    {f6 : Addr} {od6 an6 : Option Addr} {sl6 : Array (Option Value)} {oc6 kV6 dc6 pm6 cd6 ct6 : Value}
    {f7 : Addr} {od7 an7 : Option Addr} {sl7 : Array (Option Value)} {oc7 kV7 dc7 pm7 cd7 ct7 : Value}
    {f8 : Addr} {od8 an8 : Option Addr} {sl8 : Array (Option Value)} {oc8 kV8 dc8 pm8 cd8 ct8 : Value}
    {f9 : Addr} {od9 an9 : Option Addr} {sl9 : Array (Option Value)} {oc9 kV9 dc9 pm9 cd9 ct9 : Value}
    {f10 : Addr} {od10 an10 : Option Addr} {sl10 : Array (Option Value)} {oc10 kV10 dc10 pm10 cd10 ct10 : Value}
    {f11 : Addr} {od11 an11 : Option Addr} {sl11 : Array (Option Value)} {oc11 kV11 dc11 pm11 cd11 ct11 : Value}
    {f12 : Addr} {od12 an12 : Option Addr} {sl12 : Array (Option Value)} {oc12 kV12 dc12 pm12 cd12 ct12 : Value}
    {tk_FEWEST_MASTS : Tok}
    {tk_MOST_MASTS : Tok}
    {tk_MOST_SIGNS : Tok}
    {tk_LAST_FIRST_BEAT : Tok}
    (e_MastError : PySem.W.nsIn K mainGlobals "MastError" = some (some (.ref C_MastError)))
    (x_MastError : PySem.W.excIn K C_MastError [.type "ValueError", .type "Exception", .type "BaseException", .type "object"] "ValueError.__new__" = true)
    (k_MastError : PySem.W.keepIn K (.ref C_MastError) = true)
    (b_MastError : PySem.W.subIn K (.ref C_MastError) (.type "BaseException") = some true)
    (t_MastError : PySem.W.typeIn K (.ref C_MastError) = some (.type "type"))
    (i_MastError : PySem.W.isClsIn K C_MastError = true)
    (h_MastError : PySem.W.hasDictIn K C_MastError = true)
    (ga_MastError : PySem.W.findIn K (.ref C_MastError) "__getattribute__" = some (some (.builtin "BaseException.__getattribute__")))
    (gg_MastError : PySem.W.findIn K (.ref C_MastError) "__getattr__" = some none)
    (cl_MastError : PySem.W.findIn K (.ref C_MastError) "__class__" = some (some (.builtin "object.__class__")))
    (mo_MastError : PySem.W.mroIn K C_MastError (.type "object") = some true)
    (v_MastError : PySem.W.subIn K (.ref C_MastError) (.type "ValueError") = some true)
    (e_BadCount : PySem.W.nsIn K mainGlobals "BadCount" = some (some (.ref C_BadCount)))
    (x_BadCount : PySem.W.excIn K C_BadCount [.type "ValueError", .type "Exception", .type "BaseException", .type "object"] "ValueError.__new__" = true)
    (k_BadCount : PySem.W.keepIn K (.ref C_BadCount) = true)
    (b_BadCount : PySem.W.subIn K (.ref C_BadCount) (.type "BaseException") = some true)
    (t_BadCount : PySem.W.typeIn K (.ref C_BadCount) = some (.type "type"))
    (i_BadCount : PySem.W.isClsIn K C_BadCount = true)
    (h_BadCount : PySem.W.hasDictIn K C_BadCount = true)
    (ga_BadCount : PySem.W.findIn K (.ref C_BadCount) "__getattribute__" = some (some (.builtin "BaseException.__getattribute__")))
    (gg_BadCount : PySem.W.findIn K (.ref C_BadCount) "__getattr__" = some none)
    (cl_BadCount : PySem.W.findIn K (.ref C_BadCount) "__class__" = some (some (.builtin "object.__class__")))
    (mo_BadCount : PySem.W.mroIn K C_BadCount (.type "object") = some true)
    (v_BadCount : PySem.W.subIn K (.ref C_BadCount) (.type "ValueError") = some true)
    (s_MastError_MastError : PySem.W.subIn K (.ref C_MastError) (.ref C_MastError) = some true)
    (s_BadCount_MastError : PySem.W.subIn K (.ref C_BadCount) (.ref C_MastError) = some true)
    (a1 : PySem.W.nsIn K mainGlobals "check_plan" = some (some (.ref f1)))
    (l1 : K.lookup f1 = some ⟨oc1, od1, .func (PySem.W.fnOf "check_plan" "check_plan" (defArgs s_p_check_plan) (defBody s_p_check_plan) (defScope s_p_check_plan) .none kV1 dc1 pm1 an1 (.ref c_tab) ct1), sl1⟩)
    (c1 : PySem.W.codeIn K (.ref c_tab) "check_plan" = true)
    (y_l : K.lookup c_tab = some ⟨.type "code", dd_tab, .fields vs_tab, sl_tab⟩)
    (y_11 : vs_tab[11]? = some (.ref P_tab))
    (y_18 : vs_tab.getD 18 .none = .str fl_tab tf_tab)
    (y_7 : vs_tab.getD 7 .none = .int fg_tab tg_tab)
    (y_9 : vs_tab.getD 9 .none = .bool b_tab)
    (y_10 : vs_tab.getD 10 .none = .int tx_tab tt_tab)
    (y_ne : c_tab ≠ P_tab)
    (y_P : K.lookup P_tab = none)
    (k1 : PySem.W.keepIn K (.ref f1) = true)
    (a2 : PySem.W.nsIn K mainGlobals "times" = some (some (.ref f2)))
    (l2 : K.lookup f2 = some ⟨oc2, od2, .func (PySem.W.fnOf "times" "times" (defArgs s_p_times) (defBody s_p_times) (defScope s_p_times) .none kV2 dc2 pm2 an2 cd2 ct2), sl2⟩)
    (c2 : PySem.W.codeIn K cd2 "times" = true)
    (k2 : PySem.W.keepIn K (.ref f2) = true)
    (a3 : PySem.W.nsIn K mainGlobals "next_acts" = some (some (.ref f3)))
    (l3 : K.lookup f3 = some ⟨oc3, od3, .func (PySem.W.fnOf "next_acts" "next_acts" (defArgs s_p_next_acts) (defBody s_p_next_acts) (defScope s_p_next_acts) .none kV3 dc3 pm3 an3 cd3 ct3), sl3⟩)
    (c3 : PySem.W.codeIn K cd3 "next_acts" = true)
    (k3 : PySem.W.keepIn K (.ref f3) = true)
    (a4 : PySem.W.nsIn K mainGlobals "through" = some (some (.ref f4)))
    (l4 : K.lookup f4 = some ⟨oc4, od4, .func (PySem.W.fnOf "through" "through" (defArgs s_p_through) (defBody s_p_through) (defScope s_p_through) .none kV4 dc4 pm4 an4 cd4 ct4), sl4⟩)
    (c4 : PySem.W.codeIn K cd4 "through" = true)
    (k4 : PySem.W.keepIn K (.ref f4) = true)
    (a5 : PySem.W.nsIn K mainGlobals "_law_cell" = some (some (.ref f5)))
    (l5 : K.lookup f5 = some ⟨oc5, od5, .func (PySem.W.fnOf "_law_cell" "_law_cell" (defArgs s_l_cell) (defBody s_l_cell) (defScope s_l_cell) .none kV5 dc5 pm5 an5 cd5 ct5), sl5⟩)
    (c5 : PySem.W.codeIn K cd5 "_law_cell" = true)
    (k5 : PySem.W.keepIn K (.ref f5) = true)
    (a6 : PySem.W.nsIn K mainGlobals "_law_row" = some (some (.ref f6)))
    (l6 : K.lookup f6 = some ⟨oc6, od6, .func (PySem.W.fnOf "_law_row" "_law_row" (defArgs s_l_row) (defBody s_l_row) (defScope s_l_row) .none kV6 dc6 pm6 an6 cd6 ct6), sl6⟩)
    (c6 : PySem.W.codeIn K cd6 "_law_row" = true)
    (k6 : PySem.W.keepIn K (.ref f6) = true)
    (a7 : PySem.W.nsIn K mainGlobals "_law_like" = some (some (.ref f7)))
    (l7 : K.lookup f7 = some ⟨oc7, od7, .func (PySem.W.fnOf "_law_like" "_law_like" (defArgs s_l_like) (defBody s_l_like) (defScope s_l_like) .none kV7 dc7 pm7 an7 cd7 ct7), sl7⟩)
    (c7 : PySem.W.codeIn K cd7 "_law_like" = true)
    (k7 : PySem.W.keepIn K (.ref f7) = true)
    (a8 : PySem.W.nsIn K mainGlobals "_law_wakes" = some (some (.ref f8)))
    (l8 : K.lookup f8 = some ⟨oc8, od8, .func (PySem.W.fnOf "_law_wakes" "_law_wakes" (defArgs s_l_wakes) (defBody s_l_wakes) (defScope s_l_wakes) .none kV8 dc8 pm8 an8 cd8 ct8), sl8⟩)
    (c8 : PySem.W.codeIn K cd8 "_law_wakes" = true)
    (k8 : PySem.W.keepIn K (.ref f8) = true)
    (a9 : PySem.W.nsIn K mainGlobals "_law_step" = some (some (.ref f9)))
    (l9 : K.lookup f9 = some ⟨oc9, od9, .func (PySem.W.fnOf "_law_step" "_law_step" (defArgs s_l_step) (defBody s_l_step) (defScope s_l_step) .none kV9 dc9 pm9 an9 cd9 ct9), sl9⟩)
    (c9 : PySem.W.codeIn K cd9 "_law_step" = true)
    (k9 : PySem.W.keepIn K (.ref f9) = true)
    (a10 : PySem.W.nsIn K mainGlobals "_law_played" = some (some (.ref f10)))
    (l10 : K.lookup f10 = some ⟨oc10, od10, .func (PySem.W.fnOf "_law_played" "_law_played" (defArgs s_l_played) (defBody s_l_played) (defScope s_l_played) .none kV10 dc10 pm10 an10 cd10 ct10), sl10⟩)
    (c10 : PySem.W.codeIn K cd10 "_law_played" = true)
    (k10 : PySem.W.keepIn K (.ref f10) = true)
    (a11 : PySem.W.nsIn K mainGlobals "_law_right" = some (some (.ref f11)))
    (l11 : K.lookup f11 = some ⟨oc11, od11, .func (PySem.W.fnOf "_law_right" "_law_right" (defArgs s_l_right) (defBody s_l_right) (defScope s_l_right) .none kV11 dc11 pm11 an11 cd11 ct11), sl11⟩)
    (c11 : PySem.W.codeIn K cd11 "_law_right" = true)
    (k11 : PySem.W.keepIn K (.ref f11) = true)
    (a12 : PySem.W.nsIn K mainGlobals "law" = some (some (.ref f12)))
    (l12 : K.lookup f12 = some ⟨oc12, od12, .func (PySem.W.fnOf "law" "law" (defArgs s_law) (defBody s_law) (defScope s_law) .none kV12 dc12 pm12 an12 cd12 ct12), sl12⟩)
    (c12 : PySem.W.codeIn K cd12 "law" = true)
    (k12 : PySem.W.keepIn K (.ref f12) = true)
    (q_FEWEST_MASTS : PySem.W.nsIn K mainGlobals "FEWEST_MASTS" = some (some (.int 2 tk_FEWEST_MASTS)))
    (q_MOST_MASTS : PySem.W.nsIn K mainGlobals "MOST_MASTS" = some (some (.int 12 tk_MOST_MASTS)))
    (q_MOST_SIGNS : PySem.W.nsIn K mainGlobals "MOST_SIGNS" = some (some (.int 60 tk_MOST_SIGNS)))
    (q_LAST_FIRST_BEAT : PySem.W.nsIn K mainGlobals "LAST_FIRST_BEAT" = some (some (.int 1000 tk_LAST_FIRST_BEAT)))
    (z_all : PySem.W.nsIn K mainGlobals "all" = some none)
    (z_len : PySem.W.nsIn K mainGlobals "len" = some none)
    (z_range : PySem.W.nsIn K mainGlobals "range" = some none)
    (z_enumerate : PySem.W.nsIn K mainGlobals "enumerate" = some none)
    (z_max : PySem.W.nsIn K mainGlobals "max" = some none)
    (z_isinstance : PySem.W.nsIn K mainGlobals "isinstance" = some none)
    (z_bool : PySem.W.nsIn K mainGlobals "bool" = some none)
    (z_int : PySem.W.nsIn K mainGlobals "int" = some none)
    (z_str : PySem.W.nsIn K mainGlobals "str" = some none)
    (z_list : PySem.W.nsIn K mainGlobals "list" = some none)
    (z_tuple : PySem.W.nsIn K mainGlobals "tuple" = some none)
    (z_min : PySem.W.nsIn K mainGlobals "min" = some none)
    (oc_get : PySem.W.specialIn K (.builtin "object.__class__") "__get__" = some (some (.builtin "getset_descriptor.__get__")))
    (oc_tak : PySem.W.takesIn K (.builtin "object.__class__") = some true) :
    LamX.LawAtS l w K CX0 11 63 "_law_script" mg fa h := by
  have e := hfa.symm.trans (PySem.W.mg_of X G a12)
  cases e
  let T : Txt K mg :=
    { a_MastError := C_MastError,
      g_MastError := PySem.W.mg_of X G e_MastError,
      x_MastError := x_MastError,
      k_MastError := k_MastError,
      b_MastError := b_MastError,
      t_MastError := t_MastError,
      i_MastError := i_MastError,
      h_MastError := h_MastError,
      ga_MastError := ga_MastError,
      gg_MastError := gg_MastError,
      cl_MastError := cl_MastError,
      mo_MastError := mo_MastError,
      v_MastError := v_MastError,
      a_BadCount := C_BadCount,
      g_BadCount := PySem.W.mg_of X G e_BadCount,
      x_BadCount := x_BadCount,
      k_BadCount := k_BadCount,
      b_BadCount := b_BadCount,
      t_BadCount := t_BadCount,
      i_BadCount := i_BadCount,
      h_BadCount := h_BadCount,
      ga_BadCount := ga_BadCount,
      gg_BadCount := gg_BadCount,
      cl_BadCount := cl_BadCount,
      mo_BadCount := mo_BadCount,
      v_BadCount := v_BadCount,
      s_MastError_MastError := s_MastError_MastError,
      s_BadCount_MastError := s_BadCount_MastError,
      c_tab := c_tab,
      P_tab := P_tab,
      W_p_check_plan := ⟨_, _, _, _, _, _, _, _, rfl, l1, c1⟩,
      f_p_check_plan := f1,
      d_p_check_plan := _,
      F_p_check_plan := fun_mk (st := s_p_check_plan) l1 c1 k1,
      b_p_check_plan := (fun_mk (st := s_p_check_plan) l1 c1 k1).binds (ps := ["signs", "wakes"]) fun _ _ _ _ _ _ us hl => match us, hl with | [_, _], _ => rfl,
      g_p_check_plan := PySem.W.mg_of X G a1,
      f_p_times := f2,
      d_p_times := _,
      F_p_times := fun_mk (st := s_p_times) l2 c2 k2,
      b_p_times := (fun_mk (st := s_p_times) l2 c2 k2).binds (ps := ["signs", "wakes"]) fun _ _ _ _ _ _ us hl => match us, hl with | [_, _], _ => rfl,
      g_p_times := PySem.W.mg_of X G a2,
      f_p_next_acts := f3,
      d_p_next_acts := _,
      F_p_next_acts := fun_mk (st := s_p_next_acts) l3 c3 k3,
      b_p_next_acts := (fun_mk (st := s_p_next_acts) l3 c3 k3).binds (ps := ["wakes", "acted"]) fun _ _ _ _ _ _ us hl => match us, hl with | [_, _], _ => rfl,
      g_p_next_acts := PySem.W.mg_of X G a3,
      f_p_through := f4,
      d_p_through := _,
      F_p_through := fun_mk (st := s_p_through) l4 c4 k4,
      b_p_through := (fun_mk (st := s_p_through) l4 c4 k4).binds (ps := ["signs", "wakes"]) fun _ _ _ _ _ _ us hl => match us, hl with | [_, _], _ => rfl,
      g_p_through := PySem.W.mg_of X G a4,
      f_l_cell := f5,
      d_l_cell := _,
      F_l_cell := fun_mk (st := s_l_cell) l5 c5 k5,
      b_l_cell := (fun_mk (st := s_l_cell) l5 c5 k5).binds (ps := ["_law_script", "_law_at"]) fun _ _ _ _ _ _ us hl => match us, hl with | [_, _], _ => rfl,
      g_l_cell := PySem.W.mg_of X G a5,
      f_l_row := f6,
      d_l_row := _,
      F_l_row := fun_mk (st := s_l_row) l6 c6 k6,
      b_l_row := (fun_mk (st := s_l_row) l6 c6 k6).binds (ps := ["_law_cell_here", "_law_many", "_law_size"]) fun _ _ _ _ _ _ us hl => match us, hl with | [_, _, _], _ => rfl,
      g_l_row := PySem.W.mg_of X G a6,
      f_l_like := f7,
      d_l_like := _,
      F_l_like := fun_mk (st := s_l_like) l7 c7 k7,
      b_l_like := (fun_mk (st := s_l_like) l7 c7 k7).binds (ps := ["_law_found", "_law_due"]) fun _ _ _ _ _ _ us hl => match us, hl with | [_, _], _ => rfl,
      g_l_like := PySem.W.mg_of X G a7,
      f_l_wakes := f8,
      d_l_wakes := _,
      F_l_wakes := fun_mk (st := s_l_wakes) l8 c8 k8,
      b_l_wakes := (fun_mk (st := s_l_wakes) l8 c8 k8).binds (ps := ["_law_script", "_law_at"]) fun _ _ _ _ _ _ us hl => match us, hl with | [_, _], _ => rfl,
      g_l_wakes := PySem.W.mg_of X G a8,
      f_l_step := f9,
      d_l_step := _,
      F_l_step := fun_mk (st := s_l_step) l9 c9 k9,
      b_l_step := (fun_mk (st := s_l_step) l9 c9 k9).binds (ps := ["_law_shown", "_law_waits", "_law_begun"]) fun _ _ _ _ _ _ us hl => match us, hl with | [_, _, _], _ => rfl,
      g_l_step := PySem.W.mg_of X G a9,
      f_l_played := f10,
      d_l_played := _,
      F_l_played := fun_mk (st := s_l_played) l10 c10 k10,
      b_l_played := (fun_mk (st := s_l_played) l10 c10 k10).binds (ps := ["_law_signs", "_law_wakes_here", "_law_most"]) fun _ _ _ _ _ _ us hl => match us, hl with | [_, _, _], _ => rfl,
      g_l_played := PySem.W.mg_of X G a10,
      f_l_right := f11,
      d_l_right := _,
      F_l_right := fun_mk (st := s_l_right) l11 c11 k11,
      b_l_right := (fun_mk (st := s_l_right) l11 c11 k11).binds (ps := ["_law_signs", "_law_wakes_here"]) fun _ _ _ _ _ _ us hl => match us, hl with | [_, _], _ => rfl,
      g_l_right := PySem.W.mg_of X G a11,
      u_FEWEST_MASTS := _,
      c_FEWEST_MASTS := PySem.W.mg_of X G q_FEWEST_MASTS,
      r_FEWEST_MASTS := ⟨_, rfl⟩,
      u_MOST_MASTS := _,
      c_MOST_MASTS := PySem.W.mg_of X G q_MOST_MASTS,
      r_MOST_MASTS := ⟨_, rfl⟩,
      u_MOST_SIGNS := _,
      c_MOST_SIGNS := PySem.W.mg_of X G q_MOST_SIGNS,
      r_MOST_SIGNS := ⟨_, rfl⟩,
      u_LAST_FIRST_BEAT := _,
      c_LAST_FIRST_BEAT := PySem.W.mg_of X G q_LAST_FIRST_BEAT,
      r_LAST_FIRST_BEAT := ⟨_, rfl⟩,
      m_all := PySem.W.mg_none_of X G z_all,
      m_len := PySem.W.mg_none_of X G z_len,
      m_range := PySem.W.mg_none_of X G z_range,
      m_enumerate := PySem.W.mg_none_of X G z_enumerate,
      m_max := PySem.W.mg_none_of X G z_max,
      m_isinstance := PySem.W.mg_none_of X G z_isinstance,
      m_bool := PySem.W.mg_none_of X G z_bool,
      m_int := PySem.W.mg_none_of X G z_int,
      m_str := PySem.W.mg_none_of X G z_str,
      m_list := PySem.W.mg_none_of X G z_list,
      m_tuple := PySem.W.mg_none_of X G z_tuple,
      m_min := PySem.W.mg_none_of X G z_min,
      oc_get := oc_get,
      oc_tak := oc_tak }
  have hP : h.get? P_tab = some { cls := .none, data := .fields #[] } := own "check_plan" List.mem_cons_self f1 (PySem.W.mg_of X G a1) c_tab P_tab _ _ _ _ _ _ l1 rfl rfl y_l y_11
  have hc : PySem.W.CodeHd h c_tab P_tab := codeHd_mk X y_l y_11 y_18 y_7 y_9 y_10 y_ne
  refine ⟨PySem.W.fnOf "law" "law" (defArgs s_law) (defBody s_law) (defScope s_law) .none kV12 dc12 pm12 an12 cd12 ct12, [(c_tab, P_tab)], sp_law K P_tab, ?_, ?_, ?_, fun s v => .of_eq rfl, fun H a ns hl _ hT hS => ⟨a, ns, rfl, hS, hl, ⟨#[], hT _ List.mem_cons_self, trivial⟩, fun _ => rfl⟩, fun base _ _ TB => ok_law T (let tb := TB (c_tab, P_tab) List.mem_cons_self; ⟨tb.code, tb.bm, tb.gP⟩) (fun_mk (st := s_law) l12 c12 k12)⟩
  all_goals (intro p hp; cases List.mem_singleton.mp hp)
  · exact hP
  · exact y_P
  · exact hc
end Mw
open PySem PySem.W PyProof.Rows
set_option maxRecDepth 100000 in
set_option maxHeartbeats 0 in
theorem PySem.Challenge.cw_mastword_k17_beats_of_a_plan_holds : PySem.Challenge.rw_mastword_k17_beats_of_a_plan.Holds := by
  w_on; o_law; k_head; (case hw => w_witness2)
  k_fill
  refine Mw.walk_tab (l := PySem.Challenge.rw_mastword_k17_beats_of_a_plan) (n := 63) (k := 11) (x := "_law_script") (CX := fun _ => L2.CX0) ["check_plan"] rfl (by decide) rfl ⟨rfl, by decide, by decide⟩ (by decide +kernel) (fun w h Y => PySem.W.kIn_of Y) ?F (fun _ _ _ _ _ h => h)
  case F =>
    intro w mg fa h KX G hmg own
    refine' Mw.all_mk KX G hmg own ?e_MastError ?x_MastError ?k_MastError ?b_MastError ?t_MastError ?i_MastError ?h_MastError ?ga_MastError ?gg_MastError ?cl_MastError ?mo_MastError ?v_MastError ?e_BadCount ?x_BadCount ?k_BadCount ?b_BadCount ?t_BadCount ?i_BadCount ?h_BadCount ?ga_BadCount ?gg_BadCount ?cl_BadCount ?mo_BadCount ?v_BadCount ?s_MastError_MastError ?s_BadCount_MastError ?a1 ?l1 ?c1 ?y_l ?y_11 ?y_18 ?y_7 ?y_9 ?y_10 ?y_ne ?y_P ?k1 ?a2 ?l2 ?c2 ?k2 ?a3 ?l3 ?c3 ?k3 ?a4 ?l4 ?c4 ?k4 ?a5 ?l5 ?c5 ?k5 ?a6 ?l6 ?c6 ?k6 ?a7 ?l7 ?c7 ?k7 ?a8 ?l8 ?c8 ?k8 ?a9 ?l9 ?c9 ?k9 ?a10 ?l10 ?c10 ?k10 ?a11 ?l11 ?c11 ?k11 ?a12 ?l12 ?c12 ?k12 ?q_FEWEST_MASTS ?q_MOST_MASTS ?q_MOST_SIGNS ?q_LAST_FIRST_BEAT ?z_all ?z_len ?z_range ?z_enumerate ?z_max ?z_isinstance ?z_bool ?z_int ?z_str ?z_list ?z_tuple ?z_min ?oc_get ?oc_tak
    (case e_MastError => k_is)
    (case x_MastError => k_exc)
    (case k_MastError => k_is)
    (case b_MastError => k_is)
    (case t_MastError => k_is)
    (case i_MastError => k_is)
    (case h_MastError => k_is)
    (case ga_MastError => k_is)
    (case gg_MastError => k_is)
    (case cl_MastError => k_is)
    (case mo_MastError => k_is)
    (case v_MastError => k_is)
    (case e_BadCount => k_is)
    (case x_BadCount => k_exc)
    (case k_BadCount => k_is)
    (case b_BadCount => k_is)
    (case t_BadCount => k_is)
    (case i_BadCount => k_is)
    (case h_BadCount => k_is)
    (case ga_BadCount => k_is)
    (case gg_BadCount => k_is)
    (case cl_BadCount => k_is)
    (case mo_BadCount => k_is)
    (case v_BadCount => k_is)
    (case s_MastError_MastError => (first | rfl | k_is))
    (case s_BadCount_MastError => (first | rfl | k_is))
    (case a1 => k_is)
    (case l1 => k_is)
    (case c1 => k_is)
    (case y_l => k_is)
    (case y_11 => rfl)
    (case y_18 => rfl)
    (case y_7 => rfl)
    (case y_9 => rfl)
    (case y_10 => rfl)
    (case y_ne => (intro z; cases z))
    (case y_P => rfl)
    (case k1 => k_is)
    (case a2 => k_is)
    (case l2 => k_is)
    (case c2 => k_is)
    (case k2 => k_is)
    (case a3 => k_is)
    (case l3 => k_is)
    (case c3 => k_is)
    (case k3 => k_is)
    (case a4 => k_is)
    (case l4 => k_is)
    (case c4 => k_is)
    (case k4 => k_is)
    (case a5 => k_is)
    (case l5 => k_is)
    (case c5 => k_is)
    (case k5 => k_is)
    (case a6 => k_is)
    (case l6 => k_is)
    (case c6 => k_is)
    (case k6 => k_is)
    (case a7 => k_is)
    (case l7 => k_is)
    (case c7 => k_is)
    (case k7 => k_is)
    (case a8 => k_is)
    (case l8 => k_is)
    (case c8 => k_is)
    (case k8 => k_is)
    (case a9 => k_is)
    (case l9 => k_is)
    (case c9 => k_is)
    (case k9 => k_is)
    (case a10 => k_is)
    (case l10 => k_is)
    (case c10 => k_is)
    (case k10 => k_is)
    (case a11 => k_is)
    (case l11 => k_is)
    (case c11 => k_is)
    (case k11 => k_is)
    (case a12 => k_is)
    (case l12 => k_is)
    (case c12 => k_is)
    (case k12 => k_is)
    (case q_FEWEST_MASTS => k_is)
    (case q_MOST_MASTS => k_is)
    (case q_MOST_SIGNS => k_is)
    (case q_LAST_FIRST_BEAT => k_is)
    (case z_all => k_is)
    (case z_len => k_is)
    (case z_range => k_is)
    (case z_enumerate => k_is)
    (case z_max => k_is)
    (case z_isinstance => k_is)
    (case z_bool => k_is)
    (case z_int => k_is)
    (case z_str => k_is)
    (case z_list => k_is)
    (case z_tuple => k_is)
    (case z_min => k_is)
    (case oc_get => k_is)
    (case oc_tak => k_is)
