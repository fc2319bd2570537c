import PyProof.Rows.All
import Wide.All
import OpenK.AllK
import Wide.FinOn
import HandS.ForMost
import HandS.ForExc
import HandS.AnyAll
import HandS.EndTab
import HandS.ExcIs
import HandS.ExcField
import HandS.ExcInit
import HandS.IsInst
import HandS.Conv
import HandS.Replace
import HandS.Flow
import HandS.Walk
import HandS.Evl
import KE.KExcIs
import HandS.EndOwn
import HandS.CallRecv
import HandS.Zip
import HandS.Deep
import HandS.More
import HandS.Star
import HandS.TupMul
import HandS.RaiseMore
import HandS.WrittenGet
import KE.KUnpack
import PyProof.CollectIter
import PyProof.StrOps2
import PyProof.DictUpdate
import KE.GoesRaise
import KE.IntTextLaws
import HandS.Comp
import HandS.Exc
import PySem.Challenge.RW_mastword_k45_texts_that_are_no_deeds
set_option Elab.async false
set_option linter.all false
set_option maxRecDepth 100000
set_option maxHeartbeats 2000000
namespace Mw
open PySem PySem.Spec PyProof.Rows L2
/-! ### what is kept: every tracked thing but the tables of code objects, which stay tables -/
def isT : HO → Bool
  | .tbl _ => true
  | _ => false
structure Kp (H H' : Hp) : Prop where
  same : ∀ a o, isT o = false → H a = some o → H' a = some o
  tab : ∀ a, GxR.TabG H a → GxR.TabG H' a
  free : ∀ a, H' a = none → H a = none
theorem Kp.refl (H : Hp) : Kp H H := ⟨fun _ _ _ h => h, fun _ h => h, fun _ h => h⟩
theorem Kp.trans {H H1 H2 : Hp} (a : Kp H H1) (b : Kp H1 H2) : Kp H H2 :=
  ⟨fun x o t h => b.same x o t (a.same x o t h), fun x h => b.tab x (a.tab x h), fun x h => a.free x (b.free x h)⟩
theorem Kp.mut {H H' : Hp} {p : Addr} {o : HO} (e : Kp H H') (h : H p = none) : Kp H (upd H' p o) := by
  refine ⟨fun a u t ha => ?_, fun a ⟨ps, ha, ht⟩ => ?_, fun a ha => ?_⟩
  · rw [upd_ne (ne_of_none ha h)]
    exact e.same a u t ha
  · obtain ⟨ps', h1, h2⟩ := e.tab a ⟨ps, ha, ht⟩
    exact ⟨ps', by rw [upd_ne (ne_of_none ha h)]; exact h1, h2⟩
  · by_cases q : a = p
    · rw [q]
      exact h
    · rw [upd_ne q] at ha
      exact e.free a ha
theorem Kp.new {H : Hp} {p : Addr} {o : HO} (h : H p = none) : Kp H (upd H p o) := (Kp.refl H).mut h
theorem Kp.rd {H H' : Hp} {a : Addr} {u : HO} (e : Kp H H') (t : isT u = false) (h : Rd H a u) : Rd H' a u := by
  rcases h with h | ⟨o, h⟩
  · exact Or.inl (e.same a _ t h)
  · exact Or.inr ⟨o, e.same a _ rfl h⟩
theorem Kp.sqL {K : PySem.W.Frag} {H H' : Hp} {a : Addr} {xs : List V} (e : Kp H H') (h : SqL K H a xs) : SqL K H' a xs := by
  rcases h with h | h
  · exact Or.inl (e.rd rfl h)
  · exact Or.inr h
theorem Kp.sqT {K : PySem.W.Frag} {H H' : Hp} {a : Addr} {xs : List V} (e : Kp H H') (h : SqT K H a xs) : SqT K H' a xs := by
  rcases h with h | h
  · exact Or.inl (e.rd rfl h)
  · exact Or.inr h
mutual
theorem Kp.dp {K : PySem.W.Frag} {H H' : Hp} (e : Kp H H') : ∀ {d : PyData} {v : V}, Dp K H v d → Dp K H' v d
  | _, _, .non => .non
  | _, _, .bl b => .bl b
  | _, _, .int i => .int i
  | _, _, .str x => .str x
  | _, _, .lst h a => .lst (e.sqL h) (Kp.dpAll e a)
  | _, _, .tup h a => .tup (e.sqT h) (Kp.dpAll e a)
theorem Kp.dpAll {K : PySem.W.Frag} {H H' : Hp} (e : Kp H H') : ∀ {ds : List PyData} {vs : List V}, DpAll K H vs ds → DpAll K H' vs ds
  | _, _, .nil => .nil
  | _, _, .cons h t => .cons (Kp.dp e h) (Kp.dpAll e t)
end
theorem DpAll.len {K : PySem.W.Frag} {H : Hp} : ∀ {vs : List V} {ds : List PyData}, DpAll K H vs ds → vs.length = ds.length
  | _, _, .nil => rfl
  | _, _, .cons _ t => congrArg (· + 1) (DpAll.len t)
theorem DpAll.get {K : PySem.W.Frag} {H : Hp} : ∀ {vs : List V} {ds : List PyData} {i : Nat} {d : PyData}, DpAll K H vs ds → ds[i]? = some d → ∃ v, vs[i]? = some v ∧ Dp K H v d
  | _, _, i, d, .nil, h => by simp at h
  | _, _, 0, d, .cons a _, h => by
    have e := Option.some.inj h
    subst e
    exact ⟨_, rfl, a⟩
  | _, _, i + 1, d, .cons _ t, h => DpAll.get (i := i) t h
theorem DpAll.app {K : PySem.W.Frag} {H : Hp} : ∀ {vs ws : List V} {ds es : List PyData}, DpAll K H vs ds → DpAll K H ws es → DpAll K H (vs ++ ws) (ds ++ es)
  | _, _, _, _, .nil, b => b
  | _, _, _, _, .cons a t, b => .cons a (DpAll.app t b)
/-- data without lists -/
inductive Nl : PyData → Prop
  | non : Nl .none
  | bl (b : Bool) : Nl (.bool b)
  | int (i : Int) : Nl (.int i)
  | str (x : Str) : Nl (.str x)
  | tup {ds : List PyData} : (∀ d ∈ ds, Nl d) → Nl (.tuple ds)
/-! a list may change: what has no list in it stays -/
mutual
theorem Dp.mut {K : PySem.W.Frag} {H : Hp} {p : Addr} {o : HO} {zs : List V} (hp : H p = some (.lst zs)) : ∀ {d : PyData} {v : V}, Nl d → Dp K H v d → Dp K (upd H p o) v d
  | _, _, _, .non => .non
  | _, _, _, .bl b => .bl b
  | _, _, _, .int i => .int i
  | _, _, _, .str x => .str x
  | _, _, n, .lst _ _ => nomatch n
  | _, _, n, .tup h a => by
    cases n with
    | tup n =>
      refine .tup ?_ (DpAll.mut hp n a)
      rcases h with (h | ⟨ob, h⟩) | h
      · exact .inl (.inl (by rw [upd_ne (ne_of h hp (by intro z; cases z))]; exact h))
      · exact .inl (.inr ⟨ob, by rw [upd_ne (ne_of h hp (by intro z; cases z))]; exact h⟩)
      · exact .inr h
theorem DpAll.mut {K : PySem.W.Frag} {H : Hp} {p : Addr} {o : HO} {zs : List V} (hp : H p = some (.lst zs)) : ∀ {ds : List PyData} {vs : List V}, (∀ d ∈ ds, Nl d) → DpAll K H vs ds → DpAll K (upd H p o) vs ds
  | _, _, _, .nil => .nil
  | _, _, n, .cons h t => .cons (Dp.mut hp (n _ List.mem_cons_self) h) (DpAll.mut hp (fun d hd => n d (List.mem_cons_of_mem _ hd)) t)
end
theorem DpAll.snoc {K : PySem.W.Frag} {H : Hp} {vs : List V} {ds : List PyData} {v : V} {d : PyData} (a : DpAll K H vs ds) (h : Dp K H v d) : DpAll K H (vs ++ [v]) (ds ++ [d]) := DpAll.app a (.cons h .nil)
theorem DpAll.dropLast {K : PySem.W.Frag} {H : Hp} : ∀ {vs : List V} {ds : List PyData}, DpAll K H vs ds → DpAll K H vs.dropLast ds.dropLast
  | _, _, .nil => .nil
  | _, _, .cons _ .nil => .nil
  | _, _, .cons h (.cons h2 t) => .cons h (DpAll.dropLast (.cons h2 t))
theorem dp_ints {K : PySem.W.Frag} {H : Hp} : ∀ ns : List Int, DpAll K H (ns.map V.int) (ns.map PyData.int)
  | [] => .nil
  | n :: r => .cons (.int n) (dp_ints r)
theorem dp_strs {K : PySem.W.Frag} {H : Hp} : ∀ ns : List Str, DpAll K H (ns.map V.str) (ns.map PyData.str)
  | [] => .nil
  | n :: r => .cons (.str n) (dp_strs r)
/-- a list of ints, a list of texts as data -/
def dI (ns : List Int) : PyData := .list (ns.map PyData.int)
def dS (ns : List Str) : PyData := .list (ns.map PyData.str)
theorem dp_dI {K : PySem.W.Frag} {H : Hp} {a : Addr} {ns : List Int} (h : SqL K H a (ns.map V.int)) : Dp K H (.ref a) (dI ns) := .lst h (dp_ints ns)
theorem dpAll_ints {K : PySem.W.Frag} {H : Hp} : ∀ {ns : List Int} {vs : List V}, DpAll K H vs (ns.map PyData.int) → vs = ns.map V.int
  | [], _, .nil => rfl
  | n :: r, _, .cons h t => by
    cases h
    rw [dpAll_ints t]
    rfl
theorem dp_of_dI {K : PySem.W.Frag} {H : Hp} {v : V} {ns : List Int} (h : Dp K H v (dI ns)) : ∃ a, v = .ref a ∧ SqL K H a (ns.map V.int) := by
  cases h with
  | lst h t =>
    rw [dpAll_ints t] at h
    exact ⟨_, rfl, h⟩
/-! ### small words -/
theorem at_int {ns : List Int} {j : Nat} (h : j < ns.length) : atI (ns.map V.int) (j : Int) = some (.int ns[j]) := atI_nat (by rw [List.getElem?_map, List.getElem?_eq_getElem h]; rfl)
theorem at_intZ {ns : List Int} {z : Int} (h0 : 0 ≤ z) (h : z.toNat < ns.length) : atI (ns.map V.int) z = some (.int ns[z.toNat]) := by
  have e := at_int h
  rw [Int.toNat_of_nonneg h0] at e
  exact e
theorem szl {n : Nat} (h : n ≤ 100000) : n ≤ sizeLine := Nat.le_trans h (by decide)
theorem szt {n : Nat} (h : n < 100000) : n < sizeLine := Nat.lt_of_lt_of_le h (by decide)
theorem iteB {b : Bool} {A B : Prop} (h1 : b = true → A) (h2 : b = false → B) : if b = true then A else B := by
  cases b with
  | true => rw [if_pos rfl]; exact h1 rfl
  | false => rw [if_neg Bool.false_ne_true]; exact h2 rfl
theorem iteD {c : Prop} [Decidable c] {A B : Prop} (h1 : c → A) (h2 : ¬ c → B) : if decide c = true then A else B :=
  iteB (fun h => h1 (of_decide_eq_true h)) (fun h => h2 (of_decide_eq_false h))
theorem iteN {c : Prop} [Decidable c] {A B : Prop} (h1 : ¬ c → A) (h2 : c → B) : if (!decide c) = true then A else B :=
  iteB (fun h => h1 (fun z => by rw [decide_eq_true z] at h; cases h)) (fun h => h2 (by
    by_cases z : c
    · exact z
    · rw [decide_eq_false z] at h; cases h))
theorem iteTo {b : Bool} {A B : Prop} (e : b = true) (h : A) : if b = true then A else B := by rw [if_pos e]; exact h
theorem iteFo {b : Bool} {A B : Prop} (e : b = false) (h : B) : if b = true then A else B := by rw [e, if_neg Bool.false_ne_true]; exact h
/-! ### rules with the written part by its own name (inside a comprehension) -/
section
variable {X : Cx} (K : PySem.W.Frag)
theorem ix_listK (h : X.K = K) : IxR X (rIxL K) := h ▸ ix_list
theorem ix_tupK (h : X.K = K) : IxR X (rIxT K) := h ▸ ix_tup
theorem ix_seqK (h : X.K = K) : IxR X (rIx K) := h ▸ ix_seq
def rLenSq : List V → Hp → VK → Prop := fun xs H Q => ∃ p ys, xs = [.ref p] ∧ (SqL K H p ys ∨ SqT K H p ys) ∧ Q (.int ys.length) H
theorem call_lenSK (h : X.K = K) : CallR X (.builtin "len") (rLenSq K) := h ▸ call_len_seq
def rLenV : List V → Hp → VK → Prop := fun xs H Q => ∃ x n, xs = [x] ∧ LenV K x H n ∧ Q (.int n) H
theorem call_lenK (h : X.K = K) : CallR X (.builtin "len") (rLenV K) := h ▸ call_len
theorem op_inK (h : X.K = K) : OpR X (compareOp .In) (rIn K false) := h ▸ op_in_seq
theorem op_notInK (h : X.K = K) : OpR X (compareOp .NotIn) (rIn K true) := h ▸ op_notIn_seq
theorem op_eqDK (h : X.K = K) (hu : X.A.units + 64 < cLine) : OpR X (compareOp .Eq) (rEqD K) := h ▸ op_eqD hu
theorem op_neDK (h : X.K = K) (hu : X.A.units + 64 < cLine) : OpR X (compareOp .NotEq) (rNeD K) := h ▸ op_neD hu
theorem call_isiKK (h : X.K = K) : CallR X (.builtin "isinstance") (rIsi K) := h ▸ call_isi
end
section
variable {X : Cx} (K : PySem.W.Frag)
theorem pgK {e : Expr} {n : Nat} {t : TGs} (h : X.K = K) (p : PG X e (gTup X.K n t)) : PG X e (gTup K n t) := h ▸ p
/-- isinstance(e, C), e what the suite has caught (without or with a dict of its own) -/
def rIsX (cls : Value) (d : Option Addr) (a : Addr) : List V → Hp → VK → Prop := fun xs H Q => ∃ (D : Addr) (c : V) (cv : Value) (b : Bool), cls = .ref D ∧ (d = none ∨ ∃ dd fs, d = some dd ∧ H dd = some (.xd fs)) ∧ ExcC K D ∧ xs = [.ref a, c] ∧ ClsV c cv ∧ PySem.W.kitOne K (.ref D) cv = some b ∧ Q (.bl b) H
theorem call_isX {a : Addr} {oe : Obj} {pn : List (Addr × Obj)} {cls : Value} {d : Option Addr} (h : X.K = K) (hz : Zc cls d oe) (hf : ∃ vs, oe.data = .fields vs) : CallR (X.suite a ((a, oe) :: pn)) (.builtin "isinstance") (rIsX K cls d a) := by
  subst h
  intro pins s σ H xs us Q I r h'
  obtain ⟨D, c, cv, b, rfl, hd, C, rfl, hc, hk, q⟩ := h'
  cases r with | cons rx rr =>
  cases rr with | cons rt rr =>
  cases rr
  cases rx
  have ec := hc.eq rt
  subst ec
  obtain ⟨hget, _⟩ := I.pin (a, oe) (List.mem_append_left _ List.mem_cons_self)
  obtain ⟨vs, hv⟩ := hf
  have hcl : (PySem.W.clsIn X.K D).isSome = true := by
    obtain ⟨cd, hc, _⟩ := PySem.W.any_some C.hd
    rw [hc]
    first | rfl | done
  have nc : PySem.W.notCls oe = true := by
    unfold PySem.W.notCls
    rw [hv]
  rcases hd with rfl | ⟨dd, fs, rfl, hdd⟩
  · have J : PySem.W.InstAt s.heap a oe D none := ⟨hget, hz.1, nc, by rw [hz.2]; trivial⟩
    exact PySem.W.kia_one (PySem.W.kitx_exc hcl C.hg C.hk C.hs C.ha C.hn C.ht C.hm) I.kIn J hk (fun z => nomatch z) fun tk => ⟨.bl b, H, I.kept (t' := tk) fun _ _ z => z, rfl, q⟩
  · obtain ⟨mA, hns, hr⟩ := I.hok dd _ hdd
    obtain ⟨od, ho, hl⟩ := lookIn_ns hns
    have J : PySem.W.InstAt s.heap a oe D (some od) := ⟨hget, hz.1, nc, by rw [hz.2]; exact ho⟩
    exact PySem.W.kia_one (PySem.W.kitx_exc hcl C.hg C.hk C.hs C.ha C.hn C.ht C.hm) I.kIn J hk (fun z => nomatch z) fun tk => ⟨.bl b, H, I.kept (t' := tk) fun _ _ z => z, rfl, q⟩
end
/-! ### isinstance of an own error, by what the written part says of its class -/
theorem kit_sub {K : PySem.W.Frag} {t : Value} {C : Addr} (ic : PySem.W.isClsIn K C = true) (tC : PySem.W.typeIn K (.ref C) = some (.type "type")) (h : PySem.W.subIn K t (.ref C) = some true) : PySem.W.kitOne K t (.ref C) = some true := by
  unfold PySem.W.kitOne
  by_cases e : (t == .ref C) = true
  · rw [if_pos e]
  · rw [if_neg e]
    have h2 : ((PySem.W.clsIn K C).isSome && PySem.W.typeIn K (.ref C) == some (.type "type")) = true := by
      have q : (PySem.W.clsIn K C).isSome = true := ic
      rw [q, tC]
      rfl
    show (if ((PySem.W.clsIn K C).isSome && PySem.W.typeIn K (.ref C) == some (.type "type")) = true then PySem.W.subIn K t (.ref C) else none) = some true
    rw [if_pos h2]
    exact h
theorem kit_not {K : PySem.W.Frag} {t : Value} {C : Addr} (ic : PySem.W.isClsIn K C = true) (tC : PySem.W.typeIn K (.ref C) = some (.type "type")) (h : PySem.W.subIn K t (.ref C) = some false) (hs : PySem.W.subIn K t t = some true) : PySem.W.kitOne K t (.ref C) = some false := by
  unfold PySem.W.kitOne
  have e : ¬ (t == .ref C) = true := fun e => by
    have z : t = .ref C := by simpa using e
    rw [z] at h hs
    rw [h] at hs
    cases hs
  rw [if_neg e]
  have h2 : ((PySem.W.clsIn K C).isSome && PySem.W.typeIn K (.ref C) == some (.type "type")) = true := by
    have q : (PySem.W.clsIn K C).isSome = true := ic
    rw [q, tC]
    rfl
  show (if ((PySem.W.clsIn K C).isSome && PySem.W.typeIn K (.ref C) == some (.type "type")) = true then PySem.W.subIn K t (.ref C) else none) = some false
  rw [if_pos h2]
  exact h
theorem meta_ve : PySem.W.kitMeta "ValueError" = true := by decide +kernel
theorem kit_ve {K : PySem.W.Frag} {C : Addr} (h : PySem.W.subIn K (.ref C) (.type "ValueError") = some true) : PySem.W.kitOne K (.ref C) (.type "ValueError") = some true := by
  unfold PySem.W.kitOne
  rw [if_neg (by intro z; cases z)]
  show (if PySem.W.kitMeta "ValueError" = true then PySem.W.subIn K (.ref C) (.type "ValueError") else none) = some true
  rw [if_pos meta_ve]
  exact h
theorem at_mod (z : Str) {m : Int} {n : Nat} (hn : 0 < n) (hl : z.cps.toList.length = n) : ∃ c, atI z.cps.toList (m % (n : Int)) = some c := by
  have h0 : 0 ≤ m % (n : Int) := Int.emod_nonneg _ (by omega)
  have h1 : m % (n : Int) < (n : Int) := Int.emod_lt_of_pos _ (by omega)
  have hj : (m % (n : Int)).toNat < z.cps.toList.length := by omega
  refine ⟨z.cps.toList[(m % (n : Int)).toNat], ?_⟩
  have e := atI_nat (List.getElem?_eq_getElem hj)
  rw [Int.toNat_of_nonneg h0] at e
  exact e
theorem cutV_map {lo hi : Option Int} {ns : List Int} : ∃ ms : List Int, cutV (ns.map V.int) lo hi = ms.map V.int ∧ (∀ m ∈ ms, m ∈ ns) ∧ ms.length ≤ ns.length := by
  unfold cutV
  rw [List.length_map]
  refine ⟨(ns.drop _).take _, by rw [List.map_take, List.map_drop], fun m h => List.mem_of_mem_drop (List.mem_of_mem_take h), ?_⟩
  rw [List.length_take, List.length_drop]
  omega
theorem mem_ints {ns : List Int} {i : Nat} {x : V} (h : (ns.map V.int)[i]? = some x) : ∃ z, z ∈ ns ∧ x = .int z ∧ ns[i]? = some z := by
  rw [List.getElem?_map] at h
  cases e : ns[i]? with
  | none =>
    rw [e] at h
    cases h
  | some z =>
    rw [e] at h
    exact ⟨z, List.mem_of_getElem? e, (Option.some.inj h).symm, rfl⟩
theorem mem_strs {ns : List Str} {i : Nat} {x : V} (h : (ns.map V.str)[i]? = some x) : ∃ z, z ∈ ns ∧ x = .str z ∧ ns[i]? = some z := by
  rw [List.getElem?_map] at h
  cases e : ns[i]? with
  | none =>
    rw [e] at h
    cases h
  | some z =>
    rw [e] at h
    exact ⟨z, List.mem_of_getElem? e, (Option.some.inj h).symm, rfl⟩
theorem take_snoc {α : Type} {l : List α} {i : Nat} {z : α} (h : l[i]? = some z) : l.take (i + 1) = l.take i ++ [z] := by
  rw [List.take_succ, h]
  rfl
/-! ### all(test for x in a text): the test may read the module's names -/
section
open GxR
variable {X : Cx} {pins : List (Addr × Obj)} {σ : L2.St} {H : Hp} {s : Shared}
/-- the test of one sign, the module's names being mg -/
def EltG (prog : Program) (w : World) (mg : Str → Option Value) (sco : Scope) (x : Str) (elt : Expr) (pb : Nat → Bool) : Prop :=
  ∀ (en : Env) (B : Around) (F : Value → Shared → Prop) (c : Nat) (t : Tok) (z : Shared) (m : Str → Option Value),
    en.scope = sco → en.globals = mainGlobals → z.heap.Ns mainGlobals mg → z.heap.Ns en.locals m → m x = some (.str ⟨#[c]⟩ t) →
    wpAny (model prog w) B (eval elt en) (fun y z' => y = .bool (pb c) ∧ Keeps z z') F z
theorem elt_inG {prog : Program} {w : World} {mg : Str → Option Value} {sco : Scope} {x g : Str} {L : Str} {tl : Tok} {p1 p2 p3 : Pos} (kf : sco.kind = .function) (lx : sco.names.lookup x = some .local) (lg : sco.names.lookup g = some .globalImplicit)
    (hL : mg g = some (.str L tl)) (dx : (x == ("__debug__" : Str)) = false := by decide) (dg : (g == ("__debug__" : Str)) = false := by decide) :
    EltG prog w mg sco x (.Compare (.Name x p1) [.In] [.Name g p2] p3) (fun c => decide (c ∈ L.cps.toList)) := by
  intro en B F c t z m es eg ng nl hm
  have kk : en.scope.kind = .function := by rw [es]; exact kf
  refine wpAny_Compare1 ?_ rfl
  refine wpAny_Name (wpAny_loadName_local kk (show en.scope.names.lookup x = some .local by rw [es]; exact lx) nl hm ?_) dx
  refine Calls.Name_function_global kk (show en.scope.names.lookup g = some .globalImplicit by rw [es]; exact lg) (Calls.loadGlobal_global (mg := mg) (by rw [eg]; exact ng) hL ?_) dg
  refine PyProof.Rows.in_str ⟨?_, keeps_refl _⟩
  rw [PySem.StrLaws.found_one L c]
theorem gen_signs {c P : Addr} {elt src : Expr} {x : Str} {px gp : Pos} {sco : Scope} {pb : Nat → Bool} {te : TE} {k : Nat} {Z : Value → Shared → Prop} {R : Str → Hp → Prop}
    (hr : Room k X.A) (TB : TabB X.base X.mg c P) (hco : X.env.code = .ref c) (S : GenS X.env sco x) (hi : PE X src te) (hel : EltG X.prog X.w X.mg sco x elt pb)
    (hs : ∀ v, genFold src X.env v = pure v) (I : Inv X pins σ H s) (h : te σ H fun v H1 => ∃ a : Str, v = .str a ∧ TabG H1 P ∧ R a H1)
    (hZ : ∀ a H1 g z, R a H1 → Ready X pins σ H1 P a pb g z → Z (.ref g) z) :
    wpAny (model X.prog X.w) X.A (eval (.GeneratorExp elt [⟨.Name x px, src, [], 0⟩] sco gp) X.env) Z X.xe s := by
  refine wpAny_GeneratorExp_walksQ hr.hd S.co (closure_ok S.free) S.cell S.dot S.loc S.kind (by have d := hr.dp; omega) ?_ hs
  refine thn (hi.run pins s σ H _ I h) fun xv z1 ⟨v, H1, J, r1, q⟩ => ?_
  obtain ⟨a, rfl, ⟨ps, hP, ht⟩, q⟩ := q
  obtain ⟨t, rfl⟩ := _root_.id r1
  refine wpAny_pyIter_str fun it St W w0 => ?_
  have gP : z1.heap.get? P = some { cls := .none, data := .fields ps } := J.hok P _ hP
  have gP2 : (z1.heap.push it).get? P = some { cls := .none, data := .fields ps } := Heap.get?_push_of_some _ gP
  have ltP : P < z1.heap.objs.size := Heap.lt_size gP
  have hd2 : PySem.W.CodeHd (z1.heap.push it) c P := TB.code.keeps fun b u e => Heap.get?_push_of_some _ (J.bk b u e)
  have nl2 : (z1.heap.push it).NoLimit := J.nolimit.push it
  have go : ∀ (code : Value) (hh : Heap) (tk : Nat) (qs : Array Value), Heap.ExtBut P (z1.heap.push it) hh → (z1.heap.push it).objs.size ≤ hh.objs.size →
      hh.get? P = some { cls := .none, data := .fields qs } → (∃ more, qs = ps ++ more) → TriplesOk qs.toList →
      wpAny (model X.prog X.w) X.A (builtinsFor X.env.globals X.env.builtins) (fun bi s₄ =>
        ∃ Ia fp wr n₀ Pf St₀ pz F, Value.ref z1.heap.objs.size = .ref Ia ∧ (∀ A' : Around, A'.handled = none → Walks X.prog X.w A' Ia fp wr n₀ Pf St₀) ∧
          St₀ 0 s₄.heap ∧ (∀ b ∈ fp, b < s₄.heap.objs.size) ∧ s₄.heap.NoLimit ∧ cStatics ∉ wr ∧
          (∀ hf : Heap, (∀ b o, s₄.heap.get? b = some o → hf.get? b = some o) →
            QuietGen X.prog X.w (genEnv sco (cloFrom X.env.cells sco.names []) s₄.heap.objs.size code bi X.env) x [] elt (List.range s₄.heap.objs.size) wr Pf pz F hf) ∧
          (∀ a h₅ tk gs, gs.bare = true → s₄.heap.objs.size < a → h₅.objs.size = a + 1 → (∀ b o, s₄.heap.get? b = some o → h₅.get? b = some o) →
            WalksS X.prog X.w X.A.in4 a (a :: s₄.heap.objs.size :: List.range s₄.heap.objs.size) (s₄.heap.objs.size :: wr) (GenOnlyQ s₄.gens.size)
              (passing pz n₀ 0).length (fun j y => ∃ i, (passing pz n₀ 0)[j]? = some i ∧ F i y)
              (GenAt X.prog X.w X.A.in4 a s₄.gens.size s₄.heap.objs.size (List.range s₄.heap.objs.size) wr pz n₀ F) →
            GenAt X.prog X.w X.A.in4 a s₄.gens.size s₄.heap.objs.size (List.range s₄.heap.objs.size) wr pz n₀ F 0 { s₄ with gens := s₄.gens.push gs, toks := tk, heap := h₅ } →
            Z (.ref a) { s₄ with gens := s₄.gens.push gs, toks := tk, heap := h₅ })) X.xe { z1 with heap := hh, toks := tk } := by
    intro code hh tk qs ex sz gq mr tq
    obtain ⟨bm, ob, b1, b2, b3, b4, b5, b6, b7, b8⟩ := TB.bm
    have neS : cStatics ≠ P := fun e => by
      obtain ⟨_, ns, _⟩ := J.nolimit
      obtain ⟨oo, es, ep, go1, gd, _⟩ := ns
      rw [e, gP] at go1
      cases go1
      cases gd
    have ltS : cStatics < z1.heap.objs.size := let ⟨_, ns, _⟩ := J.nolimit; ns.lt
    have szp : (z1.heap.push it).objs.size = z1.heap.objs.size + 1 := Heap.size_push ..
    have kp : ∀ b u, b ≠ P → z1.heap.get? b = some u → hh.get? b = some u := fun b u hb e => ex b u hb (Heap.get?_push_of_some _ e)
    have gl1 : z1.heap.Ns mainGlobals X.mg := J.mod.glob.keeps J.bk
    have glh : hh.Ns mainGlobals X.mg := (gl1.push it).extBut ex TB.gP
    refine wpAny_builtinsFor (m := X.mg) (by rw [J.ok.glob]; exact glh) b1 b2 (kp _ _ b4 (J.bk _ _ b5)) b6 b7 b8 ?_
    refine ⟨z1.heap.objs.size, [z1.heap.objs.size], [z1.heap.objs.size], a.cps.size, SignAt a, St, (fun _ => true), (fun i y => ∃ cc, a.cps[i]? = some cc ∧ y = .bool (pb cc)), rfl, W, ?_, ?_, nl2.extBut ex neS, ?_, ?_, ?_⟩
    · refine (W X.A hr.hd).frame _ _ _ w0 fun b hb u e => ex b u (fun eq => ?_) e
      rw [List.mem_singleton.mp hb] at eq
      exact Nat.ne_of_lt ltP eq.symm
    · intro b hb
      rw [List.mem_singleton.mp hb]
      show z1.heap.objs.size < hh.objs.size
      omega
    · exact fun m => Nat.ne_of_lt ltS (List.mem_singleton.mp m)
    · intro hf keep
      refine ⟨fun A' E' i v z2 m2 _ _ _ _ _ => ?_, fun A' E' i v z2 m2 _ hv _ hn hm hk => ?_⟩
      · simp only [List.forIn_nil]
        exact wpAny_pure ⟨rfl, keeps_refl _⟩
      · obtain ⟨cc, u, hcc, rfl⟩ := hv
        have ngl : z2.heap.Ns mainGlobals X.mg := by
          have lt1 : mainGlobals < z1.heap.objs.size := gl1.lt
          obtain ⟨og, es, ep, e1, er⟩ := glh
          exact ⟨og, es, ep, hk mainGlobals (List.mem_range.mpr (Heap.lt_size e1)) (fun m => Nat.ne_of_lt lt1 (List.mem_singleton.mp m)) og (keep _ _ e1), er⟩
        exact wpAny_mono (hel _ A' E' cc u z2 m2 rfl J.ok.glob ngl hn hm) (fun y z3 r => ⟨⟨cc, hcc, r.1⟩, r.2⟩) fun _ _ e => e
    · intro g h5 tk5 gs bare lt5 sz5 k5 W5 at5
      simp only [GxR.passing_true, List.length_range] at W5
      refine hZ a H1 g _ q ⟨_, _, _, _, _, W5.in4_1, at5, ?_, fun z' mv => ?_⟩
      · intro j y sj Qj Ej hy hQj
        obtain ⟨i, hij, cc, hcc, rfl⟩ := hy
        obtain ⟨lj, ej⟩ := List.getElem?_eq_some_iff.mp hij
        rw [List.getElem_range] at ej
        subst ej
        have e9 : a.cps.toList[j]? = some cc := by rw [Array.getElem?_toList]; exact hcc
        have hQ2 : Qj (trF pb a.cps.toList j) sj := hQj
        rw [trF_some e9] at hQ2
        exact wpAny_truthy_bool hQ2
      · obtain ⟨more, em⟩ := mr
        have out : ∀ b u, z1.heap.get? b = some u → b ∉ hh.objs.size :: [z1.heap.objs.size] := fun b u e hb => by
          have lt := Heap.lt_size e
          rcases List.mem_cons.mp hb with y | y
          · rw [y] at lt
            have lt' : (hh.objs.size : Nat) < z1.heap.objs.size := lt
            omega
          · rw [List.mem_singleton.mp y] at lt
            exact Nat.lt_irrefl _ lt
        have J2 := inv_tab (more := more) (h' := z'.heap) (g' := z'.gens) (d' := z'.drawn) (t' := z'.toks) J hP
          (fun b u hb e => mv.heap b u (out b u e) (k5 b u (kp b u hb e)))
          (by rw [← em]; exact mv.heap P _ (out P _ gP) (k5 P _ gq))
          (AllBare.movedS (J.bare.push bare) mv)
        rw [sh_eta z1 z' mv.os] at J2
        exact ⟨upd H1 P (.tbl (ps ++ more)), ⟨⟨ps ++ more, upd_same, by rw [← em]; exact tq⟩, fun b hb => upd_ne hb⟩, J2⟩
  refine ⟨nl2, ?_⟩
  cases hf : codeAmong gp ps.toList with
  | none =>
    refine wpAny_genexprCodeX hco (hd2.code gP2 ht) (hd2.tab gP2) hf fun c' h' tk ex ge lt hc' _ tab' _ => ?_
    obtain ⟨_, _, _, _, _, _, _, _, _, _, _, _, _, _, _, _, _, _, _, tr, _⟩ := hc'
    exact go _ h' tk _ ex (Nat.le_trans ge (Nat.le_of_lt lt)) tab'.2 ⟨_, rfl⟩ tr
  | some cv =>
    refine wpAny_genexprCode_hit hco (hd2.code gP2 ht) hf ?_
    exact go cv (z1.heap.push it) z1.toks ps (Heap.ExtBut.refl _ _) (Nat.le_refl _) gP2 ⟨#[], by simp⟩ ht
theorem pe_allG {c P : Addr} {elt src : Expr} {x : Str} {px p pos gp : Pos} {sco : Scope} {pb : Nat → Bool} {te : TE} {k : Nat}
    (hr : Room k X.A) (hg : Gl X "all") (hm : X.mg "all" = none) (hb : bootBuiltins "all" = some (.builtin "all")) (TB : TabB X.base X.mg c P) (hco : X.env.code = .ref c) (S : GenS X.env sco x) (hi : PE X src te) (hel : EltG X.prog X.w X.mg sco x elt pb)
    (hs : ∀ v, genFold src X.env v = pure v)
    (he : starEach [.GeneratorExp elt [⟨.Name x px, src, [], 0⟩] sco gp] X.env = (false, eval (.GeneratorExp elt [⟨.Name x px, src, [], 0⟩] sco gp) X.env) :: starEach [] X.env := by rfl) :
    PE X (.Call (.Name "all" p) [.GeneratorExp elt [⟨.Name x px, src, [], 0⟩] sco gp] [] pos) (tAllS P pb te) := by
  refine ⟨fun pins z σ H Q I h => ?_⟩
  refine wpAny_Call_Name_kw (ld_blt I hg hm hb (PyProof.Rows.callWith_builtin1 ?_ he (by rfl)))
  rw [he]
  show wpAny _ _ (spliced ((false, eval (.GeneratorExp elt [⟨.Name x px, src, [], 0⟩] sco gp) X.env) :: backTo pos (starEach [] X.env))) _ _ z
  refine Calls.spliced_cons (gen_signs (R := fun a H1 => ∀ H2, Tabbed P H1 H2 → Q (.bl (a.cps.toList.all pb)) H2) hr TB hco S hi hel hs I h fun a H1 g z5 hR hG => ?_)
  obtain ⟨fp, wr, G, F, St, W, st0, tru, fin⟩ := hG
  refine Calls.spliced_nil (call_all_walkS (W.self 0 _ _ _ st0 ⟨g, fp, wr, G, _, F, St, _, rfl, W, st0, tru, fun z' mv => ?_⟩))
  obtain ⟨H2, tb, J⟩ := fin z' mv
  refine ⟨.bl _, H2, J, rfl, ?_⟩
  rw [all_signs a pb]
  exact hR H2 tb
/-- a table may grow -/
theorem kp_tabbed {P : Addr} {H H' : Hp} (h : TabG H P) (t : Tabbed P H H') : Kp H H' := by
  obtain ⟨ps, hP, _⟩ := h
  obtain ⟨⟨qs, hQ, tq⟩, e⟩ := t
  refine ⟨fun b o n hb => ?_, fun b hb => ?_, fun b hb => ?_⟩
  · have ne : b ≠ P := fun z => by
      rw [z, hP] at hb
      cases hb
      cases n
    rw [e b ne]
    exact hb
  · by_cases z : b = P
    · rw [z]
      exact ⟨qs, hQ, tq⟩
    · obtain ⟨rs, h1, h2⟩ := hb
      exact ⟨rs, by rw [e b z]; exact h1, h2⟩
  · by_cases z : b = P
    · rw [z, hQ] at hb
      cases hb
    · rw [e b z] at hb
      exact hb
end

/-! ### a def whose code object is known, a method that may raise in a try, the end with a table -/
structure FunC (K : PySem.W.Frag) (x qual : Str) (st : Stmt) (f : Addr) (fd : FuncData) (c : Addr) : Prop where
  ex : ∃ (oc : Value) (od : Option Addr) (kV doc pm : Value) (an : Option Addr) (ct : Value) (osl : Array (Option Value)),
    fd = PySem.W.fnOf x qual (defArgs st) (defBody st) (defScope st) .none kV doc pm an (.ref c) ct ∧ K.lookup f = some ⟨oc, od, .func fd, osl⟩ ∧ PySem.W.codeIn K (.ref c) qual = true
theorem FunC.ok {P : Program} {w : World} {K : PySem.W.Frag} {mg : Str → Option Value} {base : Heap} {x qual : Str} {st : Stmt} {f c : Addr} {fd : FuncData} {N ps : List Str} {k : Nat} {sp : Sp} (F : FunC K x qual st f fd c) (S : FnScope N ps (defScope st)) (len : ∀ vs H Q E, sp vs H Q E → vs.length = ps.length)
    (body : ∀ (A : Around) (outer : List Env) (s : Shared) (H : Hp) (vs : List V) (Q : VK) (E : XK), Room k (A.deeper (envOfC qual (defScope st) s.heap.objs.size f (.ref c))) → sp vs H Q E →
      ∃ t, PSs (cxOf CX0 P w K mg base N qual (defScope st) f (.ref c) A outer s H E).nox (defBody st) t ∧ t { nx := fun _ H' => Q .non H', rt := Q } (start N vs) H) : FnOk P w K mg base CX0 (k + 1) f fd ps sp := by
  obtain ⟨oc, od, kV, doc, pm, an, ct, osl, rfl, lk, cd⟩ := F.ex
  refine fn_of lk cd S len fun A outer s H vs Q E hr hs => ?_
  obtain ⟨t, h, q⟩ := body A outer s H vs Q E hr hs
  exact ⟨t, h.nox, q⟩
theorem noFree {names : List (Str × NameKind)} {cells : List (Str × Addr)} (h : names.all (fun y => decide (y.2 ≠ .free)) = true) : ∀ y ∈ names, y.2 = .free → ∃ c, cells.lookup y.1 = some c := fun y hy e =>
  absurd e (of_decide_eq_true (List.all_eq_true.mp h y hy))
theorem noCell {names : List (Str × NameKind)} (h : names.all (fun y => decide (y.2 ≠ .cell)) = true) : ∀ y ∈ names, y.2 ≠ .cell := fun y hy => of_decide_eq_true (List.all_eq_true.mp h y hy)
section
variable {X : Cx} {CX : CXT} {k : Nat} {C f : Addr} {fd : FuncData} {ps : List Str} {sp : Sp} {m : Str} {o e : Expr} {es : List Expr} {ta : TE} {t : TA} {E : L2.St → XK} {apos pos : Pos}
def tMethE (C : Addr) (m : Str) (sp : Sp) (E : L2.St → XK) (ta : TE) (t : TA) : TE := fun σ H Q => ta σ H fun x H1 => ∃ a dx fs, x = .ref a ∧ H1 a = some (.ins C dx fs) ∧ fs.lookup m = none ∧ t σ H1 fun vs H2 => sp (.ref a :: vs) H2 Q (E σ)
theorem pe_methE {pl : Sem Bool} (he : PE X o ta) (c : Cls X.K C) (hm : Meth X.K C m f) (F : FnOk X.prog X.w X.K X.mg X.base CX k f fd ps sp) (hr : Room k X.A) (hb : Binds X.K fd ps []) (hx : ∀ σ, PassesAt CX X σ (E σ)) (ha : PA X (e :: es) t)
    (s1 : starEach (e :: es) X.env = (false, eval e X.env) :: starEach es X.env := by rfl) (s2 : (backTo pos (starEach es X.env)).any (·.1) = false := by rfl)
    (ht : eval (.Call (.Attribute o m apos) (e :: es) [] pos) X.env = (do
      let v ← eval o X.env
      standAt apos.atName
      let (g, fst) ← holding [v] (getMethod v m pl)
      callWith pos g fst (backTo pos (starEach (e :: es) X.env)) (backToKw pos (keywordEach [] X.env))) := by rfl) :
    PE X (.Call (.Attribute o m apos) (e :: es) [] pos) (tMethE C m sp E ta t) := by
  refine ⟨fun pins z σ H Q I h => ?_⟩
  refine PySem.W.methodCall_KW (pl := pl) (thn (he.run pins z σ H _ I h) fun u z1 ⟨x, H1, J, rx, a, dx, fs, ex, ea, l, q⟩ => ?_) ht
  subst ex
  obtain rfl : u = Value.ref a := rx
  refine getmeth_ok J ea c hm l ?_
  refine PySem.W.callWith_K (first := [.ref a]) (h₀ := X.base) I.ok.mod.kin hm.kp (thn (ha.run pos pins z1 σ H1 _ J q) fun us z2 ⟨vs, H2, J2, r, q2⟩ => ⟨J2.kIn, ?_⟩) s1 s2
  exact run_fnS (us := .ref a :: us) (vs := .ref a :: vs) F hr hb (hx σ) J2 (.cons rfl r) q2
end
theorem walk_tab {l : PySem.W.OpenLaw} {n k : Nat} {q : Program} {loose : List Str} {XP : (Str → Option Value) → Heap → Prop} {YP : World → Heap → Prop} {d : DefRec} {K : Params → PySem.W.Frag} {CX : World → CXT} {x : Str} (nms : List Str)
    (hn : l.most = some n) (hz : n ≤ sizeLine) (hdf : d.params.defaults = []) (hr : Room k callerA) (hrec : nms.all (fun y => (recsOf q).any fun e => e.name == y) = true) (hY : ∀ (w : World) (h : Heap), YP w h → (K w.params).In h)
    (F : ∀ (w : World) (mg : Str → Option Value) (fa : Addr) (h : Heap), (K w.params).In h → h.Ns mainGlobals mg → mg d.name = some (.ref fa) → (∀ y ∈ nms, ∀ f, mg y = some (.ref f) → LamX.OwnTab (K w.params) f h) → LamX.LawAtS l w (K w.params) (CX w) k n x mg fa h)
    (hCX : ∀ (w : World) (H : Hp) (s : Shared) (e : Value) (s' : Shared), CX w [] H s (fun _ _ _ => False) e s' → False) :
    PySem.W.WalkO q loose XP YP l.row.toRowW d [] (fun f vs => PySem.call f vs) := by
  refine Att.attach_callB hn hdf fun w s0 s1 mg mb fa o pm cd doc a vs ns G Y ho hd hcd hmg hob hin hlen hbits hg => ?_
  have KX := hY w _ Y
  have own : ∀ y ∈ nms, ∀ f, mg y = some (.ref f) → LamX.OwnTab (K w.params) f s1.heap := fun y hy f hf c P o1 fd1 e dd us sl k1 k2 k3 k4 k5 => by
    obtain ⟨dl, hm, he⟩ := List.any_eq_true.mp (List.all_eq_true.mp hrec y hy)
    have en : dl.name = y := beq_iff_eq.mp he
    obtain ⟨a', o', fd', c', P', t1, t2, t3, t4, t5, t6⟩ := G.T.tab dl hm
    rw [en, hf] at t1
    cases t1
    rw [KX _ _ k1] at t2
    cases t2
    rw [k2] at t3
    cases t3
    rw [k3] at t4
    cases t4
    obtain ⟨⟨oc, vc, u1, _, u3, u4⟩, hP⟩ := t6
    rw [KX _ _ k4] at u1
    cases u1
    cases u3
    rw [k5] at u4
    cases u4
    exact hP
  obtain ⟨fd, cs, sp, hT, nT, C, hb, hsp, hF⟩ := F w mg fa _ KX G.T.g hmg own
  exact LamX.law_callTs KX G.T.g G.T.b G.T.builtins G.T.nolimit hg hT nT C G.T.bmain hob hin (Nat.le_trans hlen hz) hr hF hb (fun H hH hS => hsp H a ns hlen hbits hH hS) fun H e s' => hCX w H s1 e s'
theorem codeHd_mk {K : PySem.W.Frag} {h : Heap} {c P : Addr} {dd : Option Addr} {vs : Array Value} {sl : Array (Option Value)} {fl : Str} {tf tg tt : Tok} {fg tx : Int} {b : Bool} (X : K.In h) (l : K.lookup c = some ⟨.type "code", dd, .fields vs, sl⟩) (h11 : vs[11]? = some (.ref P)) (h18 : vs.getD 18 .none = .str fl tf)
    (h7 : vs.getD 7 .none = .int fg tg) (h9 : vs.getD 9 .none = .bool b) (h10 : vs.getD 10 .none = .int tx tt) (ne : c ≠ P) : PySem.W.CodeHd h c P :=
  ⟨_, vs, fl, tf, fg, tg, b, tx, tt, X _ _ l, rfl, rfl, h11, by rw [Array.getD_eq_getD_getElem?, h11]; rfl, h18, h7, h9, h10, ne⟩

/-! ### name, *rest = a list -/
theorem walks_from1 {prog : Program} {w : World} {A : Around} (hh : A.handled = none) (I ax : Addr) (hne : ax ≠ I) (items : Array Value) (h1 : 1 ≤ items.size) :
    Walks prog w A I [I, ax] [I] (items.size - 1) (fun i v => items[i + 1]? = some v) (fun i h => h.IsListIter I ax (i + 1) ∧ h.IsList ax items) := by
  have W := Walks.list (prog := prog) (w := w) hh I ax hne items
  have e : items.size - 1 + 1 = items.size := by omega
  refine ⟨W.sub, fun i h h' st hk => W.frame (i + 1) h h' st hk, fun i s Q E hi st hQ => W.item (i + 1) s Q E (by omega) st hQ, fun s Q E st hQ => W.done s Q E ?_ hQ, fun i s Q E st hQ => W.self (i + 1) s Q E st hQ⟩
  have st2 : s.heap.IsListIter I ax (items.size - 1 + 1) ∧ s.heap.IsList ax items := st
  rw [e] at st2
  exact st2
theorem itemsOf_drop {items acc : Array Value} (h : ItemsOf (fun i v => items[i + 1]? = some v) acc (items.size - 1)) : acc.toList = items.toList.drop 1 := by
  apply List.ext_getElem?
  intro i
  rw [List.getElem?_drop, Array.getElem?_toList, Array.getElem?_toList, Nat.add_comm 1 i]
  by_cases c : i < acc.size
  · have e := h.2 i acc[i] (Array.getElem?_eq_getElem c)
    rw [Array.getElem?_eq_getElem c]
    exact e.symm
  · have := h.1
    rw [Array.getElem?_eq_none (by omega), Array.getElem?_eq_none (by omega)]
def gStar1 (K : PySem.W.Frag) (t : TGs) : TG := fun v σ H Q => ∃ a x r, v = .ref a ∧ SqL K H a (x :: r) ∧ ∀ p, H p = none → t [x, .ref p] σ (upd H p (.lst r)) Q
theorem pg_star1 {X : Cx} {e1 e2 : Expr} {p2 pos : Pos} {k : Nat} {t : TGs} (hc : X.calm = true) (h : PGs X [e1, e2] t)
    (hl : (assignEach [e1, .Starred e2 p2] X.env).length = 2 := by rfl) (hm : (assignEach [e1, .Starred e2 p2] X.env).map (·.2) = (assignEach [e1, e2] X.env).map (·.2) := by rfl)
    (hst : (assignEach [e1, .Starred e2 p2] X.env).findIdx? (·.1) = some 1 := by rfl) : PG X (.Tuple [e1, .Starred e2 p2] k pos) (gStar1 X.K t) := by
  refine ⟨fun pins s σ H v u Q I r hw => ?_⟩
  obtain ⟨a, x, rr, e, hq, hw⟩ := hw
  subst e
  cases r
  obtain ⟨its, rv, pl, hz⟩ := I.list hq
  have hlst := pl.isList
  have hlt : a ≠ s.heap.objs.size := by obtain ⟨o, ho, _⟩ := id hlst; exact Nat.ne_of_lt (Heap.lt_size ho)
  have hlen := rv.length
  cases rv with
  | @cons _ u1 _ ur r1 rs =>
  rw [assign_Tuple]
  refine wpAny_bind (wpAny_standAt ?_)
  unfold unpack
  rw [hl, hst, hm]
  refine wpAny_bind (wpAny_holding ?_)
  unfold unpackItems
  refine wpAny_bind ?_
  unfold notIterableAtAll
  refine wpAny_bind (wpAny_specialOf hlst.typeIs slot_list_iter.lookup ?_)
  refine wpAny_pure ?_
  simp only [Bool.false_eq_true, if_false]
  refine wpAny_bind (wpAny_holding (wpAny_pyIter_list hlst ?_))
  refine wpAny_bind (wpAny_holding (PySem.W.kun_draw hlt 1 0 _ _ ⟨_, Heap.get?_push_size _ rfl, rfl, rfl⟩ (hlst.push _) (by simp) fun h₁ hit₁ hs₁ => ?_))
  have hl₁ : h₁.IsList a (u1 :: ur).toArray := (hlst.push _).extBut hs₁.extBut hlt
  rw [show List.take 1 (List.drop 0 (u1 :: ur).toArray.toList) = [u1] from rfl]
  rw [if_neg (by simp)]
  have hsz : (u1 :: ur).toArray.size - 1 ≤ sizeLine := by simp at hlen ⊢; simp at hz; omega
  have hi1 : s.heap.objs.size < h₁.objs.size := by obtain ⟨o, ho, _⟩ := id hit₁; exact Heap.lt_size ho
  have ha1 : a < h₁.objs.size := by obtain ⟨o, ho, _⟩ := id hl₁; exact Heap.lt_size ho
  refine wpAny_bind (wpAny_holding (wpAny_collect_iter (.inr (.inr (.inl rfl))) (walks_from1 (A := X.A.in1) (I.ok.hd hc) s.heap.objs.size a hlt (u1 :: ur).toArray (by simp)).toS (fun _ _ st => st.1.typeIs) ⟨hit₁, hl₁⟩ ?_ (by simp) (fun s2 acc hm2 ha => ?_) hsz))
  · intro b hb
    rcases List.mem_cons.mp hb with rfl | hb
    · exact hi1
    · rw [List.mem_singleton.mp hb]
      exact ha1
  have hacc : acc.toList = ur := (itemsOf_drop ha).trans rfl
  rw [hacc]
  obtain ⟨hp2, g2, d2, tk2, os2⟩ := s2
  obtain ⟨m1, m2, m3, m4, _⟩ := hm2
  simp only at m2 m3 m4
  subst m2 m3 m4
  rw [if_neg (by simp)]
  have keep : ∀ b o, s.heap.get? b = some o → hp2.get? b = some o := fun b o hb => by
    have hb' : b ≠ s.heap.objs.size := Nat.ne_of_lt (Heap.lt_size hb)
    exact m1 b o (by simpa using hb') (hs₁.extBut b o hb' (Heap.get?_push_of_some _ hb))
  have I1 : Inv X pins σ H { s with heap := hp2, toks := tk2 } := I.kept (t' := tk2) keep
  refine wpAny_bind (wpAny_newList ?_ (by simp at hlen ⊢; simp at hz; omega))
  refine wpAny_pure ?_
  have I2 := I1.laid (t' := tk2) (h' := hp2.push { cls := .type "list", data := .seq (ur.take (ur.length - (2 - 1 - 1))).toArray }) (a := hp2.objs.size) (o := .lst rr) (fun b ob q => Heap.get?_push_of_some _ q) (Nat.le_refl _)
    ⟨by simp at hz; omega, ur, 0, rs, by
      rw [show ur.take (ur.length - (2 - 1 - 1)) = ur from by simp]
      exact Heap.get?_push_size _ rfl⟩
  have hv : [u1] ++ [Value.ref hp2.objs.size] ++ ur.drop (ur.length - (2 - 1 - 1)) = [u1, .ref hp2.objs.size] := by simp
  rw [hv]
  exact h.run pins _ σ _ [x, .ref hp2.objs.size] [u1, .ref hp2.objs.size] Q I2 (.cons r1 (.cons rfl .nil)) (hw _ (I1.hok.fresh (Nat.le_refl _)))
/-! ### tuple * int, of any size -/
theorem tuple_mul0 (l : Addr) (items : Array Value) (n : Nat) (dd : Option Addr) (sl : Array (Option Value)) (x : Int) (u : Tok) (c0 : (decide (x < -(2 ^ 63)) || decide (x ≥ 2 ^ 63)) = false) (c1 : (items.isEmpty || x == 1) = false) (c2 : (decide (x ≤ 0) || items.isEmpty) = true) :
    Meets (Builtin.«tuple.__mul__» ⟨[.ref l, .int x u], []⟩) (fun _ R s => s.heap.get? l = some { cls := .type "tuple", dict := dd, data := .seq items n, slots := sl } ∧
      R (.ok (.ret (Value.ref s.heap.objs.size))) { s with heap := s.heap.push { cls := Value.type "tuple", data := Data.seq #[] }, toks := s.toks }) :=
  .of_wp fun prog w A R s h => by
    obtain ⟨hp, g, d, tk, os⟩ := s
    obtain ⟨hl, h⟩ := h
    have f1 := AutoSeq1.idx_int
    wp_walk using AutoSeq1.wpAny_loadPart' hl
    repeat (first
      | (refine wpAny_ite_false (decide_eq_false (by rw [c0]; exact Bool.false_ne_true)) ?_; wp_walk using AutoSeq1.wpAny_loadPart' hl)
      | (refine wpAny_ite_false (decide_eq_false (by rw [c1]; exact Bool.false_ne_true)) ?_; wp_walk using AutoSeq1.wpAny_loadPart' hl)
      | (refine wpAny_ite_true (decide_eq_true c2) ?_; wp_walk using AutoSeq1.wpAny_loadPart' hl))
    exact ⟨_, rfl, h⟩
theorem tuple_mul1 (l : Addr) (items : Array Value) (n : Nat) (dd : Option Addr) (sl : Array (Option Value)) (x : Int) (u : Tok) (c0 : (decide (x < -(2 ^ 63)) || decide (x ≥ 2 ^ 63)) = false) (c1 : (items.isEmpty || x == 1) = true) :
    Meets (Builtin.«tuple.__mul__» ⟨[.ref l, .int x u], []⟩) (fun _ R s => s.heap.get? l = some { cls := .type "tuple", dict := dd, data := .seq items n, slots := sl } ∧ R (.ok (.ret (Value.ref l))) s) :=
  .of_wp fun prog w A R s h => by
    obtain ⟨hp, g, d, tk, os⟩ := s
    obtain ⟨hl, h⟩ := h
    have f1 := AutoSeq1.idx_int
    wp_walk using AutoSeq1.wpAny_loadPart' hl
    repeat (first
      | (refine wpAny_ite_false (decide_eq_false (by rw [c0]; exact Bool.false_ne_true)) ?_; wp_walk using AutoSeq1.wpAny_loadPart' hl)
      | (refine wpAny_ite_true (decide_eq_true c1) ?_; wp_walk using AutoSeq1.wpAny_loadPart' hl))
    exact ⟨_, rfl, h⟩
/-- a tuple that is not empty, times an int from nought -/
def rRepA (K : PySem.W.Frag) : R2 := fun x y H Q => ∃ l k xs, x = .ref l ∧ y = .int k ∧ SqT K H l xs ∧ xs ≠ [] ∧ -1000 ≤ k ∧ k ≤ 1000 ∧ xs.length ≤ 1000 ∧ (k = 1 → Q (.ref l) H) ∧ (k ≠ 1 → ∀ p, H p = none → Q (.ref p) (upd H p (.tup (List.replicate k.toNat xs).flatten)))
theorem op_repA {X : Cx} : OpR X (binaryOp .Mult) (rRepA X.K) := by
  intro pins s σ H x y v u Q I rx ry h
  obtain ⟨l, k, xs, rfl, rfl, hT, hne, h1, h2, hz, q1, q2⟩ := h
  by_cases b2 : 2 ≤ k
  · exact op_repT pins s σ H _ _ v u Q I rx ry ⟨l, k, xs, rfl, rfl, hT, hne, b2, h2, hz, q2 (by omega)⟩
  cases rx
  obtain ⟨t, rfl⟩ := ry
  obtain ⟨its, r, ⟨⟨cls, dd, data, sl⟩, ho, hc, n, hd⟩, hs⟩ := I.tuple hT
  simp only at hc hd
  subst hc hd
  have hle : its.length = xs.length := r.length.symm
  have hn : its ≠ [] := fun e => hne (by
    rw [e] at hle
    exact List.eq_nil_of_length_eq_zero hle.symm)
  have hi : its.toArray.isEmpty = false := by
    cases its with
    | nil => exact absurd rfl hn
    | cons a b => rfl
  have c0 : (decide (k < -(2 ^ 63)) || decide (k ≥ 2 ^ 63)) = false := by
    rw [decide_eq_false (by omega), decide_eq_false (by omega)] <;> rfl
  by_cases b1 : k = 1
  · have c1 : (its.toArray.isEmpty || k == 1) = true := by
      rw [hi, b1]
      rfl
    exact wpAny_binaryOp_repeat_ref (T := "tuple") (U := "int") (by decide) ⟨_, ho, rfl⟩ (fun s' => typeIs_int s' k t) noFill_tuple_mul F.fills_int_mul F.slot_int_rmul repeat_tuple F.slot_int_index.lookup
      (call_meets F.slot_int_rmul (typeIs_int s k t) F.entry_int_rmul (F.args_int_rmul_2 _ _) (int_rmul_tuple k t l its.toArray n dd sl)
        ⟨ho, rfl, ⟨_, ho, rfl⟩, call_meets F.slot_tuple_mul ⟨_, ho, rfl⟩ F.entry_tuple_mul (F.args_tuple_mul_2 _ _) (tuple_mul1 l its.toArray n dd sl k t c0 c1) ⟨ho, ⟨.ref l, H, I, rfl, q1 b1⟩⟩⟩)
  · have c1 : (its.toArray.isEmpty || k == 1) = false := by
      rw [hi, Bool.false_or]
      exact beq_eq_false_iff_ne.mpr b1
    have c2 : (decide (k ≤ 0) || its.toArray.isEmpty) = true := by
      rw [decide_eq_true (by omega)]
      rfl
    refine wpAny_binaryOp_repeat_ref (T := "tuple") (U := "int") (by decide) ⟨_, ho, rfl⟩ (fun s' => typeIs_int s' k t) noFill_tuple_mul F.fills_int_mul F.slot_int_rmul repeat_tuple F.slot_int_index.lookup
      (call_meets F.slot_int_rmul (typeIs_int s k t) F.entry_int_rmul (F.args_int_rmul_2 _ _) (int_rmul_tuple k t l its.toArray n dd sl)
        ⟨ho, rfl, ⟨_, ho, rfl⟩, call_meets F.slot_tuple_mul ⟨_, ho, rfl⟩ F.entry_tuple_mul (F.args_tuple_mul_2 _ _) (tuple_mul0 l its.toArray n dd sl k t c0 c1 c2) ⟨ho, ?_⟩⟩)
    have q := q2 b1
    rw [show k.toNat = 0 by omega] at q
    refine ⟨.ref s.heap.objs.size, _, I.laid (t' := s.toks) (o := .tup []) (fun b ob q => Heap.get?_push_of_some _ q) (Nat.le_refl _) ?_, rfl, q _ (I.hok.fresh (Nat.le_refl _))⟩
    exact ⟨Nat.zero_le _, _, .nil, IsTup.new _ _⟩
/-! ### str of an int or a text -/
def rStrA : List V → Hp → VK → Prop := fun xs H Q => (∃ i : Int, xs = [.int i] ∧ i.natAbs.log2 < 1920 ∧ Q (.str (toString i)) H) ∨ ∃ a, xs = [.str a] ∧ Q (.str a) H
theorem call_strA {X : Cx} : CallR X (.type "str") rStrA := by
  intro pins s σ H xs us Q I rs h
  rcases h with h | h
  · exact call_str_int pins s σ H xs us Q I rs h
  · exact SkE.call_str_str pins s σ H xs us Q I rs h
/-! ### written tuples and a written dict of tuples -/
def KTup (K : PySem.W.Frag) (a : Addr) (ks : List Str) : Prop := ∃ (o : Obj) (its : Array Value) (n : Nat), K.lookup a = some o ∧ o.cls = .type "tuple" ∧ o.data = .seq its n ∧ its.size ≤ sizeLine ∧ Vals (ks.map V.str) its.toList
theorem KTup.sq {K : PySem.W.Frag} {H : Hp} {a : Addr} {ks : List Str} (h : KTup K a ks) : SqT K H a (ks.map V.str) := .inr h
def PartK (K : PySem.W.Frag) (a : Addr) (name : Str) (ks : List Str) : Prop := ∃ p, PySem.W.nsIn K a name = some (some (.ref p)) ∧ KTup K p ks
/-- the keys of a written dict, in their order -/
def KeysAre : List DictEntry → List Str → Prop
  | [], [] => True
  | e :: r, k :: ks => (∃ t, e.key = .str k t) ∧ KeysAre r ks
  | _, _ => False
theorem keys_find (x : Str) : ∀ {l : List DictEntry} {ks : List Str}, KeysAre l ks → x ∉ ks → l.find? (fun d => d.key.isStr x) = none
  | [], [], _, _ => rfl
  | e :: r, k :: ks, h, hn => by
    obtain ⟨⟨t, he⟩, hr⟩ := h
    rw [List.find?_cons, he]
    have hk : k ≠ x := fun z => hn (by rw [z]; exact List.mem_cons_self)
    have e0 : (Value.str k t).isStr x = false := by
      show (k == x) = false
      exact beq_eq_false_iff_ne.mpr hk
    rw [e0]
    exact keys_find x hr fun z => hn (List.mem_cons_of_mem _ z)
  | [], _ :: _, h, _ => h.elim
  | _ :: _, [], h, _ => h.elim
theorem keys_plain : ∀ {l : List DictEntry} {ks : List Str}, KeysAre l ks → l.any (fun d => d.refKey) = false
  | [], [], _ => rfl
  | e :: r, k :: ks, h => by
    obtain ⟨⟨t, he⟩, hr⟩ := h
    rw [List.any_cons, keys_plain hr, Bool.or_false]
    unfold DictEntry.refKey
    rw [he]
  | [], _ :: _, h => h.elim
  | _ :: _, [], h => h.elim
theorem keys_miss {K : PySem.W.Frag} {a : Addr} {es : Array DictEntry} {n : Nat} {ks : List Str} {x : Str} (hl : K.lookup a = some ⟨.type "dict", none, .dict es n, #[]⟩) (hk : KeysAre es.toList ks) (hx : x ∉ ks) : PySem.W.nsIn K a x = some none := by
  unfold PySem.W.nsIn
  rw [hl]
  dsimp only
  have e := keys_find x hk hx
  rw [e]
  dsimp only
  rw [if_neg (by rw [keys_plain hk]; decide)]

/-! ### zip of a tuple and a list: the two steps of a zip over any two iterators, then these two -/
section
variable {prog : Program} {w : World}
/-- the iterator's next step gives x, and leads from S to S' -/
def Gv (prog : Program) (w : World) (it : Addr) (x : Value) (S S' : Heap → Prop) : Prop := ∀ (A : Around) (s : Shared) (E : Value → Shared → Prop) (Q : Value → Shared → Prop), S s.heap →
  (∀ h', S' h' → Heap.SameBut it s.heap h' → Q x { s with heap := h' }) → wpAny (model prog w) A (Builtin.SmallTypes.nextOf (.ref it)) Q E s
/-- it has come to its end -/
def En (prog : Program) (w : World) (it : Addr) (S : Heap → Prop) : Prop := ∀ (A : Around) (s : Shared) (E : Value → Shared → Prop) (Q : Value → Shared → Prop), A.handled = none → S s.heap →
  (∀ h' e, Heap.ExtBut it s.heap h' → (∃ o, h'.get? e = some o ∧ o.cls = .type "StopIteration") → E (.ref e) { s with heap := h' }) → wpAny (model prog w) A (Builtin.SmallTypes.nextOf (.ref it)) Q E s
/-- S speaks of two objects alone -/
def Two (it l : Addr) (S : Heap → Prop) : Prop := ∀ h h' : Heap, S h → (∀ o, h.get? it = some o → h'.get? it = some o) → (∀ o, h.get? l = some o → h'.get? l = some o) → S h'
theorem Two.ext {it l c : Addr} {S : Heap → Prop} {h h' : Heap} (t : Two it l S) (q : S h) (e : Heap.ExtBut c h h') (n1 : it ≠ c) (n2 : l ≠ c) : S h' := t h h' q (fun o g => e _ o n1 g) (fun o g => e _ o n2 g)
section
variable {A : Around} {E : Value → Shared → Prop} {s : Shared} {z TI TO i1 i2 l1 l2 : Addr} {x y a b : Value} {S1 S1' S2 S2' : Heap → Prop}
theorem zm_item {Q : Value → Shared → Prop} (D : ZipApart z TI TO i1 i2 l1 l2) (t1 : Two i1 l1 S1) (t1' : Two i1 l1 S1') (t2 : Two i2 l2 S2) (t2' : Two i2 l2 S2') (g1 : Gv prog w i1 x S1 S1') (g2 : Gv prog w i2 y S2 S2')
    (hz : IsZip s.heap z TI TO .none) (hTI : IsPair s.heap TI (.ref i1) (.ref i2)) (hTO : IsPair s.heap TO a b) (q1 : S1 s.heap) (q2 : S2 s.heap)
    (k : ∀ h', IsZip h' z TI TO (rawInt s.heap.objs.size) → IsPair h' TO x y → S1' h' → S2' h' → IsPair h' s.heap.objs.size x y → h'.objs.size = s.heap.objs.size + 1 →
      (∀ c o, c ≠ z → c ≠ TO → c ≠ i1 → c ≠ i2 → s.heap.get? c = some o → h'.get? c = some o) → Q (.ref s.heap.objs.size) { s with heap := h' }) :
    wpAny (model prog w) A (Builtin.«zip.__next__» ⟨[.ref z], []⟩) (fun fin s' => ∃ v, fin = .done (.ret v) ∧ Q v s') E s := by
  show wpAny _ _ (field (.ref z) 2 >>= _) _ _ _
  refine wpAny_bind (wpAny_field hz rfl (x := .bool false) rfl ?_)
  show wpAny _ _ (field (.ref z) 3 >>= _) _ _ _
  refine wpAny_bind (wpAny_field hz rfl (x := .ref TI) rfl (wpAny_bind (wpAny_seqItems hTI rfl ?_)))
  show wpAny _ _ (Builtin.SmallTypes.ownedTupleIsFree (.ref z) >>= _) _ _ _
  refine wpAny_bind ?_
  unfold Builtin.SmallTypes.ownedTupleIsFree
  refine wpAny_bind (wpAny_field hz rfl (x := .none) rfl (wpAny_pure ?_))
  simp only [if_true]
  refine wpAny_bind (wpAny_rule (wpAny_bind (wpAny_field hz rfl (x := .ref TO) rfl (wpAny_bind (wpAny_setField_rec hz (by simp) fun ha za ea => ?_)))))
  replace za : IsZip ha z TI TO .ellipsis := za
  refine wpAny_bind ?_
  simp only [List.zipIdx_cons, List.zipIdx_nil, List.forIn_cons, List.forIn_nil]
  -- the first
  refine wpAny_bind (wpAny_bind (wpAny_onRaise ?_))
  show wpAny _ _ (Builtin.SmallTypes.nextOf (.ref i1) >>= _) _ _ _
  refine wpAny_bind (g1 _ _ _ _ (t1.ext q1 ea.extBut D.i1z D.l1z) fun hb sb eb => wpAny_pure ?_)
  have pb : IsPair hb TO a b := eb.extBut _ _ D.TOi1 (ea.extBut _ _ D.TOz hTO)
  refine wpAny_bind (wpAny_seqItems pb rfl (wpAny_bind (wpAny_updateSeq_pair pb fun hc pc ec => ?_)))
  replace pc : IsPair hc TO x b := pc
  refine wpAny_bind (wpAny_letGo (wpAny_pure ?_))
  -- the second
  refine wpAny_bind (wpAny_bind (wpAny_onRaise ?_))
  show wpAny _ _ (Builtin.SmallTypes.nextOf (.ref i2) >>= _) _ _ _
  have q2c : S2 hc := t2.ext (t2.ext (t2.ext q2 ea.extBut D.i2z D.l2z) eb.extBut D.i12.symm D.l2i1) ec.extBut D.TOi2.symm D.l2TO
  refine wpAny_bind (g2 _ _ _ _ q2c fun hd sd ed => wpAny_pure ?_)
  have pd : IsPair hd TO x b := ed.extBut _ _ D.TOi2 pc
  refine wpAny_bind (wpAny_seqItems pd rfl (wpAny_bind (wpAny_updateSeq_pair pd fun he pe ee => ?_)))
  replace pe : IsPair he TO x y := pe
  refine wpAny_bind (wpAny_letGo (wpAny_pure (wpAny_pure ?_)))
  -- the pair
  refine wpAny_bind (wpAny_seqItems pe rfl (wpAny_bind (wpAny_newTuple ?_)))
  have same : he.objs.size = s.heap.objs.size := by rw [ee.1, ed.1, ec.1, eb.1, ea.1]
  have ze : IsZip he z TI TO .ellipsis := ee.extBut _ _ D.TOz.symm (ed.extBut _ _ D.i2z.symm (ec.extBut _ _ D.TOz.symm (eb.extBut _ _ D.i1z.symm za)))
  have q1e : S1' he := t1'.ext (t1'.ext (t1'.ext sb ec.extBut D.TOi1.symm D.l1TO) ed.extBut D.i12 D.l1i2) ee.extBut D.TOi1.symm D.l1TO
  have q2e : S2' he := t2'.ext sd ee.extBut D.TOi2.symm D.l2TO
  have ke : ∀ c o, c ≠ z → c ≠ TO → c ≠ i1 → c ≠ i2 → s.heap.get? c = some o → he.get? c = some o := fun c o c1 c2 c3 c4 e =>
    ee.extBut _ _ c2 (ed.extBut _ _ c4 (ec.extBut _ _ c2 (eb.extBut _ _ c3 (ea.extBut _ _ c1 e))))
  have zlt : z < he.objs.size := Heap.lt_size ze
  show wpAny _ _ (Builtin.SmallTypes.ownedTupleHandOut (.ref z) (.ref he.objs.size) >>= _) _ _ _
  refine wpAny_bind ?_
  unfold Builtin.SmallTypes.ownedTupleHandOut
  have zf : IsZip (he.push { cls := .type "tuple", data := .seq #[x, y] }) z TI TO .ellipsis := Heap.get?_push_of_some _ ze
  refine wpAny_bind (wpAny_setField_rec zf (by simp) fun hg zg eg => ?_)
  replace zg : IsZip hg z TI TO (rawInt he.objs.size) := zg
  refine wpAny_setField_rec zg (by simp) fun hh zh eh => ?_
  replace zh : IsZip hh z TI TO (rawInt he.objs.size) := zh
  have up : ∀ c o, c ≠ z → he.get? c = some o → hh.get? c = some o := fun c o c1 e => eh.extBut _ _ c1 (eg.extBut _ _ c1 (Heap.get?_push_of_some _ e))
  have pt : IsPair hh he.objs.size x y := eh.extBut _ _ (Nat.ne_of_gt zlt) (eg.extBut _ _ (Nat.ne_of_gt zlt) (Heap.get?_push_size _ rfl))
  have sz : hh.objs.size = he.objs.size + 1 := by rw [eh.1, eg.1, Heap.size_push]
  rw [same] at zh pt sz
  refine wpAny_pure ⟨_, rfl, ?_⟩
  show Q (.ref he.objs.size) _
  rw [same]
  exact k hh zh (up _ _ D.TOz pe) (t1' _ _ q1e (fun o e => up _ o D.i1z e) fun o e => up _ o D.l1z e) (t2' _ _ q2e (fun o e => up _ o D.i2z e) fun o e => up _ o D.l2z e) pt sz fun c o c1 c2 c3 c4 e => up c o c1 (ke c o c1 c2 c3 c4 e)
/-- where both end at once: the first says so -/
theorem zm_end {Q : Fin → Shared → Prop} (hh : A.handled = none) (D : ZipApart z TI TO i1 i2 l1 l2) (t1 : Two i1 l1 S1) (n1 : En prog w i1 S1)
    (hz : IsZip s.heap z TI TO .none) (hTI : IsPair s.heap TI (.ref i1) (.ref i2)) (hTO : IsPair s.heap TO a b) (q1 : S1 s.heap)
    (k : ∀ h' e, (∀ c o, c ≠ z → c ≠ TO → c ≠ i1 → c ≠ i2 → s.heap.get? c = some o → h'.get? c = some o) → (∃ o, h'.get? e = some o ∧ o.cls = .type "StopIteration") → E (.ref e) { s with heap := h' }) :
    wpAny (model prog w) A (Builtin.«zip.__next__» ⟨[.ref z], []⟩) Q E s := by
  show wpAny _ _ (field (.ref z) 2 >>= _) _ _ _
  refine wpAny_bind (wpAny_field hz rfl (x := .bool false) rfl ?_)
  show wpAny _ _ (field (.ref z) 3 >>= _) _ _ _
  refine wpAny_bind (wpAny_field hz rfl (x := .ref TI) rfl (wpAny_bind (wpAny_seqItems hTI rfl ?_)))
  show wpAny _ _ (Builtin.SmallTypes.ownedTupleIsFree (.ref z) >>= _) _ _ _
  refine wpAny_bind ?_
  unfold Builtin.SmallTypes.ownedTupleIsFree
  refine wpAny_bind (wpAny_field hz rfl (x := .none) rfl (wpAny_pure ?_))
  simp only [if_true]
  refine wpAny_bind (wpAny_rule (wpAny_bind (wpAny_field hz rfl (x := .ref TO) rfl (wpAny_bind (wpAny_setField_rec hz (by simp) fun ha za ea => ?_)))))
  replace za : IsZip ha z TI TO .ellipsis := za
  refine wpAny_bind ?_
  simp only [List.zipIdx_cons, List.zipIdx_nil, List.forIn_cons, List.forIn_nil]
  refine wpAny_bind (wpAny_bind (wpAny_onRaise ?_))
  show wpAny _ _ (Builtin.SmallTypes.nextOf (.ref i1) >>= _) _ _ _
  refine wpAny_bind (n1 _ _ _ _ hh (t1.ext q1 ea.extBut D.i1z D.l1z) fun hb e eb he => ?_)
  obtain ⟨oe, hoe, hce⟩ := he
  have zb : IsZip hb z TI TO .ellipsis := eb _ _ D.i1z.symm za
  have ez : e ≠ z := fun q => by
    subst q
    rw [zb] at hoe
    cases hoe
    simp at hce
  exact wpAny_setField_rec zb (by simp) fun hc _ ec => k hc e (fun c o c1 _ c3 _ g => ec.extBut _ _ c1 (eb _ _ c3 (ea.extBut _ _ c1 g))) ⟨oe, ec.extBut _ _ ez hoe, hce⟩
theorem zm_next {Q : Option Value → Shared → Prop} (D : ZipApart z TI TO i1 i2 l1 l2) (t1 : Two i1 l1 S1) (t1' : Two i1 l1 S1') (t2 : Two i2 l2 S2) (t2' : Two i2 l2 S2') (g1 : Gv prog w i1 x S1 S1') (g2 : Gv prog w i2 y S2 S2')
    (hz : IsZip s.heap z TI TO .none) (hTI : IsPair s.heap TI (.ref i1) (.ref i2)) (hTO : IsPair s.heap TO a b) (q1 : S1 s.heap) (q2 : S2 s.heap)
    (k : ∀ h', IsZip h' z TI TO (rawInt s.heap.objs.size) → IsPair h' TO x y → S1' h' → S2' h' → IsPair h' s.heap.objs.size x y → h'.objs.size = s.heap.objs.size + 1 →
      (∀ c o, c ≠ z → c ≠ TO → c ≠ i1 → c ≠ i2 → s.heap.get? c = some o → h'.get? c = some o) → Q (some (.ref s.heap.objs.size)) { s with heap := h' }) : wpAny (model prog w) A (pyNext (.ref z)) Q E s := by
  have hT : s.TypeIs (.ref z) "zip" := ⟨_, hz, rfl⟩
  unfold pyNext
  exact wpAny_bind (wpAny_attempt (wpAny_callSpecial?_slot (name := Str.ofString "__next__") hT F.slot_zip_next (wpAny_call_entry F.slot_zip_next hT F.entry_zip_next
    (zm_item D t1 t1' t2 t2' g1 g2 hz hTI hTO q1 q2 fun h' b1 b2 b3 b4 b5 b6 b7 => wpAny_pure (k h' b1 b2 b3 b4 b5 b6 b7)) (F.args_zip_next_1 _))))
theorem zm_stop {Q : Option Value → Shared → Prop} (hh : A.handled = none) (D : ZipApart z TI TO i1 i2 l1 l2) (t1 : Two i1 l1 S1) (n1 : En prog w i1 S1)
    (hz : IsZip s.heap z TI TO .none) (hTI : IsPair s.heap TI (.ref i1) (.ref i2)) (hTO : IsPair s.heap TO a b) (q1 : S1 s.heap)
    (k : ∀ h', (∀ c o, c ≠ z → c ≠ TO → c ≠ i1 → c ≠ i2 → s.heap.get? c = some o → h'.get? c = some o) → Q none { s with heap := h' }) : wpAny (model prog w) A (pyNext (.ref z)) Q E s := by
  have hT : s.TypeIs (.ref z) "zip" := ⟨_, hz, rfl⟩
  unfold pyNext
  refine wpAny_bind (wpAny_attempt (wpAny_callSpecial?_slot (name := Str.ofString "__next__") hT F.slot_zip_next (wpAny_call_entry F.slot_zip_next hT F.entry_zip_next
    (zm_end hh D t1 n1 hz hTI hTO q1 fun h' e hk he => ?_) (F.args_zip_next_1 _))))
  obtain ⟨o, ho, hc⟩ := he
  exact wpAny_bind (wpAny_isInstance (T := "StopIteration") (b := true) ⟨o, ho, hc⟩ isSubtype_stop (wpAny_pure (k _ hk)))
end
/-- a tuple's iterator, a list's -/
def ST (it l : Addr) (vs : Array Value) (i : Nat) : Heap → Prop := fun h => h.IsTupleIter it l i ∧ h.IsTuple l vs
def SL (it l : Addr) (vs : Array Value) (i : Nat) : Heap → Prop := fun h => h.IsListIter it l i ∧ h.IsList l vs
theorem two_ST {it l : Addr} {vs : Array Value} {i : Nat} : Two it l (ST it l vs i) := fun h h' q e1 e2 => ⟨q.1.at e1, let ⟨o, ho, r⟩ := q.2; ⟨o, e2 o ho, r⟩⟩
theorem two_SL {it l : Addr} {vs : Array Value} {i : Nat} : Two it l (SL it l vs i) := fun h h' q e1 e2 => ⟨q.1.at e1, let ⟨o, ho, r⟩ := q.2; ⟨o, e2 o ho, r⟩⟩
theorem gv_ST {it l : Addr} {vs : Array Value} {i : Nat} {x : Value} (hn : l ≠ it) (hx : vs[i]? = some x) : Gv prog w it x (ST it l vs i) (ST it l vs (i + 1)) := fun A s E Q q k =>
  RZ.nextOf_tuple_item q.1 q.2 hx fun h' g e => k h' ⟨g, q.2.extBut e.extBut hn⟩ e
theorem gv_SL {it l : Addr} {vs : Array Value} {i : Nat} {x : Value} (hn : l ≠ it) (hx : vs[i]? = some x) : Gv prog w it x (SL it l vs i) (SL it l vs (i + 1)) := fun A s E Q q k =>
  wpAny_nextOf_list_item q.1 q.2 hx fun h' g e => k h' ⟨g, q.2.extBut e.extBut hn⟩ e
theorem en_ST {it l : Addr} {vs : Array Value} {i : Nat} (hx : vs[i]? = none) : En prog w it (ST it l vs i) := fun A s E Q hh q k => RZ.nextOf_tuple_end hh q.1 q.2 hx k
end
abbrev zm1 (h : Heap) (l1 : Addr) : Heap := h.push { cls := .type "tuple_iterator", data := .fields #[.ref l1, .int 0 0] }
abbrev zm2 (h : Heap) (l1 l2 : Addr) : Heap := (zm1 h l1).push { cls := .type "list_iterator", data := .fields #[.ref l2, .int 0 0] }
abbrev zm3 (h : Heap) (l1 l2 : Addr) : Heap := (zm2 h l1 l2).push { cls := .type "tuple", data := .seq #[.ref h.objs.size, .ref (zm1 h l1).objs.size] }
abbrev zm4 (h : Heap) (l1 l2 : Addr) : Heap := (zm3 h l1 l2).push { cls := .type "tuple", data := .seq #[.none, .none] }
abbrev zm5 (h : Heap) (l1 l2 : Addr) : Heap := (zm4 h l1 l2).push { cls := .type "zip", data := .fields #[.none, .bool false, .bool false, .ref (zm2 h l1 l2).objs.size, .ref (zm3 h l1 l2).objs.size] }
theorem zm_made (l1 l2 : Addr) (xs ys : Array Value) :
    Meets (Builtin.«zip.__new__» ⟨[.type "zip", .ref l1, .ref l2], []⟩) (fun _ R s => s.heap.IsTuple l1 xs ∧ s.heap.IsList l2 ys ∧ R (.ok (.ret (.ref (zm4 s.heap l1 l2).objs.size))) { s with heap := zm5 s.heap l1 l2 }) :=
  .of_wp fun prog w A R s h => by
    obtain ⟨hp, g, d, tk, os⟩ := s
    obtain ⟨hl1, hl2, h⟩ := h
    have hsub := sub_zip
    have hL1 : Heap.IsTuple (Shared.heap ⟨hp, g, d, tk, os⟩) l1 xs := hl1
    have hL2 : Heap.IsList (Shared.heap ⟨hp.push { cls := .type "tuple_iterator", data := .fields #[.ref l1, .int 0 0] }, g, d, tk, os⟩) l2 ys := Heap.IsList.push hl2 _
    wp_walk using wpAny_pyIter_tuple hL1, wpAny_pyIter_list hL2
    exact ⟨_, rfl, h⟩
theorem zm_call {prog : Program} {w : World} {A : Around} {E : Value → Shared → Prop} {s : Shared} {l1 l2 : Addr} {xs ys : Array Value} {Q : Value → Shared → Prop} (hl1 : s.heap.IsTuple l1 xs) (hl2 : s.heap.IsList l2 ys)
    (h : ∀ h', IsZip h' (s.heap.objs.size + 4) (s.heap.objs.size + 2) (s.heap.objs.size + 3) .none → IsPair h' (s.heap.objs.size + 2) (.ref s.heap.objs.size) (.ref (s.heap.objs.size + 1)) →
      IsPair h' (s.heap.objs.size + 3) .none .none → h'.IsTupleIter s.heap.objs.size l1 0 → h'.IsListIter (s.heap.objs.size + 1) l2 0 →
      (∀ c o, s.heap.get? c = some o → h'.get? c = some o) → Q (.ref (s.heap.objs.size + 4)) { s with heap := h' }) :
    wpAny (model prog w) A (call (.type "zip") [.ref l1, .ref l2]) Q E s := by
  refine callType_new F.called_zip (by decide) (F.typeCall_zip_2 _ _) (F.newCall_zip_2 _ _) (fun obj => F.args_object_init_3 obj _ _) F.entry_zip_new (zm_made l1 l2 xs ys) ⟨hl1, hl2, ?_⟩
  have n1 : (zm1 s.heap l1).objs.size = s.heap.objs.size + 1 := Heap.size_push ..
  have n2 : (zm2 s.heap l1 l2).objs.size = s.heap.objs.size + 2 := by rw [Heap.size_push, n1]
  have n3 : (zm3 s.heap l1 l2).objs.size = s.heap.objs.size + 3 := by rw [Heap.size_push, n2]
  have n4 : (zm4 s.heap l1 l2).objs.size = s.heap.objs.size + 4 := by rw [Heap.size_push, n3]
  have up4 : ∀ c o, (zm4 s.heap l1 l2).get? c = some o → (zm5 s.heap l1 l2).get? c = some o := fun c o e => Heap.get?_push_of_some _ e
  have up3 : ∀ c o, (zm3 s.heap l1 l2).get? c = some o → (zm5 s.heap l1 l2).get? c = some o := fun c o e => up4 _ _ (Heap.get?_push_of_some _ e)
  have up2 : ∀ c o, (zm2 s.heap l1 l2).get? c = some o → (zm5 s.heap l1 l2).get? c = some o := fun c o e => up3 _ _ (Heap.get?_push_of_some _ e)
  have up1 : ∀ c o, (zm1 s.heap l1).get? c = some o → (zm5 s.heap l1 l2).get? c = some o := fun c o e => up2 _ _ (Heap.get?_push_of_some _ e)
  have g5 : (zm5 s.heap l1 l2).get? (zm4 s.heap l1 l2).objs.size = some _ := Heap.get?_push_size _ rfl
  have g4 : (zm5 s.heap l1 l2).get? (zm3 s.heap l1 l2).objs.size = some _ := up4 _ _ (Heap.get?_push_size _ rfl)
  have g3 : (zm5 s.heap l1 l2).get? (zm2 s.heap l1 l2).objs.size = some _ := up3 _ _ (Heap.get?_push_size _ rfl)
  have g2 : (zm5 s.heap l1 l2).get? (zm1 s.heap l1).objs.size = some _ := up2 _ _ (Heap.get?_push_size _ rfl)
  have g1 : (zm5 s.heap l1 l2).get? s.heap.objs.size = some _ := up1 _ _ (Heap.get?_push_size _ rfl)
  show _ ∧ _
  rw [n2, n3, n4] at g5
  rw [n1, n2] at g3
  rw [n3] at g4
  rw [n1] at g2
  rw [n4]
  exact ⟨⟨_, g5, rfl⟩, h _ g5 g3 g4 ⟨_, g1, rfl, rfl⟩ ⟨_, g2, rfl, rfl⟩ fun c o e => up1 _ _ (Heap.get?_push_of_some _ e)⟩
/-- the tuple at a and the list at b, the items in new pairs -/
def Itm (K : PySem.W.Frag) (a b : Addr) : It :=
  ⟨fun i H => ∃ (xs ys : List V) (x y : V), SqT K H a xs ∧ SqL K H b ys ∧ xs[i]? = some x ∧ ys[i]? = some y,
    fun i H v H' => ∃ T x y, v = .ref T ∧ H T = none ∧ H' = upd H T (.tup [x, y]) ∧ (∀ xs, SqT K H a xs → xs[i]? = some x) ∧ ∀ ys, SqL K H b ys → ys[i]? = some y,
    fun i H => ∃ xs : List V, SqT K H a xs ∧ xs.length ≤ i⟩
theorem five {c z TI TO i1 i2 : Addr} (h : c ∈ [z, TI, TO, i1, i2]) : c = z ∨ c = TI ∨ c = TO ∨ c = i1 ∨ c = i2 := by simpa using h
theorem turn_mix {P : Program} {w : World} {K : PySem.W.Frag} {elts : List Expr} {kk : Nat} {tpos : Pos} {a b z TI TO i1 i2 : Addr} (D : ZipApart z TI TO i1 i2 a b) :
    Turn P w K (.Tuple elts kk tpos) (Itm K a b) [z, TI, TO, i1, i2] z (fun i h => IsZip h z TI TO .none ∧ IsPair h TI (.ref i1) (.ref i2) ∧ (∃ x y, IsPair h TO x y) ∧ h.IsTupleIter i1 a i ∧ h.IsListIter i2 b i) where
  mem := by simp
  obj := fun i h st c hc => by
    obtain ⟨hz, hTI, ⟨x, y, hTO⟩, ⟨o1, e1, _, d1⟩, ⟨o2, e2, _, d2⟩⟩ := st
    rcases five hc with q | q | q | q | q <;> rw [q]
    · exact ⟨_, hz, fun v q => nomatch q⟩
    · exact ⟨_, hTI, fun v q => nomatch q⟩
    · exact ⟨_, hTO, fun v q => nomatch q⟩
    · exact ⟨o1, e1, fun v q => by rw [d1] at q; cases q⟩
    · exact ⟨o2, e2, fun v q => by rw [d2] at q; cases q⟩
  keep := fun i h h' st k => by
    obtain ⟨hz, hTI, ⟨x, y, hTO⟩, h1, h2⟩ := st
    exact ⟨k z (by simp) _ hz, k TI (by simp) _ hTI, ⟨x, y, k TO (by simp) _ hTO⟩, h1.at fun o q => k i1 (by simp) o q, h2.at fun o q => k i2 (by simp) o q⟩
  item := by
    intro X hP hw hK hc i pins s σ H E I hf st hg
    subst hP hw hK
    obtain ⟨hz, hTI, ⟨x0, y0, hTO⟩, h1, h2⟩ := st
    obtain ⟨xs, ys, x, y, hqx, hqy, hx, hy⟩ := hg
    obtain ⟨its, rv, p, _⟩ := I.tuple hqx
    obtain ⟨its2, rv2, p2, _⟩ := I.list hqy
    obtain ⟨u, hu, ru⟩ := rv.get hx
    obtain ⟨u2, hu2, ru2⟩ := rv2.get hy
    have pT : s.heap.IsTuple a its.toArray := p
    have hzl : z < s.heap.objs.size := Heap.lt_size hz
    refine zm_next D two_ST two_ST two_SL two_SL (gv_ST D.l1i1 (vs := its.toArray) (i := i) (x := u) (by simpa using hu)) (gv_SL D.l2i2 (vs := its2.toArray) (i := i) (x := u2) (by simpa using hu2)) hz hTI hTO ⟨h1, pT⟩ ⟨h2, p2.isList⟩ fun h' z' TO' h1' h2' hT hsz hk => ?_
    refine ⟨_, rfl, wpAny_letOwnedTupleGo_zip (s := { s with heap := h' }) z' fun h'' z'' sb => ?_⟩
    have out : ∀ c o, c ∉ [z, TI, TO, i1, i2] → s.heap.get? c = some o → h''.get? c = some o := fun c o hb q =>
      (sb.2 c fun e => hb (by simp [e])).trans (hk c o (fun e => hb (by simp [e])) (fun e => hb (by simp [e])) (fun e => hb (by simp [e])) (fun e => hb (by simp [e])) q)
    have hT2 : h''.get? s.heap.objs.size = some { cls := .type "tuple", data := .seq #[u, u2] } := (sb.2 _ (Nat.ne_of_gt hzl)).trans hT
    have new : ObjOk X.prog X.w (upd H s.heap.objs.size (.tup [x, y])) h'' s.heap.objs.size (.tup [x, y]) := ⟨by show 2 ≤ sizeLine; decide, [u, u2], .cons ru (.cons ru2 .nil), ⟨_, hT2, rfl, _, rfl⟩⟩
    have I1 : Inv X pins σ (upd H s.heap.objs.size (.tup [x, y])) { s with heap := h'' } := I.turnedNew (t' := s.toks) (ch := [z, TI, TO, i1, i2]) out hf (Nat.le_refl _) new
    refine ⟨.ref s.heap.objs.size, _, I1, rfl, ⟨_, x, y, rfl, I.hok.fresh (Nat.le_refl _), rfl, fun l hl => by rw [I.tuple_inj hl hqx]; exact hx, fun l hl => by rw [I.list_inj hl hqy]; exact hy⟩, ⟨z'', ?_, ⟨u, u2, ?_⟩, ?_, ?_⟩, fun c hcm => ?_⟩
    · exact (sb.2 _ D.TIz).trans (hk _ _ D.TIz D.TITO D.TIi1 D.TIi2 hTI)
    · exact (sb.2 _ D.TOz).trans TO'
    · exact h1'.1.at fun o q => (sb.2 _ D.i1z).trans q
    · exact h2'.1.at fun o q => (sb.2 _ D.i2z).trans q
    · have hlt : c < s.heap.objs.size := by
        rcases five hcm with q | q | q | q | q <;> rw [q]
        · exact hzl
        · exact Heap.lt_size hTI
        · exact Heap.lt_size hTO
        · obtain ⟨_, e1, _⟩ := h1; exact Heap.lt_size e1
        · obtain ⟨_, e2, _⟩ := h2; exact Heap.lt_size e2
      rw [upd_ne (Nat.ne_of_lt hlt)]
      exact (hf c hcm).1
  done := by
    intro X hP hw hK hc i pins s σ H E I hf st hg
    subst hP hw hK
    obtain ⟨hz, hTI, ⟨x0, y0, hTO⟩, h1, h2⟩ := st
    obtain ⟨xs, hqx, hend⟩ := hg
    obtain ⟨its, rv, p, _⟩ := I.tuple hqx
    have l1 := rv.length
    have pT : s.heap.IsTuple a its.toArray := p
    exact zm_stop (I.ok.hd hc) D two_ST (en_ST (vs := its.toArray) (i := i) (by simp; omega)) hz hTI hTO ⟨h1, pT⟩ fun h' hk => ⟨rfl, I.turnedL (t' := s.toks) (ch := [z, TI, TO, i1, i2]) (fun c o hb q =>
      hk c o (fun e => hb (by simp [e])) (fun e => hb (by simp [e])) (fun e => hb (by simp [e])) (fun e => hb (by simp [e])) q) hf⟩
  self := fun A i s Q E st h => wpAny_pyIter_zip st.1 h
def iZipM (K : PySem.W.Frag) (ta : TA) : TI := fun σ H R => ta σ H fun vs H1 => ∃ a b xs ys, vs = [.ref a, .ref b] ∧ SqT K H1 a xs ∧ SqL K H1 b ys ∧ R (Itm K a b) H1
theorem pi_zipM {X : Cx} {e e2 : Expr} {ta : TA} {p pos tpos : Pos} {elts : List Expr} {kk : Nat} (hg : Gl X "zip") (hm : X.mg "zip" = none) (ha : PA X [e, e2] ta)
    (hs : starEach [e, e2] X.env = (false, eval e X.env) :: starEach [e2] X.env := by rfl) (hpl : (backTo pos (starEach [e2] X.env)).any (·.1) = false := by rfl) :
    PI X (.Tuple elts kk tpos) (.Call (.Name "zip" p) [e, e2] [] pos) (iZipM X.K ta) := by
  refine ⟨fun pins s σ H R I h => ?_⟩
  refine Call_ (ld_blt I hg hm PyProof.Rows.boot_zip (PyProof.Rows.callWith_type1 (thn (ha.run pos pins s σ H _ I h) fun us s1 ⟨vs, H1, I1, r1, q1⟩ => ?_) hs hpl))
  obtain ⟨a, b, xs, ys, ex, hqx, hqy, q⟩ := q1
  subst ex
  cases r1 with
  | cons r rr =>
    cases rr with
    | cons r' rr =>
      cases rr
      cases r
      cases r'
      have fresh5 : ∀ c, c ∈ [s1.heap.objs.size + 4, s1.heap.objs.size + 2, s1.heap.objs.size + 3, s1.heap.objs.size, s1.heap.objs.size + 1] → FpOk X pins H1 c := fun c hcm => by
        have hle : s1.heap.objs.size ≤ c := by
          rcases five hcm with z | z | z | z | z <;> rw [z] <;> first | exact Nat.le_add_right _ _ | exact Nat.le_refl _
        exact I1.fpOk hle (I1.hok.fresh hle)
      obtain ⟨its, rv, p1, _⟩ := I1.tuple hqx
      obtain ⟨its2, rv2, p2, _⟩ := I1.list hqy
      obtain ⟨o1, ho1, _⟩ := id p1
      refine zm_call (show s1.heap.IsTuple a its.toArray from p1) p2.isList fun h' hz hTI hTO h1 h2 hk => wpAny_pyIter_zip hz ?_
      have I2 : Inv X pins σ H1 { s1 with heap := h' } := I1.kept (t' := s1.toks) hk
      exact ⟨s1.heap.objs.size + 4, [s1.heap.objs.size + 4, s1.heap.objs.size + 2, s1.heap.objs.size + 3, s1.heap.objs.size, s1.heap.objs.size + 1], _, _, H1, rfl, I2, turn_mix (PySem.W.ktu_apart s1.heap.objs.size a b (Heap.lt_size ho1) p2.lt), ⟨hz, hTI, ⟨_, _, hTO⟩, h1, h2⟩, fresh5, q⟩
theorem walk_mix {K : PySem.W.Frag} {a b : Addr} {xs ys : List V} (hl : xs.length = ys.length) : Walk (Itm K a b) xs.length (fun H => SqT K H a xs ∧ SqL K H b ys) (YPair (fun i => xs[i]?) (fun i => ys[i]?)) := by
  refine ⟨fun i _ hi q => ?_, fun _ q => ⟨xs, q.1, Nat.le_refl _⟩, fun i H v H' _ q y => ?_⟩
  · have h2 : i < ys.length := by omega
    exact ⟨xs, ys, xs[i], ys[i], q.1, q.2, by simp [hi], by simp [h2]⟩
  · obtain ⟨T, x, z, h1, h2, h3, h4, h5⟩ := y
    exact ⟨T, x, z, h1, h2, h3, h4 xs q.1, h5 ys q.2⟩

/-! ### d.update(e), two dicts with texts for keys; text * int -/
def rUpd : V → List V → Hp → VK → Prop := fun x vs H Q => ∃ (a b : Addr) (kvs more : List (Key × V)), x = .ref a ∧ vs = [.ref b] ∧ a ≠ b ∧ H a = some (.dK kvs) ∧ H b = some (.dK more) ∧ kvs.length + more.length ≤ 1000 ∧ Q .non (upd H a (.dK (mergeK kvs more)))
theorem mt_update {X : Cx} : MtM X "dict.update" rUpd := by
  intro pins s σ H x vs v us Q I rx rv h
  obtain ⟨a, b, kvs, more, rfl, rfl, ne, ha, hb, hz, q⟩ := h
  cases rx
  obtain ⟨u, rfl, ru⟩ := vals1 rv
  cases ru
  obtain ⟨z1, hd1, vs1, r1, dd1⟩ := dk_of I.hok ha
  obtain ⟨z2, hd2, vs2, r2, dd2⟩ := dk_of I.hok hb
  have hlen : vs1.length + vs2.length ≤ sizeLine := by
    have e1 : kvs.length = vs1.length := r1.length
    have e2 : more.length = vs2.length := r2.length
    rw [← e1, ← e2, sizeLine_eq]
    omega
  refine call_meetsIn PySem.F.slot_dict_update dd1.typeIs PySem.F.entry_dict_update (PySem.F.args_dict_update_2 _ _) (meets_dict_update (mixKind X.prog X.w) a b ne hd2) ⟨vs1, vs2, dd1, dd2, hlen, fun h' dd' _ hs => ?_⟩
  have he : ∃ q, h'.get? a = some q := let ⟨q, _, _, hq, _⟩ := dd'; ⟨q, hq⟩
  have hz' : (mergeK kvs more).length ≤ sizeLine := by
    have h1 := length_mergeK more kvs
    rw [sizeLine_eq]
    omega
  exact ⟨.non, _, d_write (t' := s.toks) I (by rw [ha]; exact True.intro) hs he (dk_new hz' hd1 (r2.merge r1) dd'), rfl, q⟩
def repS (a : Str) (n : Nat) : Str := ⟨(List.replicate n a.cps.toList).flatten.toArray⟩
theorem rep_fold (a : List Nat) : ∀ (m : Nat) (acc : List Nat), List.foldl (fun x y => x ++ y) acc.toArray (List.replicate m a.toArray) = (acc ++ (List.replicate m a).flatten).toArray
  | 0, acc => by simp
  | m + 1, acc => by
    rw [List.replicate_succ, List.foldl_cons, List.replicate_succ, List.flatten_cons, ← List.append_assoc]
    have e : acc.toArray ++ a.toArray = (acc ++ a).toArray := by simp
    rw [e]
    exact rep_fold a m (acc ++ a)
/-- a text of one sign or more, from once on -/
def rRepS : R2 := fun x y H Q => ∃ (a : Str) (n : Nat), x = .str a ∧ y = .int (n : Int) ∧ 1 ≤ n ∧ n ≤ 10000 ∧ 1 ≤ a.length ∧ a.length ≤ 100 ∧ Q (.str (repS a n)) H
theorem op_repS {X : Cx} : OpR X (binaryOp .Mult) rRepS := by
  intro pins s σ H x y v u Q I rx ry h
  obtain ⟨a, n, rfl, rfl, h1, h2, h3, h4, q⟩ := h
  obtain ⟨t, rfl⟩ := rx
  obtain ⟨t', rfl⟩ := ry
  have hm : a.length * n ≤ 1000000 := Nat.le_trans (Nat.mul_le_mul h4 h2) (by decide)
  refine PySem.P.mul_str (by rw [decide_eq_false (by omega), decide_eq_false (by omega)] <;> rfl) (fun _ _ => ?_) (fun _ _ => ?_) ?_
  · have : (100 : Int) ≤ (2 ^ 63 - 1) / (n : Int) := by
      rw [Int.le_ediv_iff_mul_le (by omega)]
      omega
    omega
  · unfold Builtin.Str.tooLong
    rw [Int.toNat_natCast]
    exact decide_eq_false (by rw [sizeLine_eq]; omega)
  · rw [if_neg (by omega)]
    by_cases c : n = 1
    · subst c
      rw [if_pos (by rfl)]
      have e : repS a 1 = a := by unfold repS; simp
      rw [e] at q
      exact ⟨.str a, H, I, ⟨_, rfl⟩, q⟩
    · rw [if_neg (by
        have c1 : ((n : Int) == 1) = false := beq_eq_false_iff_ne.mpr (by omega)
        have c2 : (a.length == 0) = false := beq_eq_false_iff_ne.mpr (by omega)
        rw [c1, c2]
        decide), Int.toNat_natCast]
      have e : (List.replicate n a.cps).foldl (· ++ ·) #[] = (repS a n).cps := by
        have := rep_fold a.cps.toList n []
        simpa [repS] using this
      rw [e]
      refine ⟨?_, .str (repS a n), H, I.tok _, ⟨_, rfl⟩, q⟩
      show ((List.replicate n a.cps.toList).flatten.toArray).size ≤ _
      rw [List.size_toArray, List.length_flatten, List.map_replicate, List.sum_replicate_nat, sizeLine_eq]
      have el : a.cps.toList.length = a.length := by simp [Str.length]
      rw [el, Nat.mul_comm]
      omega

/-! ### a list comprehension whose element calls a def that may raise: the exception leaves the block and goes on in the def's own air -/
section
theorem cxok_xe {X : Cx} (o : X.Ok) (e : Value → Shared → Prop) : ({ X with xe := e } : Cx).Ok :=
  ⟨o.mod, o.kind, o.glob, o.blt, o.above, o.inj, o.has, o.cab, o.hd, o.frames, o.stk, o.exf, o.bs, o.bsz, o.noex, o.exfs, o.funs, o.frf⟩
theorem inv_xe {X : Cx} {pins : List (Addr × Obj)} {σ : L2.St} {H : Hp} {s : Shared} (I : L2.Inv X pins σ H s) (e : Value → Shared → Prop) : L2.Inv { X with xe := e } pins σ H s :=
  ⟨cxok_xe I.ok e, I.os, I.bare, I.base, I.loc, I.cell, I.free, I.freeC, I.pin, I.hok, I.len⟩
variable {X : Cx} {pins : List (Addr × Obj)} {σ : L2.St} {H H' : Hp} {s s' : Shared} {B : Heap} {W : WX} {E : XK} {cls : Value} {d : Option Addr} {a : Addr}
/-- an exception that this def's frame holds already -/
theorem xe_held (I : L2.Inv X pins σ H s) (hW : ∀ cls d H', E cls d H' → W cls d σ H') (hh : HandSPX.HeldZ B X.stack a (Zc cls d) X.env.locals s'.heap) (hok : HOk X.prog X.w H' B)
    (ub : UB (frs X.stack) H H' s.heap B s'.heap) (na : H' a = none) (os : s'.os = s.os) (ag : AllBare s'.gens) (hE : E cls d H') : XE X W (.ref a) s' := by
  obtain ⟨G, g1, g2⟩ := restrict s'.heap fun b => (B.get? b).isSome || decide (b ∈ frs X.stack)
  have st : B.StaysIn s'.heap := hh.1
  have inB : ∀ b o, B.get? b = some o → G.get? b = some o := fun b o e => (g1 b (by simp [e])).trans (st b o e)
  have out : ∀ b o, G.get? b = some o → s'.heap.get? b = some o ∧ (b ∈ frs X.stack ∨ ∃ o', B.get? b = some o') := fun b o e => by
    by_cases q : ((B.get? b).isSome || decide (b ∈ frs X.stack)) = true
    · refine ⟨(g1 b q).symm.trans e, ?_⟩
      rcases Bool.or_eq_true_iff.mp q with q | q
      · exact .inr (Option.isSome_iff_exists.mp q)
      · exact .inl (of_decide_eq_true q)
    · rw [g2 b (by simpa using q)] at e; cases e
  have up : G.UpToSlots s'.heap := Heap.UpToSlots.of_keeps fun b o e => (out b o e).1
  have nb : ∀ b o, G.get? b = some o → b ∉ frs X.stack → B.get? b = some o := fun b o e hb => by
    obtain ⟨e1, q | ⟨o', q⟩⟩ := out b o e
    · exact absurd q hb
    · have z := st b o' q
      rw [e1] at z; cases z; exact q
  have fr : ∀ b, b ∈ frs X.stack → G.get? b = s'.heap.get? b := fun b hb => g1 b (by simp [hb])
  refine ⟨a, B, { s with heap := G, gens := s'.gens, drawn := s'.drawn, toks := s'.toks }, pins, σ, H', cls, d, rfl, ?_, nb, up, .inr (.inr hh), na, os, ag, hW _ _ _ hE⟩
  refine I.call (ch := []) ⟨fun b o e n hb _ => inB b o (ub.keep b o e n hb), fun b o e _ hb _ => ?_, fun b o e n _ => ub.free b o e n, fun b o e _ => ?_, ub.tups, ub.frzs, ub.tbls⟩ (hok.kept inB) ag (fun _ z => nomatch z)
  · obtain ⟨sl, q⟩ := ub.slot b o e hb
    exact ⟨sl, (fr b hb).trans q⟩
  · by_cases hb : b ∈ frs X.stack
    · obtain ⟨sl, q⟩ := ub.slot b o e hb
      exact ⟨_, (fr b hb).trans q⟩
    · obtain ⟨o', q⟩ := ub.there b o e hb
      exact ⟨o', inB b o' q⟩
/-- hidden: all but C -/
theorem hid_ne {h : Heap} {C b : Addr} {o : Obj} (e : h.get? b = some o) (hb : b ≠ C) : (PySem.W.hideAll h [C]).get? b = some o := PySem.W.hideAll_get _ e (by simpa using hb)
theorem hid_of {h : Heap} {C b : Addr} {o : Obj} (e : (PySem.W.hideAll h [C]).get? b = some o) : h.get? b = some o ∧ b ≠ C :=
  ⟨PySem.W.of_hideAll _ e, fun z => by rw [z, PySem.W.hideAll_none [C] (by simp)] at e; cases e⟩
theorem hid_none {h : Heap} {C b : Addr} (e : h.get? b = none) : (PySem.W.hideAll h [C]).get? b = none := by
  cases q : (PySem.W.hideAll h [C]).get? b with
  | none => rfl
  | some o => have z := (hid_of q).1; rw [e] at z; cases z
theorem tracedZ_same {h h' : Heap} {C e : Addr} {Z : Obj → Prop} {fl : Value} {m : Str → Option Value} (hn : h.Ns C m) (sb : Heap.SameBut C h h') (t : HandSPX.TracedZ h B e Z fl) : HandSPX.TracedZ h' (PySem.W.hideAll B [C]) e Z fl := by
  obtain ⟨oe, vs, T, oT, ts, he, hz, hd, h1, hnT, hTe, hT, hdT, h3⟩ := t
  obtain ⟨oL, es, ep, hoL, hdL, r⟩ := hn
  have n1 : e ≠ C := fun z => by rw [z, hoL] at he; cases he; rw [hdL] at hd; cases hd
  have n2 : T ≠ C := fun z => by rw [z, hoL] at hT; cases hT; rw [hdL] at hdT; cases hdT
  exact ⟨oe, vs, T, oT, ts, (sb.2 e n1).trans he, hz, hd, h1, hid_none hnT, hTe, (sb.2 T n2).trans hT, hdT, h3⟩

/-- what a call in the element lets out goes on in the def's air -/
theorem block_raise {ce : Env} {C : Addr} {E₀ : XK} {m : Str → Option Value} (hs : X.stack = X.env :: X.outer) (hf : X.env.frame = some X.env.locals) (tk : Takes X (fun cls d _ H => E₀ cls d H))
    (hcl : ce.locals = C) (hcf : ce.frame = X.env.frame) (I : L2.Inv X pins σ H s) (f : FpOk X pins H C) (hn : s.heap.Ns C m) {u : Value} (c : CX X.prog X.w X.stack H s E₀ u s') :
    notedBy (model X.prog X.w) X.A ce (CompFails (model X.prog X.w) X.A X.xe ce) u s' := by
  obtain ⟨a, B, H', cls, d, rfl, fl, hok, ub, na, os, ag, hE⟩ := c
  obtain ⟨f0, f1, f2, f3, f4, f5⟩ := f
  have nC : C ∉ frs X.stack := fun hm => (List.mem_cons.mp (I.stkSub C hm)).elim f1 f2
  have hfr : X.A.frames = some (X.env :: X.outer) := by rw [I.ok.frames, hs]
  obtain ⟨oC, es, ep, hoC, hdC, rC⟩ := hn
  have hC' : s'.heap.get? C = some oC := fl.1 C oC (ub.keep C oC hoC f0 nC)
  have hnC : s'.heap.Ns C m := ⟨oC, es, ep, hC', hdC, rC⟩
  have H'C : H' C = none := ub.free C oC hoC f0
  show wpAny _ X.A (noteFrame (.ref a) ce) _ _ s'
  rw [noteFrame_env _ hcf]
  rw [hs] at fl
  refine HandSPX.looks_onZ Zc.steady hfr hf fl fun h1 hh1 up1 => ?_
  have hn1 : h1.Ns ce.locals m := by rw [hcl]; exact hnC.upToSlots fun b o e nf => up1 b o e nf
  refine ⟨m, hn1, fun h2 m2 hn2 sb => ?_⟩
  rw [hcl] at hn1 hn2 sb
  obtain ⟨b1, b0, fr1, t1⟩ := hh1
  have hidS : (PySem.W.hideAll B [C]).StaysIn h2 := fun b o e => (sb.2 b (hid_of e).2).trans (b1 b o (hid_of e).1)
  have fr2 : h2.FunFrames (PySem.W.hideAll B [C]) (X.env :: X.outer) := funFrames_none (Heap.FunFrames.sameBut sb hn2 fr1) fun L hL => hid_none ((fr1.mem hL).1)
  have t2 := tracedZ_same hn1 sb t1
  have hh2 : HandSPX.HeldZ (PySem.W.hideAll B [C]) (X.env :: X.outer) a (Zc cls d) X.env.locals h2 := ⟨hidS, hid_none b0, fr2, t2⟩
  obtain ⟨oe, vs, T, oT, ts, he, hz, hd, g1, r⟩ := t2
  unfold PySem.passOn
  refine wpAny_bind (wpAny_field he hd g1 ?_)
  rw [if_neg (show ¬ ((Value.ref T == Value.none) = true) from by simp), hcf, hf]
  refine wpAny_bind (HandSPX.setFlight_onZ (s := { s' with heap := h2 }) hh2 fun h3 hh3 up3 => ?_)
  refine wpAny_throw (tk _ _ ?_)
  have IX : L2.Inv X pins σ H { s with heap := PySem.W.hideAll s.heap [C], toks := s.toks } := I.turned (fun b o hb e => hid_ne e hb) f0 f1 f3 f4 f5
  refine xe_held (E := E₀) (B := PySem.W.hideAll B [C]) (cls := cls) (d := d) IX (fun _ _ _ z => z) (by rw [hs]; exact hh3) (fun b o q => (hok b o q).stay (fun c u hc e => hid_ne e fun z => ?_) (fun _ z => z) fun _ _ z => z) ⟨fun b o e n hb => hid_ne (ub.keep b o (hid_of e).1 n hb) (hid_of e).2, fun b o e hb => ?_,
    fun b o e n => ub.free b o (hid_of e).1 n, fun b o e hb => ?_, ub.tups, ub.frzs, ub.tbls⟩ na os ag hE
  · rcases hc with hc | hc
    · rw [← hc, z, H'C] at q; cases q
    · rw [z, H'C] at hc; cases hc
  · obtain ⟨e1, nb⟩ := hid_of e
    obtain ⟨sl, q⟩ := ub.slot b o e1 hb
    obtain ⟨_, o', e', nf⟩ := I.stack.mem hb
    rw [e1] at e'; cases e'
    obtain ⟨sl1, q1⟩ := up1 b _ q nf
    obtain ⟨sl3, q3⟩ := up3 b _ ((sb.2 b nb).trans q1) nf
    exact ⟨sl3, q3⟩
  · obtain ⟨e1, nb⟩ := hid_of e
    obtain ⟨o', q⟩ := ub.there b o e1 hb
    exact ⟨o', hid_ne q nb⟩

/-- [elt for target in iter if ..] as a value, in a def whose exceptions are E₀; the element's calls may let such ones out -/
theorem pe_lcX {elt tg iter : Expr} {ifs : List Expr} {scope : Scope} {own : List (Str × Nat)} {pos : Pos} {wi : TI} {g : TG} {tt : TT} {te : TE} {E₀ : XK} (hc : X.calm = true) (hN : X.N.Nodup)
    (hst : X.stack = X.env :: X.outer) (hfr : X.env.frame = some X.env.locals) (tk : Takes X (fun cls d _ H => E₀ cls d H)) (hi : PI X tg iter wi) (ok : BlkOk X.N X.env.scope scope own)
    (hg : ∀ (s : Shared) (H : Hp) (C : Addr) (cl : List (Str × Addr)) (fp : List Addr), PG (X.blk s H scope (compEnvC scope cl C X.env) fp) tg g) (ht : ∀ (s : Shared) (H : Hp) (C : Addr) (cl : List (Str × Addr)) (fp : List Addr), PTs (X.blk s H scope (compEnvC scope cl C X.env) fp) ifs tt)
    (he : ∀ (s : Shared) (H : Hp) (C : Addr) (cl : List (Str × Addr)) (fp : List Addr) (xe : Value → Shared → Prop), Passes (CX X.prog X.w) { X.blk s H scope (compEnvC scope cl C X.env) fp with xe := xe } E₀ → PE { X.blk s H scope (compEnvC scope cl C X.env) fp with xe := xe } elt te)
    (hs : ∀ x, foldedSetIterable iter X.env x = pure x := by intro _; rfl) : PE X (.ListComp elt [⟨tg, iter, ifs, 0⟩] scope pos) (tLc wi g tt te (own.map (·.2))) := by
  refine ⟨fun pins s σ H Q I h => ?_⟩
  rw [eval_ListComp]
  have free : ∀ y ∈ scope.names, y.2 = .free → ∃ c, X.env.cells.lookup y.1 = some c := fun y hy e => (ok.free y hy e).elim (fun k => I.ok.has _ (.inl k)) fun k => I.ok.has _ (.inr k)
  refine comprehension_at (use := none) rfl hs (closure_ok free) ok.kind (fun y hy e => by rw [ok.uniq y hy, e]) (thn (hi.run pins s σ H _ I h) fun xv s1 hx => thn hx fun itv s2 h2 => ?_)
  obtain ⟨it, fp, tn, J, H2, rfl, I2, T, st2, f2, q⟩ := h2
  refine wpAny_newObj_type (newEnv_comp ?_) (by show 0 ≤ sizeLine; decide)
  obtain ⟨D, hD⟩ : ∃ D, s2.heap.objs.size = D := ⟨_, rfl⟩
  obtain ⟨W, ⟨m0, w0⟩, turn⟩ := q D (I2.hok.fresh (Nat.le_of_eq hD))
  rw [hD]
  obtain ⟨s3, hs3⟩ : ∃ s3 : Shared, s3 = { s2 with heap := s2.heap.push { cls := .type "list", data := .seq ([] : List Value).toArray } } := ⟨_, rfl⟩
  have up3 : ∀ b o, s2.heap.get? b = some o → s3.heap.get? b = some o := fun b o e => by rw [hs3]; exact Heap.get?_push_of_some _ e
  have I3 : L2.Inv X pins σ (upd H2 D (.lst [])) s3 := by
    rw [hs3]
    exact I2.laid (t' := s2.toks) (fun b o e => Heap.get?_push_of_some _ e) (Nat.le_of_eq hD) ⟨Nat.zero_le _, [], 0, .nil, by rw [← hD]; exact Heap.get?_push_size _ rfl⟩
  obtain ⟨H3, hH3⟩ : ∃ H3, H3 = upd H2 D (.lst []) := ⟨_, rfl⟩
  rw [← hH3] at I3 w0
  have f3 : ∀ b ∈ fp, FpOk X pins H3 b ∧ b < s3.heap.objs.size := fun b hb => by
    obtain ⟨o, e, _⟩ := T.obj _ _ st2 b hb
    refine ⟨⟨?_, (f2 b hb).2⟩, Heap.lt_size (up3 b o e)⟩
    rw [hH3, upd_ne (by rw [← hD]; exact Nat.ne_of_lt (Heap.lt_size e))]
    exact (f2 b hb).1
  have I4 := block_start I3 ok hN f3
  rw [show ({ s2 with heap := s2.heap.push { cls := .type "list", data := .seq ([] : List Value).toArray } } : Shared) = s3 from hs3.symm]
  obtain ⟨cl, hcl⟩ : ∃ cl, cl = cellsFrom (s3.heap.objs.size + 1) scope.names (cloFrom X.env.cells scope.names []) := ⟨_, rfl⟩
  have pg := hg s3 H3 s3.heap.objs.size cl fp
  have pt := ht s3 H3 s3.heap.objs.size cl fp
  have pe := he s3 H3 s3.heap.objs.size cl fp (notedBy (model X.prog X.w) X.A (compEnvC scope cl s3.heap.objs.size X.env) (CompFails (model X.prog X.w) X.A X.xe (compEnvC scope cl s3.heap.objs.size X.env)))
  show codeAny _ _ (.compStart (.ListComp elt [⟨tg, iter, ifs, 0⟩] scope pos) 0 (.ref it) (.ref D) (compEnvC scope (cellsFrom (s3.heap.objs.size + 1) scope.names (cloFrom X.env.cells scope.names [])) s3.heap.objs.size X.env))
    (compEnds (model X.prog X.w) X.A X.xe none (EP X pins σ Q) (.ref D) (compEnvC scope (cellsFrom (s3.heap.objs.size + 1) scope.names (cloFrom X.env.cells scope.names [])) s3.heap.objs.size X.env)) { s3 with heap := pushCells (s3.heap.push { cls := .type "dict", data := .dict #[] }) scope.names }
  rw [← hcl] at I4 ⊢
  obtain ⟨ce, hce⟩ : ∃ ce, ce = compEnvC scope cl s3.heap.objs.size X.env := ⟨_, rfl⟩
  have cL : ce.locals = s3.heap.objs.size := by rw [hce]; rfl
  have cF : ce.frame = X.env.frame := by rw [hce]; rfl
  rw [← hce] at I4 pg pt pe ⊢
  obtain ⟨s4, hs4⟩ : ∃ s4 : Shared, s4 = { s3 with heap := pushCells (s3.heap.push { cls := .type "dict", data := .dict #[] }) scope.names } := ⟨_, rfl⟩
  rw [← hs4] at I4 ⊢
  have st4 : tn 0 s4.heap := T.keep _ _ _ st2 fun b _ o e => by rw [hs4]; exact pushCells_keeps _ _ _ _ (Heap.get?_push_of_some _ (up3 b o e))
  -- a state of the block, read as a state of the def
  have home : ∀ {pb : List (Addr × Obj)} {σ' : L2.St} {H' : Hp} {s' : Shared}, L2.Inv (X.blk s3 H3 scope ce fp) pb σ' H' s' → L2.Inv X pins σ H' s' ∧ FpOk X pins H' s3.heap.objs.size ∧ ∃ m, s'.heap.Ns s3.heap.objs.size m := fun {pb σ' H' s'} Ib => by
    have nC : H' ce.locals = none := Ib.free
    obtain ⟨m, hn, _⟩ := Ib.loc
    have hn : s'.heap.Ns ce.locals m := hn
    rw [cL] at nC hn
    exact ⟨I3.call' (ch := fp) Ib.os Ib.base Ib.hok Ib.bare fun b hb => ⟨(f3 b hb).1.2.2.2.1, (f3 b hb).1.2.1, (f3 b hb).1.2.2.2.2.1, (f3 b hb).1.2.2.2.2.2⟩, I3.fpOk (Nat.le_refl _) nC, m, hn⟩
  have pe := pe fun pb σ' H' s' u s'' Ib c => by
    obtain ⟨IX, f, m, hn⟩ := home (inv_xe Ib fun _ _ => False)
    exact block_raise hst hfr tk cL cF IX f hn c
  have stat : ∀ {σ' : L2.St} {H' : Hp} {s' : Shared}, L2.Inv (X.blk s3 H3 scope ce fp) [] σ' H' s' → (∀ b ∈ fp, H' b = none) → ∀ b ∈ fp, FpOk (X.blk s3 H3 scope ce fp) [] H' b := fun {σ' H' s'} Ib hn b hb =>
    ⟨hn b hb, (Ib.ok.exf b hb).1, Ib.ok.exfs b hb, .inl hb, fun x c e => (Ib.ok.exf b hb).2 x c e, fun p hp => absurd (show p ∈ ([] : List (Addr × Obj)) ++ [] from hp) (by simp)⟩
  have loop : codeAny (model X.prog X.w) X.A (.compLoop (.ListComp elt [⟨tg, iter, ifs, 0⟩] scope pos) 0 (.ref it) (.ref D) ce) (compEnds (model X.prog X.w) X.A X.xe none (EP X pins σ Q) (.ref D) ce) s4 := by
    refine compLoop_any (fun n s' => ∃ i H', L2.Inv (X.blk s3 H3 scope ce fp) [] (wipe σ (own.map (·.2))) H' s' ∧ tn i s'.heap ∧ (∀ b ∈ fp, H' b = none) ∧ W i n H') ?_ m0 ⟨0, H3, I4, st4, fun b hb => (f3 b hb).1.1, w0⟩
    rintro n s5 ⟨i, H5, I5, st5, n5, w5⟩
    rcases turn i n H5 w5 with ⟨stop, qq⟩ | ⟨go, Nx, hNx, step⟩
    · refine thnF (T.done (X.blk s3 H3 scope ce fp) rfl rfl rfl hc i [] s5 _ H5 (fun _ _ => False) I5 (stat I5 n5) st5 stop) fun r s6 ⟨hr, I6⟩ => ?_
      subst hr
      obtain ⟨I7, ⟨f0, f1, f2', f3', f4, f5⟩, m, hn⟩ := home I6
      refine ⟨m, by rw [cL]; exact hn, fun h'' sb => ?_⟩
      rw [cL] at sb
      exact ⟨.ref D, H5, I7.turned (t' := s6.toks) (fun b o hb e => (sb.2 b hb).trans e) f0 f1 f3' f4 f5, rfl, qq⟩
    · refine thnF (T.item (X.blk s3 H3 scope ce fp) rfl rfl rfl hc i [] s5 _ H5 (fun _ _ => False) I5 (stat I5 n5) st5 go) fun r s6 ⟨u, hr, h6⟩ => ?_
      subst hr
      refine thnF h6 fun _ s7 ⟨x, H7, I7, r7, y7, st7, n7⟩ => ?_
      refine thnF (pg.run _ s7 _ H7 x u _ (I7.pinned (stat I7 n7) (T.obj _ _ st7)) r7 (step x H7 y7)) fun _ s8 ⟨σ8, H8, I8, hw8, q8⟩ => ?_
      refine thnF (pt.run _ s8 σ8 H8 _ I8 q8) fun b s9 ⟨H9, I9, q9⟩ => ?_
      have fin : ∀ {s' : Shared} {H' : Hp}, L2.Inv (X.blk s3 H3 scope ce fp) ([] ++ pinsAt fp s7.heap) σ8 H' s' → Nx H' → ∃ m, m < n ∧ ∃ i H', L2.Inv (X.blk s3 H3 scope ce fp) [] (wipe σ (own.map (·.2))) H' s' ∧ tn i s'.heap ∧ (∀ b ∈ fp, H' b = none) ∧ W i m H' := fun {s' H'} Ib nx => by
        obtain ⟨m', hm, w'⟩ := hNx H' nx
        have still : ∀ b ∈ fp, ∀ o, s7.heap.get? b = some o → s'.heap.get? b = some o ∧ H' b = none := fun b hb o e =>
          let z := Ib.pin (b, o) (List.mem_append_right _ (List.mem_append_right _ (mem_pinsAt hb e)))
          ⟨z.1, z.2.1⟩
        refine ⟨m', hm, i + 1, H', (Ib.unpinned (pins := [])).weak (by rw [← hw8, wipe_length]) (fun j v e => by rw [← hw8] at e; exact (wipe_some e).1), T.keep _ _ _ st7 fun b hb o e => (still b hb o e).1, fun b hb => ?_, w'⟩
        obtain ⟨o, e, _⟩ := T.obj _ _ st7 b hb
        exact (still b hb o e).2
      cases b with
      | false =>
        simp only [Bool.false_eq_true, if_false] at q9 ⊢
        exact fin I9 q9
      | true =>
        simp only [if_true] at q9 ⊢
        refine thn (pe.run _ s9 σ8 H9 _ (inv_xe I9 _) q9) fun z s10 ⟨yv, H10, I10, r10, acc, hD10, hz10, nx⟩ => ?_
        exact app_ok (X := X.blk s3 H3 scope ce fp) (inv_xe I10 fun _ _ => False) hD10 hz10 r10 fun s11 I11 => fin I11 nx
  exact codeAny_compStart_list loop (T.self X.A 0 _ _ _ st4 loop)
end

def top (i : Nat) : Stmt := PySem.Challenge.pw_mastword_k45_texts_that_are_no_deeds.main.body.getD i (.Pass ⟨0, 0, 0, 0⟩)
abbrev s_p_is_word : Stmt := top 6
theorem sc_p_is_word : FnScope ["text", "letter"] ["text"] (defScope s_p_is_word) := ⟨rfl, rfl, rfl, by decide +kernel, rfl, by decide +kernel, by decide +kernel⟩
abbrev s_p_is_number : Stmt := top 14
theorem sc_p_is_number : FnScope ["text", "plain", "figure"] ["text"] (defScope s_p_is_number) := ⟨rfl, rfl, rfl, by decide +kernel, rfl, by decide +kernel, by decide +kernel⟩
abbrev s_p_read_part : Stmt := top 15
theorem sc_p_read_part : FnScope ["kind", "text"] ["kind", "text"] (defScope s_p_read_part) := ⟨rfl, rfl, rfl, by decide +kernel, rfl, by decide +kernel, by decide +kernel⟩
abbrev s_p_read_parts : Stmt := top 16
theorem sc_p_read_parts : FnScope ["kinds", "texts", "kind", "text"] ["kinds", "texts"] (defScope s_p_read_parts) := ⟨rfl, rfl, rfl, by decide +kernel, rfl, by decide +kernel, by decide +kernel⟩
abbrev s_p_read_deed : Stmt := top 17
theorem sc_p_read_deed : FnScope ["text", "name", "texts", "kinds", "parts"] ["text"] (defScope s_p_read_deed) := ⟨rfl, rfl, rfl, by decide +kernel, rfl, by decide +kernel, by decide +kernel⟩
abbrev s_l_cell : Stmt := top 19
theorem sc_l_cell : FnScope ["_law_script", "_law_at"] ["_law_script", "_law_at"] (defScope s_l_cell) := ⟨rfl, rfl, rfl, by decide +kernel, rfl, by decide +kernel, by decide +kernel⟩
abbrev s_l_row : Stmt := top 20
theorem sc_l_row : FnScope ["_law_cell_here", "_law_many", "_law_size", "_law_row_here", "_law_rest", "_law_k", "_law_seed", "_law_mixed"] ["_law_cell_here", "_law_many", "_law_size"] (defScope s_l_row) := ⟨rfl, rfl, rfl, by decide +kernel, rfl, by decide +kernel, by decide +kernel⟩
abbrev s_l_like : Stmt := top 21
theorem sc_l_like : FnScope ["_law_found", "_law_due", "_law_k"] ["_law_found", "_law_due"] (defScope s_l_like) := ⟨rfl, rfl, rfl, by decide +kernel, rfl, by decide +kernel, by decide +kernel⟩
abbrev s_l_word : Stmt := top 22
theorem sc_l_word : FnScope ["_law_cell_here", "_law_nums", "_law_some", "_law_num", "_law_size"] ["_law_cell_here"] (defScope s_l_word) := ⟨rfl, rfl, rfl, by decide +kernel, rfl, by decide +kernel, by decide +kernel⟩
abbrev s_l_is_word : Stmt := top 23
theorem sc_l_is_word : FnScope ["_law_text", "_law_sign"] ["_law_text"] (defScope s_l_is_word) := ⟨rfl, rfl, rfl, by decide +kernel, rfl, by decide +kernel, by decide +kernel⟩
abbrev s_l_any_deed : Stmt := top 24
theorem sc_l_any_deed : FnScope ["_law_cell_here", "_law_nums", "_law_kinds", "_law_kind", "_law_some", "_law_num", "_law_way"] ["_law_cell_here"] (defScope s_l_any_deed) := ⟨rfl, rfl, rfl, by decide +kernel, rfl, by decide +kernel, by decide +kernel⟩
abbrev s_l_part : Stmt := top 25
theorem sc_l_part : FnScope ["_law_kind", "_law_text", "_law_sign"] ["_law_kind", "_law_text"] (defScope s_l_part) := ⟨rfl, rfl, rfl, by decide +kernel, rfl, by decide +kernel, by decide +kernel⟩
abbrev s_l_meant : Stmt := top 26
theorem sc_l_meant : FnScope ["_law_text", "_law_parts", "_law_kinds", "_law_name", "_law_kind", "_law_form", "_law_found", "_law_k"] ["_law_text"] (defScope s_l_meant) := ⟨rfl, rfl, rfl, by decide +kernel, rfl, by decide +kernel, by decide +kernel⟩
abbrev s_l_spoilt : Stmt := top 27
theorem sc_l_spoilt : FnScope ["_law_text", "_law_cell_here", "_law_nums", "_law_signs", "_law_sign", "_law_at", "_law_parts", "_law_k", "_law_way"] ["_law_text", "_law_cell_here"] (defScope s_l_spoilt) := ⟨rfl, rfl, rfl, by decide +kernel, rfl, by decide +kernel, by decide +kernel⟩
abbrev s_l_told : Stmt := top 28
theorem sc_l_told : FnScope ["_law_text", "_law_told_here", "e"] ["_law_text"] (defScope s_l_told) := ⟨rfl, rfl, rfl, by decide +kernel, rfl, by decide +kernel, by decide +kernel⟩
abbrev s_law : Stmt := top 29
theorem sc_law : FnScope ["_law_script", "_law_text", "_law_part_here", "_law_one", "_law_other", "_law_line"] ["_law_script"] (defScope s_law) := ⟨rfl, rfl, rfl, by decide +kernel, rfl, by decide +kernel, by decide +kernel⟩
structure Txt (K : PySem.W.Frag) (mg : Str → Option Value) where
  a_MastError : Addr
  a_BadLine : Addr
  g_MastError : mg "MastError" = some (.ref a_MastError)
  x_MastError : PySem.W.excIn K a_MastError [.type "ValueError", .type "Exception", .type "BaseException", .type "object"] "ValueError.__new__" = true
  k_MastError : PySem.W.keepIn K (.ref a_MastError) = true
  b_MastError : PySem.W.subIn K (.ref a_MastError) (.type "BaseException") = some true
  t_MastError : PySem.W.typeIn K (.ref a_MastError) = some (.type "type")
  i_MastError : PySem.W.isClsIn K a_MastError = true
  h_MastError : PySem.W.hasDictIn K a_MastError = true
  ga_MastError : PySem.W.findIn K (.ref a_MastError) "__getattribute__" = some (some (.builtin "BaseException.__getattribute__"))
  gg_MastError : PySem.W.findIn K (.ref a_MastError) "__getattr__" = some none
  cl_MastError : PySem.W.findIn K (.ref a_MastError) "__class__" = some (some (.builtin "object.__class__"))
  mo_MastError : PySem.W.mroIn K a_MastError (.type "object") = some true
  v_MastError : PySem.W.subIn K (.ref a_MastError) (.type "ValueError") = some true
  s_MastError_MastError : PySem.W.subIn K (.ref a_MastError) (.ref a_MastError) = some true
  g_BadLine : mg "BadLine" = some (.ref a_BadLine)
  x_BadLine : PySem.W.excIn K a_BadLine [.type "ValueError", .type "Exception", .type "BaseException", .type "object"] "ValueError.__new__" = true
  k_BadLine : PySem.W.keepIn K (.ref a_BadLine) = true
  b_BadLine : PySem.W.subIn K (.ref a_BadLine) (.type "BaseException") = some true
  t_BadLine : PySem.W.typeIn K (.ref a_BadLine) = some (.type "type")
  i_BadLine : PySem.W.isClsIn K a_BadLine = true
  h_BadLine : PySem.W.hasDictIn K a_BadLine = true
  ga_BadLine : PySem.W.findIn K (.ref a_BadLine) "__getattribute__" = some (some (.builtin "BaseException.__getattribute__"))
  gg_BadLine : PySem.W.findIn K (.ref a_BadLine) "__getattr__" = some none
  cl_BadLine : PySem.W.findIn K (.ref a_BadLine) "__class__" = some (some (.builtin "object.__class__"))
  mo_BadLine : PySem.W.mroIn K a_BadLine (.type "object") = some true
  v_BadLine : PySem.W.subIn K (.ref a_BadLine) (.type "ValueError") = some true
  s_BadLine_MastError : PySem.W.subIn K (.ref a_BadLine) (.ref a_MastError) = some true
  s_BadLine_BadLine : PySem.W.subIn K (.ref a_BadLine) (.ref a_BadLine) = some true
  f_p_is_word : Addr
  d_p_is_word : FuncData
  c_tab : Addr
  P_tab : Addr
  W_p_is_word : FunC K "is_word" "is_word" s_p_is_word f_p_is_word d_p_is_word c_tab
  F_p_is_word : Fun K "is_word" "is_word" s_p_is_word f_p_is_word d_p_is_word
  b_p_is_word : Binds K d_p_is_word ["text"] []
  g_p_is_word : mg "is_word" = some (.ref f_p_is_word)
  f_p_is_number : Addr
  d_p_is_number : FuncData
  c_tabN : Addr
  P_tabN : Addr
  W_p_is_number : FunC K "is_number" "is_number" s_p_is_number f_p_is_number d_p_is_number c_tabN
  F_p_is_number : Fun K "is_number" "is_number" s_p_is_number f_p_is_number d_p_is_number
  b_p_is_number : Binds K d_p_is_number ["text"] []
  g_p_is_number : mg "is_number" = some (.ref f_p_is_number)
  f_p_read_part : Addr
  d_p_read_part : FuncData
  F_p_read_part : Fun K "read_part" "read_part" s_p_read_part f_p_read_part d_p_read_part
  b_p_read_part : Binds K d_p_read_part ["kind", "text"] []
  g_p_read_part : mg "read_part" = some (.ref f_p_read_part)
  f_p_read_parts : Addr
  d_p_read_parts : FuncData
  F_p_read_parts : Fun K "read_parts" "read_parts" s_p_read_parts f_p_read_parts d_p_read_parts
  b_p_read_parts : Binds K d_p_read_parts ["kinds", "texts"] []
  g_p_read_parts : mg "read_parts" = some (.ref f_p_read_parts)
  f_p_read_deed : Addr
  d_p_read_deed : FuncData
  F_p_read_deed : Fun K "read_deed" "read_deed" s_p_read_deed f_p_read_deed d_p_read_deed
  b_p_read_deed : Binds K d_p_read_deed ["text"] []
  g_p_read_deed : mg "read_deed" = some (.ref f_p_read_deed)
  f_l_cell : Addr
  d_l_cell : FuncData
  F_l_cell : Fun K "_law_cell" "_law_cell" s_l_cell f_l_cell d_l_cell
  b_l_cell : Binds K d_l_cell ["_law_script", "_law_at"] []
  g_l_cell : mg "_law_cell" = some (.ref f_l_cell)
  f_l_row : Addr
  d_l_row : FuncData
  F_l_row : Fun K "_law_row" "_law_row" s_l_row f_l_row d_l_row
  b_l_row : Binds K d_l_row ["_law_cell_here", "_law_many", "_law_size"] []
  g_l_row : mg "_law_row" = some (.ref f_l_row)
  f_l_like : Addr
  d_l_like : FuncData
  F_l_like : Fun K "_law_like" "_law_like" s_l_like f_l_like d_l_like
  b_l_like : Binds K d_l_like ["_law_found", "_law_due"] []
  g_l_like : mg "_law_like" = some (.ref f_l_like)
  f_l_word : Addr
  d_l_word : FuncData
  F_l_word : Fun K "_law_word" "_law_word" s_l_word f_l_word d_l_word
  b_l_word : Binds K d_l_word ["_law_cell_here"] []
  g_l_word : mg "_law_word" = some (.ref f_l_word)
  f_l_is_word : Addr
  d_l_is_word : FuncData
  F_l_is_word : Fun K "_law_is_word" "_law_is_word" s_l_is_word f_l_is_word d_l_is_word
  b_l_is_word : Binds K d_l_is_word ["_law_text"] []
  g_l_is_word : mg "_law_is_word" = some (.ref f_l_is_word)
  f_l_any_deed : Addr
  d_l_any_deed : FuncData
  F_l_any_deed : Fun K "_law_any_deed" "_law_any_deed" s_l_any_deed f_l_any_deed d_l_any_deed
  b_l_any_deed : Binds K d_l_any_deed ["_law_cell_here"] []
  g_l_any_deed : mg "_law_any_deed" = some (.ref f_l_any_deed)
  f_l_part : Addr
  d_l_part : FuncData
  F_l_part : Fun K "_law_part" "_law_part" s_l_part f_l_part d_l_part
  b_l_part : Binds K d_l_part ["_law_kind", "_law_text"] []
  g_l_part : mg "_law_part" = some (.ref f_l_part)
  f_l_meant : Addr
  d_l_meant : FuncData
  F_l_meant : Fun K "_law_meant" "_law_meant" s_l_meant f_l_meant d_l_meant
  b_l_meant : Binds K d_l_meant ["_law_text"] []
  g_l_meant : mg "_law_meant" = some (.ref f_l_meant)
  f_l_spoilt : Addr
  d_l_spoilt : FuncData
  F_l_spoilt : Fun K "_law_spoilt" "_law_spoilt" s_l_spoilt f_l_spoilt d_l_spoilt
  b_l_spoilt : Binds K d_l_spoilt ["_law_text", "_law_cell_here"] []
  g_l_spoilt : mg "_law_spoilt" = some (.ref f_l_spoilt)
  f_l_told : Addr
  d_l_told : FuncData
  F_l_told : Fun K "_law_told" "_law_told" s_l_told f_l_told d_l_told
  b_l_told : Binds K d_l_told ["_law_text"] []
  g_l_told : mg "_law_told" = some (.ref f_l_told)
  u_LETTERS : Value
  c_LETTERS : mg "LETTERS" = some u_LETTERS
  r_LETTERS : RelV (.str "abcdefghijklmnopqrstuvwxyz") u_LETTERS
  u_LONGEST_WORD : Value
  c_LONGEST_WORD : mg "LONGEST_WORD" = some u_LONGEST_WORD
  r_LONGEST_WORD : RelV (.int 12) u_LONGEST_WORD
  u_UP : Value
  c_UP : mg "UP" = some u_UP
  r_UP : RelV (.str "up") u_UP
  u_DOWN : Value
  c_DOWN : mg "DOWN" = some u_DOWN
  r_DOWN : RelV (.str "down") u_DOWN
  u_FIGURES : Value
  c_FIGURES : mg "FIGURES" = some u_FIGURES
  r_FIGURES : RelV (.str "0123456789") u_FIGURES
  u_MOST_FIGURES : Value
  c_MOST_FIGURES : mg "MOST_FIGURES" = some u_MOST_FIGURES
  r_MOST_FIGURES : RelV (.int 6) u_MOST_FIGURES
  a_PARTS : Addr
  c_PARTS : mg "PARTS" = some (.ref a_PARTS)
  es_PARTS : Array DictEntry
  n_PARTS : Nat
  at_PARTS : K.lookup a_PARTS = some ⟨.type "dict", none, .dict es_PARTS n_PARTS, #[]⟩
  ka_PARTS : KeysAre es_PARTS.toList ["send", "express", "say", "recall", "act", "slip", "doze", "wake", "fog", "lift", "beat", "settle", "turn", "lose", "burn", "ask", "enter", "strike"]
  pk_PARTS_send : PartK K a_PARTS "send" ["way", "number"]
  pk_PARTS_express : PartK K a_PARTS "express" ["way", "number"]
  pk_PARTS_say : PartK K a_PARTS "say" ["way", "word"]
  pk_PARTS_recall : PartK K a_PARTS "recall" ["way"]
  pk_PARTS_act : PartK K a_PARTS "act" ["number"]
  pk_PARTS_slip : PartK K a_PARTS "slip" ["number", "number", "number"]
  pk_PARTS_doze : PartK K a_PARTS "doze" ["number"]
  pk_PARTS_wake : PartK K a_PARTS "wake" ["number"]
  pk_PARTS_fog : PartK K a_PARTS "fog" ["number"]
  pk_PARTS_lift : PartK K a_PARTS "lift" ["number"]
  pk_PARTS_beat : PartK K a_PARTS "beat" []
  pk_PARTS_settle : PartK K a_PARTS "settle" []
  pk_PARTS_turn : PartK K a_PARTS "turn" []
  pk_PARTS_lose : PartK K a_PARTS "lose" ["way", "number", "number"]
  pk_PARTS_burn : PartK K a_PARTS "burn" ["number"]
  pk_PARTS_ask : PartK K a_PARTS "ask" ["way", "number", "number"]
  pk_PARTS_enter : PartK K a_PARTS "enter" ["number", "number", "word"]
  pk_PARTS_strike : PartK K a_PARTS "strike" ["number", "number"]
  a_WITH_LISTS : Addr
  c_WITH_LISTS : mg "WITH_LISTS" = some (.ref a_WITH_LISTS)
  t_WITH_LISTS : KTup K a_WITH_LISTS ["send", "express", "say"]
  m_all : mg "all" = none
  m_len : mg "len" = none
  m_int : mg "int" = none
  m_zip : mg "zip" = none
  m_range : mg "range" = none
  m_isinstance : mg "isinstance" = none
  m_bool : mg "bool" = none
  m_str : mg "str" = none
  m_list : mg "list" = none
  m_tuple : mg "tuple" = none
  m_max : mg "max" = none
  m_ValueError : mg "ValueError" = none
  oc_get : PySem.W.specialIn K (.builtin "object.__class__") "__get__" = some (some (.builtin "getset_descriptor.__get__"))
  oc_tak : PySem.W.takesIn K (.builtin "object.__class__") = some true
section
variable {P : Program} {w : World} {K : PySem.W.Frag} {mg : Str → Option Value} {base : Heap}
/-! ### _law_cell: an int of the script -/
def cellV (ns : List Int) (j : Nat) : Int :=
  if j < ns.length then ns.getD j 0 else if ns.length = 0 then 29 * (j : Int) + 5 else ns.getD (j % ns.length) 0 % 1000003 + 103 * (j : Int)
def sp_l_cell (K : PySem.W.Frag) : Sp := fun vs H Q _ => ∃ (l : Addr) (ns : List Int) (j : Nat), vs = [.ref l, .int j] ∧ SqL K H l (ns.map V.int) ∧ j ≤ 100000 ∧ Q (.int (cellV ns j)) H
theorem getD_at {ns : List Int} {j : Nat} (h : j < ns.length) : atI (ns.map V.int) (j : Int) = some (.int (ns.getD j 0)) := by
  rw [at_int h, List.getD_eq_getElem?_getD, List.getElem?_eq_getElem h]
  rfl
theorem ok_l_cell (T : Txt K mg) : FnOk P w K mg base CX0 1 T.f_l_cell T.d_l_cell ["_law_script", "_law_at"] (sp_l_cell K) := by
  refine T.F_l_cell.ok sc_l_cell (fun vs H Q E h => ?_) (fun cdv A outer s H vs Q E hr h => ?_)
  · obtain ⟨l, ns, j, rfl, _⟩ := h
    rfl
  · obtain ⟨l, ns, j, rfl, hS, hj, k⟩ := h
    have hlen : ((ns.map V.int).length : Int) = (ns.length : Int) := by rw [List.length_map]
    refine ⟨_, (pss_cons (ps_if (pt_cmpR op_lt (pv 1) (pe_callB call_len_seq (by rfl) T.m_len PySem.boot_len (pa_cons (pv 0) pa_nil)) (nomark _))
      (pss_one (ps_ret (pe_ix ix_list (pv 0) (pv 1) (fun _ _ => rfl))))
      pss_nil)
      (pss_cons (ps_if (pt_cmpR op_eq (pe_callB call_len_seq (by rfl) T.m_len PySem.boot_len (pa_cons (pv 0) pa_nil)) pe_int (nomark _))
      (pss_one (ps_ret (pe_op op_add (pe_op op_mul pe_int (pv 1)) pe_int)))
      pss_nil)
      (pss_one (ps_ret (pe_op op_add (pe_op op_mod (pe_ix ix_list (pv 0) (pe_op op_mod (pv 1) (pe_callB call_len_seq (by rfl) T.m_len PySem.boot_len (pa_cons (pv 0) pa_nil))) (fun _ _ => rfl)) pe_int) (pe_op op_mul pe_int (pv 1))))))), ?_⟩
    refine ⟨_, rfl, _, rfl, l, _, rfl, .inl hS, _, _, rfl, rfl, _, rfl, iteD (fun c => ?_) (fun c => ?_)⟩
    · rw [hlen] at c
      refine ⟨_, rfl, _, rfl, l, _, _, _, rfl, rfl, hS, getD_at (show j < ns.length by omega), ?_⟩
      have e : cellV ns j = ns.getD j 0 := if_pos (by omega)
      rw [e] at k
      exact k
    · rw [hlen] at c
      refine ⟨_, rfl, l, _, rfl, .inl hS, rfl, _, rfl, iteD (fun c2 => ?_) (fun c2 => ?_)⟩
      · have c3 : (ns.length : Int) = 0 := by
          have z := V.int.inj c2
          rw [hlen] at z
          exact z
        have e : cellV ns j = 29 * (j : Int) + 5 := by
          unfold cellV
          rw [if_neg (by omega), if_pos (by omega)]
        rw [e] at k
        exact ⟨_, rfl, _, _, rfl, rfl, .inl ⟨by decide, by decide⟩, _, _, rfl, rfl, k⟩
      · have c3 : ns.length ≠ 0 := fun z => c2 (by rw [hlen, z]; rfl)
        have hm : j % ns.length < ns.length := Nat.mod_lt _ (by omega)
        have e : cellV ns j = ns.getD (j % ns.length) 0 % 1000003 + 103 * (j : Int) := by
          unfold cellV
          rw [if_neg (by omega), if_neg c3]
        rw [e] at k
        have ea : atI (ns.map V.int) ((j : Int) % ((ns.map V.int).length : Int)) = some (.int (ns.getD (j % ns.length) 0)) := by
          rw [hlen, ← Int.natCast_emod]
          exact getD_at hm
        exact ⟨_, rfl, _, rfl, _, rfl, l, _, rfl, .inl hS, _, _, rfl, rfl, (by show (0 : Int) < ((ns.map V.int).length : Int); rw [hlen]; omega), l, _, _, _, rfl, rfl, hS, ea, _, _, rfl, rfl, (by show (0 : Int) < 1000003; decide), _, rfl, _, _, rfl, rfl, .inl ⟨by decide, by decide⟩, _, _, rfl, rfl, k⟩
/-! ### _law_like of one datum with itself -/
inductive Dn : Nat → PyData → Prop
  | non (n : Nat) : Dn (n + 1) .none
  | bl (n : Nat) (b : Bool) : Dn (n + 1) (.bool b)
  | int (n : Nat) (i : Int) : Dn (n + 1) (.int i)
  | str (n : Nat) (x : Str) : Dn (n + 1) (.str x)
  | lst {n : Nat} {ds : List PyData} : (∀ d ∈ ds, Dn n d) → ds.length ≤ 10000 → Dn (n + 1) (.list ds)
  | tup {n : Nat} {ds : List PyData} : (∀ d ∈ ds, Dn n d) → ds.length ≤ 10000 → Dn (n + 1) (.tuple ds)
def tyN : PyData → String
  | .none => "NoneType" | .bool _ => "bool" | .int _ => "int" | .str _ => "str" | .list _ => "list" | .tuple _ => "tuple" | .dict _ => "dict"
theorem ty_of {K : PySem.W.Frag} {H : Hp} {v : V} {d : PyData} (h : Dp K H v d) : TyX K H v (.type (tyN d)) := by
  cases h with
  | non => exact .base .non
  | bl b => exact .base (.bl b)
  | int i => exact .base (.int i)
  | str x => exact .base (.str x)
  | lst h _ =>
    rcases h with (h | ⟨o, h⟩) | ⟨o, its, n, e, c, _⟩
    · exact .base (.lst h)
    · exact .base (.frz h)
    · exact .kList e c
  | tup h _ =>
    rcases h with (h | ⟨o, h⟩) | ⟨o, its, n, e, c, _⟩
    · exact .base (.tup h)
    · exact .fTuple h
    · exact .kTuple e c
def sp_l_like (K : PySem.W.Frag) (n : Nat) : Sp := fun vs H Q _ => ∃ (u v : V) (d : PyData), vs = [u, v] ∧ Dp K H u d ∧ Dp K H v d ∧ Dn n d ∧ ∀ H', Kp H H' → Q (.bl true) H'
theorem fn_none {P : Program} {w : World} {K : PySem.W.Frag} {mg : Str → Option Value} {base : Heap} {f : Addr} {fd : FuncData} {ps : List Str} {sp : Sp} {k : Nat} (h : ∀ vs H Q E, ¬ sp vs H Q E) : FnOk P w K mg base CX0 k f fd ps sp :=
  ⟨fun vs H Q E q => (h vs H Q E q).elim, fun _ _ _ H _ _ vs Q E _ _ _ _ q => (h vs H Q E q).elim⟩
theorem bl_all {n : Nat} : ((List.replicate n true).map V.bl) = List.replicate n (V.bl true) := List.map_replicate
theorem all_rep (n : Nat) : (List.replicate n true).all id = true := by
  rw [List.all_eq_true]
  intro x hx
  rw [List.eq_of_mem_replicate hx]
  rfl
theorem k_bb : kitB "bool" "bool" = some true := by decide +kernel
theorem k_bi : kitB "bool" "int" = some true := by decide +kernel
theorem k_bs : kitB "bool" "str" = some false := by decide +kernel
theorem k_bl : kitB "bool" "list" = some false := by decide +kernel
theorem k_bt : kitB "bool" "tuple" = some false := by decide +kernel
theorem k_ib : kitB "int" "bool" = some false := by decide +kernel
theorem k_ii : kitB "int" "int" = some true := by decide +kernel
theorem k_is : kitB "int" "str" = some false := by decide +kernel
theorem k_il : kitB "int" "list" = some false := by decide +kernel
theorem k_it : kitB "int" "tuple" = some false := by decide +kernel
theorem k_sb : kitB "str" "bool" = some false := by decide +kernel
theorem k_si : kitB "str" "int" = some false := by decide +kernel
theorem k_ss : kitB "str" "str" = some true := by decide +kernel
theorem k_sl : kitB "str" "list" = some false := by decide +kernel
theorem k_st : kitB "str" "tuple" = some false := by decide +kernel
theorem k_lb : kitB "list" "bool" = some false := by decide +kernel
theorem k_li : kitB "list" "int" = some false := by decide +kernel
theorem k_ls : kitB "list" "str" = some false := by decide +kernel
theorem k_ll : kitB "list" "list" = some true := by decide +kernel
theorem k_lt : kitB "list" "tuple" = some false := by decide +kernel
theorem k_tb : kitB "tuple" "bool" = some false := by decide +kernel
theorem k_ti : kitB "tuple" "int" = some false := by decide +kernel
theorem k_ts : kitB "tuple" "str" = some false := by decide +kernel
theorem k_tl : kitB "tuple" "list" = some false := by decide +kernel
theorem k_tt : kitB "tuple" "tuple" = some true := by decide +kernel
theorem dec_self {x : V} : decide (x = x) = true := decide_eq_true rfl
theorem ok_l_like (T : Txt K mg) : ∀ n : Nat, FnOk P w K mg base CX0 n T.f_l_like T.d_l_like ["_law_found", "_law_due"] (sp_l_like K n)
  | 0 => fn_none fun vs H Q E ⟨u, v, d, _, _, _, h, _⟩ => nomatch h
  | n + 1 => by
    have IH := ok_l_like T n
    refine T.F_l_like.ok sc_l_like (fun vs H Q E h => ?_) (fun cdv A outer s H vs Q E hr h => ?_)
    · obtain ⟨u, v, d, rfl, _⟩ := h
      rfl
    · obtain ⟨u, v, d, rfl, hu, hv, hn, k⟩ := h
      have tu := ty_of hu
      have tv := ty_of hv
      refine ⟨_, (pss_cons (ps_if (pt_cmpR op_isN (pv 1) pe_non (nomark _))
      (pss_one (ps_ret (pe_cmpR op_isN (pv 0) pe_non (nomark _))))
      pss_nil)
      (pss_cons (ps_if (pt_val (pe_callB call_isi (by rfl) T.m_isinstance (by decide +kernel) (pa_cons (pv 1) (pa_cons (pe_bltn (v := .ty "bool") (by rfl) T.m_bool (by decide +kernel) rfl) pa_nil))))
      (pss_one (ps_ret (pe_and (pe_callB call_isi (by rfl) T.m_isinstance (by decide +kernel) (pa_cons (pv 0) (pa_cons (pe_bltn (v := .ty "bool") (by rfl) T.m_bool (by decide +kernel) rfl) pa_nil))) (pe_one (pe_cmpR op_eq (pv 0) (pv 1) (nomark _))))))
      pss_nil)
      (pss_cons (ps_if (pt_val (pe_callB call_isi (by rfl) T.m_isinstance (by decide +kernel) (pa_cons (pv 1) (pa_cons (pe_bltn (v := .ty "int") (by rfl) T.m_int (by decide +kernel) rfl) pa_nil))))
      (pss_one (ps_ret (pe_and (pe_callB call_isi (by rfl) T.m_isinstance (by decide +kernel) (pa_cons (pv 0) (pa_cons (pe_bltn (v := .ty "int") (by rfl) T.m_int (by decide +kernel) rfl) pa_nil))) (pe_and (pe_not (pe_callB call_isi (by rfl) T.m_isinstance (by decide +kernel) (pa_cons (pv 0) (pa_cons (pe_bltn (v := .ty "bool") (by rfl) T.m_bool (by decide +kernel) rfl) pa_nil)))) (pe_one (pe_cmpR op_eq (pv 0) (pv 1) (nomark _)))))))
      pss_nil)
      (pss_cons (ps_if (pt_val (pe_callB call_isi (by rfl) T.m_isinstance (by decide +kernel) (pa_cons (pv 1) (pa_cons (pe_bltn (v := .ty "str") (by rfl) T.m_str (by decide +kernel) rfl) pa_nil))))
      (pss_one (ps_ret (pe_and (pe_callB call_isi (by rfl) T.m_isinstance (by decide +kernel) (pa_cons (pv 0) (pa_cons (pe_bltn (v := .ty "str") (by rfl) T.m_str (by decide +kernel) rfl) pa_nil))) (pe_one (pe_cmpR op_eq (pv 0) (pv 1) (nomark _))))))
      pss_nil)
      (pss_cons (ps_if (PW.pt (pw_or (pt_cmpR op_ne (pe_callB call_isi (by rfl) T.m_isinstance (by decide +kernel) (pa_cons (pv 1) (pa_cons (pe_bltn (v := .ty "list") (by rfl) T.m_list (by decide +kernel) rfl) pa_nil))) (pe_callB call_isi (by rfl) T.m_isinstance (by decide +kernel) (pa_cons (pv 0) (pa_cons (pe_bltn (v := .ty "list") (by rfl) T.m_list (by decide +kernel) rfl) pa_nil))) (nomark _)) (pw_or1 (pt_cmpR op_ne (pe_callB call_isi (by rfl) T.m_isinstance (by decide +kernel) (pa_cons (pv 1) (pa_cons (pe_bltn (v := .ty "tuple") (by rfl) T.m_tuple (by decide +kernel) rfl) pa_nil))) (pe_callB call_isi (by rfl) T.m_isinstance (by decide +kernel) (pa_cons (pv 0) (pa_cons (pe_bltn (v := .ty "tuple") (by rfl) T.m_tuple (by decide +kernel) rfl) pa_nil))) (nomark _)))))
      (pss_one (ps_ret pe_bl))
      pss_nil)
      (pss_one (ps_ret (pe_and (pe_cmpR op_eq (pe_callB call_len (by rfl) T.m_len PySem.boot_len (pa_cons (pv 0) pa_nil)) (pe_callB call_len (by rfl) T.m_len PySem.boot_len (pa_cons (pv 1) pa_nil)) (nomark _)) (pe_one (pe_callB (cr_all rfl) (by rfl) T.m_all (by decide +kernel) (pa_cons (pe_lc (own := [("_law_k", 2)]) (g := gName 2) (tt := tYes) (by rfl) sc_l_like.nd (pi_range1 (by rfl) T.m_range (pa_cons (pe_callB call_len (by rfl) T.m_len PySem.boot_len (pa_cons (pv 1) pa_nil)) pa_nil)) (blkOk_by (own := [("_law_k", 2)]) (N := ["_law_found", "_law_due", "_law_k"]) (sc := defScope s_l_like) (by decide +kernel)) (fun _ _ _ _ _ => (pg_name (i := 2) sc_l_like.nd rfl (by first | exact Or.inl rfl | exact Or.inr rfl))) (fun _ _ _ _ _ => pts_nil) (fun _ _ _ _ _ => (pe_call IH hr rfl T.g_l_like T.F_l_like.kp T.b_l_like .nil pass0 (pa_cons (pe_ix (ix_seqK K rfl) (pv 0) (pv 2) (fun _ _ => rfl)) (pa_cons (pe_ix (ix_seqK K rfl) (pv 1) (pv 2) (fun _ _ => rfl)) pa_nil))))) pa_nil))))))))))), ?_⟩
      cases hn with
      | non n =>
        cases hu
        cases hv
        refine ⟨_, rfl, rfl, _, rfl, iteTo dec_self ?_⟩
        exact ⟨_, rfl, rfl, k _ (.refl _)⟩
      | bl n b =>
        cases hu
        cases hv
        refine ⟨_, rfl, rfl, _, rfl, iteFo rfl ?_⟩
        refine ⟨_, rfl, _, _, _, _, true, rfl, .ty _, tv, kit_ty k_bb, _, rfl, iteTo rfl ?_⟩
        refine ⟨_, rfl, _, _, _, _, true, rfl, .ty _, tu, kit_ty k_bb, _, rfl, iteTo rfl ?_⟩
        refine ⟨_, rfl, _, rfl, rfl, ?_⟩
        rw [dec_self]
        exact k _ (.refl _)
      | int n i =>
        cases hu
        cases hv
        refine ⟨_, rfl, rfl, _, rfl, iteFo rfl ?_⟩
        refine ⟨_, rfl, _, _, _, _, false, rfl, .ty _, tv, kit_ty k_ib, _, rfl, iteFo rfl ?_⟩
        refine ⟨_, rfl, _, _, _, _, true, rfl, .ty _, tv, kit_ty k_ii, _, rfl, iteTo rfl ?_⟩
        refine ⟨_, rfl, _, _, _, _, true, rfl, .ty _, tu, kit_ty k_ii, _, rfl, iteTo rfl ?_⟩
        refine ⟨_, rfl, _, _, _, _, false, rfl, .ty _, tu, kit_ty k_ib, _, rfl, _, rfl, iteTo rfl ?_⟩
        refine ⟨_, rfl, _, rfl, rfl, ?_⟩
        rw [dec_self]
        exact k _ (.refl _)
      | str n x =>
        cases hu
        cases hv
        refine ⟨_, rfl, rfl, _, rfl, iteFo rfl ?_⟩
        refine ⟨_, rfl, _, _, _, _, false, rfl, .ty _, tv, kit_ty k_sb, _, rfl, iteFo rfl ?_⟩
        refine ⟨_, rfl, _, _, _, _, false, rfl, .ty _, tv, kit_ty k_si, _, rfl, iteFo rfl ?_⟩
        refine ⟨_, rfl, _, _, _, _, true, rfl, .ty _, tv, kit_ty k_ss, _, rfl, iteTo rfl ?_⟩
        refine ⟨_, rfl, _, _, _, _, true, rfl, .ty _, tu, kit_ty k_ss, _, rfl, iteTo rfl ?_⟩
        refine ⟨_, rfl, _, rfl, rfl, ?_⟩
        rw [dec_self]
        exact k _ (.refl _)
      | lst hd hl =>
        rename_i ds
        cases hu with | lst hsu hau =>
        cases hv with | lst hsv hav =>
        rename_i a xs b ys
        have lx := DpAll.len hau
        have ly := DpAll.len hav
        refine ⟨_, rfl, rfl, _, rfl, iteFo rfl ?_⟩
        refine ⟨_, rfl, _, _, _, _, false, rfl, .ty _, tv, kit_ty k_lb, _, rfl, iteFo rfl ?_⟩
        refine ⟨_, rfl, _, _, _, _, false, rfl, .ty _, tv, kit_ty k_li, _, rfl, iteFo rfl ?_⟩
        refine ⟨_, rfl, _, _, _, _, false, rfl, .ty _, tv, kit_ty k_ls, _, rfl, iteFo rfl ?_⟩
        refine ⟨_, rfl, _, _, _, _, true, rfl, .ty _, tv, kit_ty k_ll, _, rfl, _, _, _, _, true, rfl, .ty _, tu, kit_ty k_ll, rfl, _, rfl, iteFo rfl ?_⟩
        refine ⟨_, rfl, _, _, _, _, false, rfl, .ty _, tv, kit_ty k_lt, _, rfl, _, _, _, _, false, rfl, .ty _, tu, kit_ty k_lt, rfl, _, rfl, iteFo rfl ?_⟩
        refine ⟨_, rfl, _, _, rfl, .inl ⟨_, hsu, rfl⟩, _, rfl, _, _, rfl, .inl ⟨_, hsv, rfl⟩, rfl, _, rfl, iteTo (decide_eq_true (congrArg (fun z : Nat => V.int (z : Int)) (lx.trans ly.symm))) ?_⟩
        refine ⟨_, rfl, _, _, rfl, .inl ⟨_, hsv, rfl⟩, _, rfl, by omega, by omega, fun D hD => ?_⟩
        rw [Int.toNat_natCast]
        refine lc_range (lo := 0) (n := ys.length) (fun i H' => Kp H H' ∧ H' D = some (.lst (List.replicate i (V.bl true)))) ⟨Kp.new hD, upd_same⟩ (fun i H' hi ⟨kp, hDl⟩ => ?_) (fun H' ⟨kp, hDl⟩ => ?_)
        · have e0 : (0 : Int) + (i : Int) = (i : Int) := Int.zero_add _
          obtain ⟨d, hdi⟩ : ∃ d, ds[i]? = some d := ⟨_, List.getElem?_eq_getElem (by omega)⟩
          obtain ⟨x, hx, dx⟩ := DpAll.get hau hdi
          obtain ⟨y, hy, dy⟩ := DpAll.get hav hdi
          refine ⟨rfl, ?_⟩
          refine ⟨_, rfl, _, rfl, .inl ⟨_, _, _, x, rfl, rfl, kp.sqL hsu, by rw [e0]; exact atI_nat hx, _, rfl, _, rfl, .inl ⟨_, _, _, y, rfl, rfl, kp.sqL hsv, by rw [e0]; exact atI_nat hy, ?_⟩⟩⟩
          refine ⟨x, y, d, rfl, kp.dp dx, kp.dp dy, hd d (List.mem_of_getElem? hdi), fun H2 k2 => ⟨_, k2.same _ _ rfl hDl, szt (by rw [List.length_replicate]; omega), ?_⟩⟩
          exact ⟨(kp.trans k2).mut hD, by rw [upd_same, List.replicate_succ']⟩
        · refine ⟨D, List.replicate ys.length true, rfl, .inl (.inl (by rw [bl_all]; exact hDl)), ?_⟩
          rw [all_rep]
          exact k _ kp
      | tup hd hl =>
        rename_i ds
        cases hu with | tup hsu hau =>
        cases hv with | tup hsv hav =>
        rename_i a xs b ys
        have lx := DpAll.len hau
        have ly := DpAll.len hav
        refine ⟨_, rfl, rfl, _, rfl, iteFo rfl ?_⟩
        refine ⟨_, rfl, _, _, _, _, false, rfl, .ty _, tv, kit_ty k_tb, _, rfl, iteFo rfl ?_⟩
        refine ⟨_, rfl, _, _, _, _, false, rfl, .ty _, tv, kit_ty k_ti, _, rfl, iteFo rfl ?_⟩
        refine ⟨_, rfl, _, _, _, _, false, rfl, .ty _, tv, kit_ty k_ts, _, rfl, iteFo rfl ?_⟩
        refine ⟨_, rfl, _, _, _, _, false, rfl, .ty _, tv, kit_ty k_tl, _, rfl, _, _, _, _, false, rfl, .ty _, tu, kit_ty k_tl, rfl, _, rfl, iteFo rfl ?_⟩
        refine ⟨_, rfl, _, _, _, _, true, rfl, .ty _, tv, kit_ty k_tt, _, rfl, _, _, _, _, true, rfl, .ty _, tu, kit_ty k_tt, rfl, _, rfl, iteFo rfl ?_⟩
        refine ⟨_, rfl, _, _, rfl, .inr ⟨_, hsu, rfl⟩, _, rfl, _, _, rfl, .inr ⟨_, hsv, rfl⟩, rfl, _, rfl, iteTo (decide_eq_true (congrArg (fun z : Nat => V.int (z : Int)) (lx.trans ly.symm))) ?_⟩
        refine ⟨_, rfl, _, _, rfl, .inr ⟨_, hsv, rfl⟩, _, rfl, by omega, by omega, fun D hD => ?_⟩
        rw [Int.toNat_natCast]
        refine lc_range (lo := 0) (n := ys.length) (fun i H' => Kp H H' ∧ H' D = some (.lst (List.replicate i (V.bl true)))) ⟨Kp.new hD, upd_same⟩ (fun i H' hi ⟨kp, hDl⟩ => ?_) (fun H' ⟨kp, hDl⟩ => ?_)
        · have e0 : (0 : Int) + (i : Int) = (i : Int) := Int.zero_add _
          obtain ⟨d, hdi⟩ : ∃ d, ds[i]? = some d := ⟨_, List.getElem?_eq_getElem (by omega)⟩
          obtain ⟨x, hx, dx⟩ := DpAll.get hau hdi
          obtain ⟨y, hy, dy⟩ := DpAll.get hav hdi
          refine ⟨rfl, ?_⟩
          refine ⟨_, rfl, _, rfl, .inr (.inl ⟨_, _, _, x, rfl, rfl, kp.sqT hsu, by rw [e0]; exact atI_nat hx, _, rfl, _, rfl, .inr (.inl ⟨_, _, _, y, rfl, rfl, kp.sqT hsv, by rw [e0]; exact atI_nat hy, ?_⟩)⟩)⟩
          refine ⟨x, y, d, rfl, kp.dp dx, kp.dp dy, hd d (List.mem_of_getElem? hdi), fun H2 k2 => ⟨_, k2.same _ _ rfl hDl, szt (by rw [List.length_replicate]; omega), ?_⟩⟩
          exact ⟨(kp.trans k2).mut hD, by rw [upd_same, List.replicate_succ']⟩
        · refine ⟨D, List.replicate ys.length true, rfl, .inl (.inl (by rw [bl_all]; exact hDl)), ?_⟩
          rw [all_rep]
          exact k _ kp
/-! ### _law_row: so many ints from nought to below a size -/
def Drawn0 (many size : Int) (xs : List Int) : Prop := (xs.length : Int) = many ∧ ∀ x ∈ xs, 0 ≤ x ∧ x < size
def sp_l_row : Sp := fun vs H Q _ => ∃ (c many size : Int), vs = [.int c, .int many, .int size] ∧ 0 ≤ many ∧ many ≤ 1000 ∧ 0 < size ∧ size < 1073741824 ∧
  ∀ (xs : List Int) (p : Addr) (H' : Hp), H p = none → Kp H H' → H' p = some (.lst (xs.map V.int)) → Drawn0 many size xs → Q (.ref p) H'
theorem snoc_in {size z : Int} {xs : List Int} (hs : 0 < size) (h : ∀ x ∈ xs, 0 ≤ x ∧ x < size) : ∀ x ∈ xs ++ [z % size], 0 ≤ x ∧ x < size := by
  intro x hx
  rcases List.mem_append.mp hx with hx | hx
  · exact h x hx
  · rw [List.mem_singleton.mp hx]
    exact ⟨Int.emod_nonneg _ (by omega), Int.emod_lt_of_pos _ hs⟩
theorem ok_l_row (T : Txt K mg) : FnOk P w K mg base CX0 1 T.f_l_row T.d_l_row ["_law_cell_here", "_law_many", "_law_size"] sp_l_row := by
  refine T.F_l_row.ok sc_l_row (fun vs H Q E h => ?_) (fun cdv A outer s H vs Q E hr h => ?_)
  · obtain ⟨c, many, size, rfl, _⟩ := h
    rfl
  · obtain ⟨c, many, size, rfl, hm0, hm1, hs0, hs1, k⟩ := h
    refine ⟨_, (pss_cons (ps_set (i := 3) sc_l_row.nd rfl (by first | exact Or.inl rfl | exact Or.inr rfl) (pe_lst pa_nil))
      (pss_cons (ps_if (pt_cmpR op_ge (pv 0) (pe_op op_pow pe_int pe_int) (nomark _))
      (pss_cons (ps_set (i := 4) sc_l_row.nd rfl (by first | exact Or.inl rfl | exact Or.inr rfl) (pe_op op_sub (pv 0) (pe_op op_pow pe_int pe_int)))
      (pss_cons (ps_for PassesOwn.never rfl (pi_range1 (by rfl) T.m_range (pa_cons (pv 1) pa_nil)) (pg_name (i := 5) sc_l_row.nd rfl (by first | exact Or.inl rfl | exact Or.inr rfl))
      (pss_cons (ps_expr (pe_bm PySem.F.plainAttrs_list PySem.F.slot_list_append PySem.F.type_list_append mt_append (pv 3) (pa_cons (pe_op op_mod (pv 4) (pv 2)) pa_nil)))
      (pss_one (ps_set (i := 4) sc_l_row.nd rfl (by first | exact Or.inl rfl | exact Or.inr rfl) (pe_op op_fdiv (pv 4) (pv 2))))))
      (pss_one (ps_ret (pv 3)))))
      pss_nil)
      (pss_cons (ps_set (i := 6) sc_l_row.nd rfl (by first | exact Or.inl rfl | exact Or.inr rfl) (pe_op op_mod (pv 0) pe_int))
      (pss_cons (ps_for PassesOwn.never rfl (pi_range1 (by rfl) T.m_range (pa_cons (pv 1) pa_nil)) (pg_name (i := 5) sc_l_row.nd rfl (by first | exact Or.inl rfl | exact Or.inr rfl))
      (pss_cons (ps_set (i := 6) sc_l_row.nd rfl (by first | exact Or.inl rfl | exact Or.inr rfl) (pe_op op_mod (pe_op op_add (pe_op op_add (pe_op op_mul (pv 6) pe_int) pe_int) (pv 5)) pe_int))
      (pss_cons (ps_set (i := 7) sc_l_row.nd rfl (by first | exact Or.inl rfl | exact Or.inr rfl) (pe_op op_mod (pe_op op_fdiv (pe_op op_mul (pv 6) (pe_op op_add (pe_op op_mod (pv 6) pe_int) pe_int)) pe_int) pe_int))
      (pss_one (ps_expr (pe_bm PySem.F.plainAttrs_list PySem.F.slot_list_append PySem.F.type_list_append mt_append (pv 3) (pa_cons (pe_op op_mod (pv 7) (pv 2)) pa_nil)))))))
      (pss_one (ps_ret (pv 3))))))), ?_⟩
    refine ⟨Nat.zero_le _, fun p np => ?_⟩
    generalize h_H1 : upd H p _ = H1
    have k_H1 : Kp H H1 := by rw [← h_H1]; exact .new np
    have q_H1 := (congrFun h_H1 p).symm.trans upd_same
    clear h_H1
    refine ⟨_, rfl, _, _, rfl, rfl, ⟨by decide, by decide, by decide⟩, _, _, rfl, rfl, _, rfl, iteD (fun c1 => ?_) (fun c1 => ?_)⟩
    · refine ⟨_, rfl, _, _, rfl, rfl, ⟨by decide, by decide, by decide⟩, _, _, rfl, rfl, ?_⟩
      refine ⟨_, rfl, many, rfl, by omega, by omega, ?_⟩
      refine for_range (lo := 0) (n := many.toNat) (fun i σ H' => ∃ (xs : List Int) (r : Int) (y : Option V), σ = [some (.int c), some (.int many), some (.int size), some (.ref p), some (.int r), y, none, none] ∧ Kp H H' ∧ H' p = some (.lst (xs.map V.int)) ∧ xs.length = i ∧ ∀ x ∈ xs, 0 ≤ x ∧ x < size)
        ⟨[], _, none, rfl, k_H1, q_H1, rfl, by simp⟩ ?_ ?_
      · rintro i σ H' hi ⟨xs, r, y, rfl, kp, hp, hl, hb⟩
        refine ⟨_, rfl, .inl ⟨rfl, _, SqL.of hp⟩, _, rfl, _, rfl, _, _, rfl, rfl, hs0, p, _, _, rfl, rfl, hp, szt (by rw [List.length_map]; omega), ?_⟩
        refine ⟨_, rfl, _, rfl, _, _, rfl, rfl, ⟨hs0, hs1⟩, ?_⟩
        refine ⟨xs ++ [r % size], _, _, rfl, kp.mut np, ?_, by rw [List.length_append, hl]; rfl, snoc_in hs0 hb⟩
        rw [upd_same, List.map_append]
        rfl
      · rintro σ H' ⟨xs, r, y, rfl, kp, hp, hl, hb⟩
        exact ⟨_, rfl, k xs p H' np kp hp ⟨by omega, hb⟩⟩
    · refine ⟨_, rfl, _, _, rfl, rfl, (by show (0 : Int) < 2147483647; decide), ?_⟩
      refine ⟨_, rfl, many, rfl, by omega, by omega, ?_⟩
      refine for_range (lo := 0) (n := many.toNat) (fun i σ H' => ∃ (xs : List Int) (r : Int) (y y2 : Option V), σ = [some (.int c), some (.int many), some (.int size), some (.ref p), none, y, some (.int r), y2] ∧ Kp H H' ∧ H' p = some (.lst (xs.map V.int)) ∧ xs.length = i ∧ ∀ x ∈ xs, 0 ≤ x ∧ x < size)
        ⟨[], _, none, none, rfl, k_H1, q_H1, rfl, by simp⟩ ?_ ?_
      · rintro i σ H' hi ⟨xs, r, y, y2, rfl, kp, hp, hl, hb⟩
        refine ⟨_, rfl, _, _, rfl, rfl, .inr ⟨by decide, by decide⟩, _, _, rfl, rfl, _, rfl, _, _, rfl, rfl, _, _, rfl, rfl, (by show (0 : Int) < 2147483647; decide), ?_⟩
        generalize hr2 : (fun (i j : Int) => V.int (i % j)) _ _ = sv
        obtain ⟨r2, rfl⟩ : ∃ r2 : Int, sv = .int r2 := ⟨_, hr2.symm⟩
        clear hr2
        have b0 : 0 ≤ r2 % 65521 := Int.emod_nonneg _ (by decide)
        have b1 : r2 % 65521 < 65521 := Int.emod_lt_of_pos _ (by decide)
        refine ⟨_, rfl, _, rfl, _, _, rfl, rfl, (by show (0 : Int) < 65521; decide), _, _, rfl, rfl, _, _, rfl, rfl, .inr ⟨by omega, by omega⟩, _, _, rfl, rfl, ⟨by decide, by decide⟩, _, _, rfl, rfl, (by show (0 : Int) < 1000003; decide), ?_⟩
        refine ⟨_, rfl, .inl ⟨rfl, _, SqL.of hp⟩, _, rfl, _, rfl, _, _, rfl, rfl, hs0, p, _, _, rfl, rfl, hp, szt (by rw [List.length_map]; omega), ?_⟩
        refine ⟨xs ++ [r2 * (r2 % 65521 + 3) / 1009 % 1000003 % size], r2, _, _, rfl, kp.mut np, ?_, by rw [List.length_append, hl]; rfl, snoc_in hs0 hb⟩
        rw [upd_same, List.map_append]
        rfl
      · rintro σ H' ⟨xs, r, y, y2, rfl, kp, hp, hl, hb⟩
        exact ⟨_, rfl, k xs p H' np kp hp ⟨by omega, hb⟩⟩
/-! ### words -/
def abcW : Str := "abcdefghijklmnopqrstuvwxyz"
def isW (t : Str) : Bool := decide (1 ≤ (t.length : Int)) && (decide ((t.length : Int) ≤ 12) && t.cps.toList.all fun c => decide (c ∈ abcW.cps.toList))
def sp_p_is_word (P : Addr) : Sp := fun vs H Q _ => ∃ t : Str, vs = [.str t] ∧ t.length ≤ 1000 ∧ GxR.TabG H P ∧ ∀ H', Kp H H' → Q (.bl (isW t)) H'
theorem ok_p_is_word (T : Txt K mg) (TB : GxR.TabB base mg T.c_tab T.P_tab) : FnOk P w K mg base CX0 2 T.f_p_is_word T.d_p_is_word ["text"] (sp_p_is_word T.P_tab) := by
  obtain ⟨tl, hu⟩ := T.r_LETTERS
  have hL : mg "LETTERS" = some (.str abcW tl) := by rw [T.c_LETTERS, hu]; rfl
  refine T.W_p_is_word.ok sc_p_is_word (fun vs H Q E h => ?_) (fun A outer s H vs Q E hr h => ?_)
  · obtain ⟨t, rfl, _⟩ := h
    rfl
  · obtain ⟨t, rfl, hl, hT, k⟩ := h
    refine ⟨_, (pss_one (ps_ret (pe_and (pe_chain op_le op_le pe_int (pe_callB call_len_str (by rfl) T.m_len PySem.boot_len (pa_cons (pv 0) pa_nil)) (pe_glob rfl T.c_LONGEST_WORD T.r_LONGEST_WORD)) (pe_one (pe_allG hr (by rfl) T.m_all (by decide +kernel) TB rfl ⟨rfl, rfl, noCell (by decide +kernel), rfl, rfl, noFree (by decide +kernel)⟩ (pv 0) (elt_inG rfl rfl rfl hL) (fun _ => rfl)))))), ?_⟩
    refine ⟨_, rfl, t, rfl, szl (by omega), _, _, rfl, rfl, _, rfl, ?_⟩
    unfold isW at k
    by_cases c1 : 1 ≤ (t.length : Int)
    · rw [decide_eq_true c1] at k
      refine iteTo (decide_eq_true c1) ⟨_, _, rfl, rfl, _, rfl, ?_⟩
      by_cases c2 : (t.length : Int) ≤ 12
      · rw [decide_eq_true c2] at k
        exact iteTo (decide_eq_true c2) ⟨_, rfl, t, rfl, hT, fun H2 t2 => k _ (kp_tabbed hT t2)⟩
      · rw [decide_eq_false c2] at k
        exact iteFo (decide_eq_false c2) (k _ (.refl _))
    · rw [decide_eq_false c1] at k
      exact iteFo (decide_eq_false c1) ⟨_, rfl, iteF (k _ (.refl _))⟩
def let1 (c : Nat) : Int := 41 + ((c - 97 : Nat) : Int)
def letS (w : Str) : List Int := w.cps.toList.map let1
theorem isW_len {t : Str} (h : isW t = true) : 1 ≤ t.length ∧ t.length ≤ 12 := by
  unfold isW at h
  simp only [Bool.and_eq_true, decide_eq_true_eq] at h
  omega
theorem abcW_mem {c : Nat} : c ∈ abcW.cps.toList ↔ 97 ≤ c ∧ c < 123 := by
  have e : abcW.cps.toList = (List.range 26).map (97 + ·) := by decide +kernel
  rw [e]
  constructor
  · intro h
    obtain ⟨j, hj, rfl⟩ := List.mem_map.mp h
    have := List.mem_range.mp hj
    omega
  · intro h
    exact List.mem_map.mpr ⟨c - 97, List.mem_range.mpr (by omega), by omega⟩
theorem isW_signs {t : Str} (h : isW t = true) : ∀ c ∈ t.cps.toList, 97 ≤ c ∧ c < 123 := by
  unfold isW at h
  simp only [Bool.and_eq_true] at h
  intro c hc
  exact abcW_mem.mp (of_decide_eq_true (List.all_eq_true.mp h.2.2 c hc))
/-! ### letter_of and sign_of -/
def abc : Str := "abcdefghijklmnopqrstuvwxyz"
theorem abc_len : abc.length = 26 := by decide +kernel
theorem abc_at {j : Nat} (h : j < 26) : atI abc.cps.toList (j : Int) = some (97 + j) := by
  have e : abc.cps.toList = (List.range 26).map (97 + ·) := by decide +kernel
  rw [e]
  exact atI_nat (by rw [List.getElem?_map, List.getElem?_range h]; rfl)
theorem abc_ix : ∀ j, j < 26 → ∃ rest, Builtin.Str.occurrences abc ⟨#[97 + j]⟩ 0 abc.length 1 = j :: rest := by
  have h : ∀ j : Fin 26, (Builtin.Str.occurrences abc ⟨#[97 + j.val]⟩ 0 abc.length 1) = [j.val] := by decide +kernel
  exact fun j hj => ⟨[], h ⟨j, hj⟩⟩
/-! ### a method of a text inside a comprehension -/
theorem tbmK {X : Cx} (K : PySem.W.Frag) {e : Expr} {to : TE} {t : TA} {T : String} {r : V → List V → Hp → VK → Prop} (h : X.K = K) (p : PE X e (tBM X.K T r to t)) : PE X e (tBM K T r to t) := h ▸ p
/-! ### _law_word: a drawn word -/
theorem joinL_nil : ∀ zs : List (List Nat), TL.joinL [] zs = zs.flatten
  | [] => rfl
  | [z] => by show z = _; simp
  | z :: z2 :: r => by
    show z ++ ([] ++ TL.joinL [] (z2 :: r)) = _
    rw [joinL_nil (z2 :: r), List.nil_append]
    rfl
def one (c : Nat) : Str := ⟨#[c]⟩
theorem join_ones (cs : List Nat) : (Txt.join "" (cs.map one)).cps.toList = cs := by
  have e : TL.tl (Txt.join "" (cs.map one)) = TL.joinL (TL.tl "") ((cs.map one).map TL.tl) := by rw [TL.join_eq, TL.tl_join]
  have e0 : TL.tl "" = [] := by decide +kernel
  rw [e0, joinL_nil, List.map_map] at e
  have e2 : (cs.map (TL.tl ∘ one)).flatten = cs := by
    clear e
    induction cs with
    | nil => rfl
    | cons c r ih =>
      rw [List.map_cons, List.flatten_cons, ih]
      rfl
  rw [e2] at e
  exact e
theorem sum_ones (cs : List Nat) : ((cs.map one).map (·.length)).sum = cs.length := by
  induction cs with
  | nil => rfl
  | cons c r ih =>
    rw [List.map_cons, List.map_cons, List.sum_cons, ih, List.length_cons]
    show 1 + r.length = r.length + 1
    omega
theorem isW_of {t : Str} (h1 : 1 ≤ t.cps.toList.length) (h2 : t.cps.toList.length ≤ 12) (h : ∀ c ∈ t.cps.toList, c ∈ abcW.cps.toList) : isW t = true := by
  have et : t.length = t.cps.toList.length := by simp [Str.length]
  unfold isW
  rw [et, decide_eq_true (show 1 ≤ (t.cps.toList.length : Int) by omega), decide_eq_true (show (t.cps.toList.length : Int) ≤ 12 by omega)]
  show (t.cps.toList.all fun c => decide (c ∈ abcW.cps.toList)) = true
  exact List.all_eq_true.mpr fun c hc => decide_eq_true (h c hc)
theorem isW_cut {t : Str} {z : Int} (hl : t.cps.toList.length = 12) (h : ∀ c ∈ t.cps.toList, c ∈ abcW.cps.toList) (h1 : 1 ≤ z) (h2 : z ≤ 12) : isW (cutS t none (some z)) = true := by
  have et : t.length = 12 := by simpa [Str.length] using hl
  have e1 : HT.sIx t.length 0 none = 0 := rfl
  have e2 : HT.sIx t.length t.length (some z) = z.toNat := by
    rw [et]
    obtain ⟨n, rfl⟩ : ∃ n : Nat, z = (n : Int) := ⟨z.toNat, by omega⟩
    have hn : n ≤ 12 := by omega
    rw [Int.toNat_natCast]
    have key : ∀ n : Fin 13, HT.sIx 12 12 (some ((n.val : Nat) : Int)) = n.val := by decide +kernel
    exact key ⟨n, by omega⟩
  have e : (cutS t none (some z)).cps.toList = t.cps.toList.take z.toNat := by
    unfold cutS
    rw [e1, e2]
    simp
  refine isW_of ?_ ?_ ?_
  · rw [e, List.length_take]
    omega
  · rw [e, List.length_take]
    omega
  · rw [e]
    intro c hc
    exact h c (List.mem_of_mem_take hc)
def W7 : List Str := ["tide", "tides", "out", "aaaaaaaaaaaa", "a", "b", "zaaaaaaaaaaa"]
theorem isW_7 : ∀ t ∈ W7, isW t = true := by decide +kernel
theorem at_7 (n : Int) : ∃ t ∈ W7, atI (W7.map V.str) (n % 7) = some (.str t) := by
  have h0 : 0 ≤ n % 7 := Int.emod_nonneg _ (by decide)
  have h1 : n % 7 < 7 := Int.emod_lt_of_pos _ (by decide)
  have hj : (n % 7).toNat < W7.length := by
    show (n % 7).toNat < 7
    omega
  refine ⟨W7[(n % 7).toNat], List.getElem_mem _, ?_⟩
  have e := atI_nat (xs := W7.map V.str) (j := (n % 7).toNat) (v := .str W7[(n % 7).toNat]) (by rw [List.getElem?_map, List.getElem?_eq_getElem hj]; rfl)
  rw [Int.toNat_of_nonneg h0] at e
  exact e
theorem at_abc (m : Int) : ∃ c ∈ abcW.cps.toList, atI abcW.cps.toList (m % 26) = some c := by
  have h0 : 0 ≤ m % 26 := Int.emod_nonneg _ (by decide)
  have h1 : m % 26 < 26 := Int.emod_lt_of_pos _ (by decide)
  have hl : abcW.cps.toList.length = 26 := by decide +kernel
  have hj : (m % 26).toNat < abcW.cps.toList.length := by omega
  refine ⟨abcW.cps.toList[(m % 26).toNat], List.getElem_mem _, ?_⟩
  have e := atI_nat (List.getElem?_eq_getElem hj)
  rw [Int.toNat_of_nonneg h0] at e
  exact e
theorem cut1 {ns : List Int} : cutV (ns.map V.int) (some 1) none = (ns.drop 1).map V.int := by
  unfold cutV
  rw [List.length_map]
  cases ns with
  | nil => rfl
  | cons n r =>
    have e1 : HT.sIx (n :: r).length 0 (some 1) = 1 := by
      show HT.sIx (r.length + 1) 0 (some 1) = 1
      unfold HT.sIx
      simp
      try omega
    have e2 : HT.sIx (n :: r).length (n :: r).length none = (n :: r).length := rfl
    rw [e1, e2, List.drop_succ_cons, List.drop_zero, List.map_cons, List.drop_succ_cons, List.drop_zero, List.length_cons]
    rw [List.take_of_length_le (by rw [List.length_map]; omega)]
def sp_l_word : Sp := fun vs H Q _ => ∃ c : Int, vs = [.int c] ∧ ∀ (t : Str) (H' : Hp), isW t = true → Kp H H' → Q (.str t) H'
theorem ok_l_word (T : Txt K mg) : FnOk P w K mg base CX0 2 T.f_l_word T.d_l_word ["_law_cell_here"] sp_l_word := by
  refine T.F_l_word.ok sc_l_word (fun vs H Q E h => ?_) (fun cdv A outer s H vs Q E hr h => ?_)
  · obtain ⟨c, rfl, _⟩ := h
    rfl
  · obtain ⟨c, rfl, k⟩ := h
    refine ⟨_, (pss_cons (ps_set (i := 1) sc_l_word.nd rfl (by first | exact Or.inl rfl | exact Or.inr rfl) (pe_call (ok_l_row T) (hr.mono (by decide)) rfl T.g_l_row T.F_l_row.kp T.b_l_row .nil pass0 (pa_cons (pv 0) (pa_cons pe_int (pa_cons pe_int pa_nil)))))
      (pss_cons (ps_set (i := 2) sc_l_word.nd rfl (by first | exact Or.inl rfl | exact Or.inr rfl) (pe_join pe_str (pe_lc (own := [("_law_num", 3)]) (g := gName 3) (tt := tYes) (by rfl) sc_l_word.nd (pi_list (pe_slice sl_list (pv 1) (po_some pe_int) po_none)) (blkOk_by (own := [("_law_num", 3)]) (N := ["_law_cell_here", "_law_nums", "_law_some", "_law_num", "_law_size"]) (sc := defScope s_l_word) (by decide +kernel)) (fun _ _ _ _ _ => (pg_name (i := 3) sc_l_word.nd rfl (by first | exact Or.inl rfl | exact Or.inr rfl))) (fun _ _ _ _ _ => pts_nil) (fun _ _ _ _ _ => (pe_ix ix_str pe_str (pe_op op_mod (pv 3) pe_int) (fun _ _ => rfl))))))
      (pss_cons (ps_set (i := 4) sc_l_word.nd rfl (by first | exact Or.inl rfl | exact Or.inr rfl) (pe_op op_add pe_int (pe_op op_mod (pe_ix ix_list (pv 1) pe_int (fun _ _ => rfl)) pe_int)))
      (pss_cons (ps_if (pt_cmpR op_eq (pe_op op_mod (pe_op op_fdiv (pe_ix ix_list (pv 1) pe_int (fun _ _ => rfl)) pe_int) pe_int) pe_int (nomark _))
      (pss_one (ps_ret (pe_ix ix_tup (pe_tup (pa_cons pe_str (pa_cons pe_str (pa_cons pe_str (pa_cons pe_str (pa_cons pe_str (pa_cons pe_str (pa_cons pe_str pa_nil)))))))) (pe_op op_mod (pe_ix ix_list (pv 1) pe_int (fun _ _ => rfl)) pe_int) (fun _ _ => rfl))))
      pss_nil)
      (pss_one (ps_ret (pe_slice sl_str (pv 2) po_none (po_some (pv 4))))))))), ?_⟩
    refine ⟨_, rfl, _, _, _, rfl, by decide, by decide, by decide, by decide, fun nums p1 H1 n1 k1 q1 ⟨hl, hb⟩ => ?_⟩
    have h0 : 0 < nums.length := by omega
    have h1' : 1 < nums.length := by omega
    refine ⟨⟨_, rfl⟩, _, rfl, _, rfl, p1, _, rfl, .inl (.inl q1), fun p2 n2 => ?_⟩
    generalize h_H2 : upd H1 p2 _ = H2
    have k_H2 : Kp H1 H2 := by rw [← h_H2]; exact .new n2
    have q_H2 := (congrFun h_H2 p2).symm.trans upd_same
    clear h_H2
    have q2 : H2 p2 = some (.lst ((nums.drop 1).map V.int)) := by rw [← cut1]; exact q_H2
    refine ⟨p2, rfl, ⟨_, .inl (.inl q2)⟩, fun D hD => ?_⟩
    refine lc_list (K := K) (a := p2) (xs := (nums.drop 1).map V.int) (fun i H' => Kp H2 H' ∧ ∃ cs : List Nat, H' D = some (.lst ((cs.map one).map V.str)) ∧ cs.length = i ∧ ∀ y ∈ cs, y ∈ abcW.cps.toList) ⟨Kp.new hD, [], upd_same, rfl, by simp⟩ (fun i H' _ ⟨kp, _⟩ => kp.sqL (.inl (.inl q2))) (fun i x H' hi ⟨kp, ss, hs, hn, h1⟩ => ?_) (fun H' ⟨kp, ss, hs, hn, h1⟩ => ?_)
    · have hil : i < 12 := by
        have z := (List.getElem?_eq_some_iff.mp hi).1
        rw [List.length_map, List.length_drop] at z
        omega
      obtain ⟨z, _, rfl, _⟩ := mem_ints hi
      obtain ⟨c, hcm, hc⟩ := at_abc z
      refine ⟨rfl, ?_⟩
      refine ⟨_, rfl, _, _, rfl, rfl, (by show (0 : Int) < 26; decide), abcW, _, c, rfl, rfl, by decide +kernel, hc, (ss.map one).map V.str, hs, szt (by rw [List.length_map, List.length_map]; omega), kp.mut hD, ss ++ [c], ?_, by rw [List.length_append, hn]; rfl, fun y hy => ?_⟩
      · rw [upd_same, List.map_append, List.map_append]
        rfl
      · rcases List.mem_append.mp hy with hy | hy
        · exact h1 y hy
        · rw [List.mem_singleton.mp hy]
          exact hcm
    · rw [List.length_map, List.length_drop] at hn
      have hsum : ((ss.map one).map (·.length)).sum + (ss.map one).length * (Str.ofString "").length ≤ 16777216 := by
        have e2 : (Str.ofString "").length = 0 := by decide +kernel
        rw [sum_ones, e2]
        omega
      refine ⟨_, D, ss.map one, rfl, rfl, .inl (.inl (.inl hs)), hsum, ?_⟩
      have k3 := (k1.trans k_H2).trans kp
      have hp1 : H' p1 = some (.lst (nums.map V.int)) := kp.same _ _ rfl (k_H2.same _ _ rfl q1)
      have hj := join_ones ss
      generalize hJ : Txt.join _ (ss.map one) = J
      have hj : J.cps.toList = ss := by rw [← hJ]; exact hj
      clear hJ
      have z0 : 0 ≤ nums[0] % 12 := Int.emod_nonneg _ (by decide)
      have z1 : nums[0] % 12 < 12 := Int.emod_lt_of_pos _ (by decide)
      refine ⟨_, rfl, p1, _, _, _, rfl, rfl, .inl (.inl hp1), at_int (j := 0) h0, _, _, rfl, rfl, (by show (0 : Int) < 12; decide), _, _, rfl, rfl, ?_⟩
      refine ⟨_, rfl, p1, _, _, _, rfl, rfl, .inl (.inl hp1), at_int (j := 0) h0, _, _, rfl, rfl, ⟨by decide, by decide⟩, _, _, rfl, rfl, (by show (0 : Int) < 5; decide), rfl, _, rfl, iteD (fun c1 => ?_) (fun c1 => ?_)⟩
      · refine ⟨szl (by show 7 ≤ 100000; decide), fun p3 n3 => ?_⟩
        generalize h_H3 : upd H' p3 _ = H3
        have k_H3 : Kp H' H3 := by rw [← h_H3]; exact .new n3
        have q_H3 := (congrFun h_H3 p3).symm.trans upd_same
        clear h_H3
        obtain ⟨t, ht, hat⟩ := at_7 nums[1]
        refine ⟨_, rfl, p1, _, _, _, rfl, rfl, .inl (.inl (k_H3.same _ _ rfl hp1)), at_int (j := 1) h1', _, _, rfl, rfl, (by show (0 : Int) < 7; decide), p3, _, _, _, rfl, rfl, .inl (.inl q_H3), hat, k t H3 (isW_7 t ht) (k3.trans k_H3)⟩
      · refine ⟨_, rfl, _, rfl, _, rfl, J, rfl, ?_, ?_⟩
        · have e : J.length = J.cps.toList.length := by simp [Str.length]
          exact szl (by rw [e, hj]; omega)
        · exact k _ _ (isW_cut (by rw [hj]; omega) (by rw [hj]; exact h1) (by omega) (by omega)) k3
/-! ### _law_book: a phrasebook and its words -/
/-! ### numbers -/
def figW : Str := "0123456789"
def plB (t : Str) : Bool := decide (1 ≤ (t.length : Int)) && (decide ((t.length : Int) ≤ 6) && t.cps.toList.all fun c => decide (c ∈ figW.cps.toList))
def isN (t : Str) : Bool := plB t && (decide (V.str t = V.str "0") || !(Txt.startswith t "0"))
def sp_p_is_number (P : Addr) : Sp := fun vs H Q _ => ∃ t : Str, vs = [.str t] ∧ t.length ≤ 1000 ∧ GxR.TabG H P ∧ ∀ H', Kp H H' → Q (.bl (isN t)) H'
theorem ok_p_is_number (T : Txt K mg) (TBN : GxR.TabB base mg T.c_tabN T.P_tabN) : FnOk P w K mg base CX0 2 T.f_p_is_number T.d_p_is_number ["text"] (sp_p_is_number T.P_tabN) := by
  obtain ⟨tl, hu⟩ := T.r_FIGURES
  have hL : mg "FIGURES" = some (.str figW tl) := by rw [T.c_FIGURES, hu]; rfl
  refine T.W_p_is_number.ok sc_p_is_number (fun vs H Q E h => ?_) (fun A outer s H vs Q E hr h => ?_)
  · obtain ⟨t, rfl, _⟩ := h
    rfl
  · obtain ⟨t, rfl, hl, hT, k⟩ := h
    refine ⟨_, (Evl.pss_cut (ps_set (i := 1) sc_p_is_number.nd rfl (by first | exact Or.inl rfl | exact Or.inr rfl) (pe_and (pe_chain op_le op_le pe_int (pe_callB call_len_str (by rfl) T.m_len PySem.boot_len (pa_cons (pv 0) pa_nil)) (pe_glob rfl T.c_MOST_FIGURES T.r_MOST_FIGURES)) (pe_one (pe_allG hr (by rfl) T.m_all (by decide +kernel) TBN rfl ⟨rfl, rfl, noCell (by decide +kernel), rfl, rfl, noFree (by decide +kernel)⟩ (pv 0) (elt_inG rfl rfl rfl hL) (fun _ => rfl)))))
      (pss_one (ps_ret (pe_and (pv 1) (pe_one (pe_or (pe_cmpR op_eq (pv 0) pe_str (nomark _)) (pe_one (pe_not (pe_m1 PySem.F.slot_str_startswith PySem.F.type_str_startswith mt_startswith (pv 0) pe_str))))))))), ?_⟩
    refine ⟨fun σ H' => σ = [some (.str t), some (.bl (plB t)), none] ∧ Kp H H', ?_, ?_⟩
    · refine ⟨_, rfl, t, rfl, szl (by omega), _, _, rfl, rfl, _, rfl, ?_⟩
      unfold plB
      by_cases c1 : 1 ≤ (t.length : Int)
      · rw [decide_eq_true c1]
        refine iteTo rfl ⟨_, _, rfl, rfl, _, rfl, ?_⟩
        by_cases c2 : (t.length : Int) ≤ 6
        · rw [decide_eq_true c2]
          exact iteTo rfl ⟨_, rfl, t, rfl, hT, fun H2 t2 => ⟨rfl, kp_tabbed hT t2⟩⟩
        · rw [decide_eq_false c2]
          exact iteFo rfl ⟨rfl, .refl _⟩
      · rw [decide_eq_false c1]
        exact iteFo rfl ⟨_, rfl, iteF ⟨rfl, .refl _⟩⟩
    · rintro σ H' ⟨rfl, kp⟩
      unfold isN at k
      refine ⟨_, rfl, _, rfl, ?_⟩
      cases e : plB t with
      | false =>
        rw [e] at k
        exact iteFo rfl (k _ kp)
      | true =>
        rw [e] at k
        refine iteTo rfl ⟨_, rfl, rfl, _, rfl, iteD (fun c => ?_) (fun c => ?_)⟩
        · rw [decide_eq_true c] at k
          exact k _ kp
        · rw [decide_eq_false c] at k
          exact ⟨_, rfl, ⟨_, rfl⟩, t, _, rfl, rfl, _, rfl, k _ kp⟩
/-! ### parts -/
def tx : V → Str
  | .int i => Str.ofString (toString i)
  | .str t => t
  | _ => Str.empty
inductive Fit : Str → V → Prop
  | num (n : Nat) (h : n ≤ 999999) : Fit "number" (.int (n : Int))
  | way (t : Str) (h : t = "up" ∨ t = "down") : Fit "way" (.str t)
  | word (t : Str) (h : isW t = true) : Fit "word" (.str t)
theorem num_tl (n : Nat) : (Str.ofString (toString ((n : Nat) : Int))).cps.toList = TL.numL n := TL.tl_num n
theorem num_len (n : Nat) : (Str.ofString (toString ((n : Nat) : Int))).length = (TL.numL n).length := by
  rw [← num_tl]
  simp [Str.length]
theorem num_small {n : Nat} (h : n ≤ 999999) : 1 ≤ (TL.numL n).length ∧ (TL.numL n).length ≤ 6 := by
  refine ⟨?_, TL.numL_len (by decide) (by omega)⟩
  have := TL.numL_ne n
  cases e : TL.numL n with
  | nil => exact absurd e this
  | cons a r => simp
theorem num_head : ∀ n : Nat, 0 < n → ∃ c r, TL.numL n = c :: r ∧ c ≠ 48 := by
  intro n
  induction n using Nat.strongRecOn with
  | _ n ih =>
    intro h0
    by_cases h : n < 10
    · exact ⟨48 + n, [], TL.numL_lt h, by omega⟩
    · obtain ⟨c, r, e, hc⟩ := ih (n / 10) (by omega) (by omega)
      exact ⟨c, r ++ [48 + n % 10], by rw [TL.numL_step (by omega), e]; rfl, hc⟩
theorem fig_mem {c : Nat} (h : 48 ≤ c ∧ c ≤ 57) : c ∈ figW.cps.toList := by
  have e : figW.cps.toList = (List.range 10).map (48 + ·) := by decide +kernel
  rw [e]
  exact List.mem_map.mpr ⟨c - 48, List.mem_range.mpr (by omega), by omega⟩
theorem starts_no {t : Str} {c : Nat} {r : List Nat} (e : t.cps.toList = c :: r) (hc : c ≠ 48) : Txt.startswith t "0" = false := by
  obtain ⟨⟨l⟩⟩ := t
  obtain rfl : l = c :: r := e
  have e0 : (Str.ofString "0").cps = #[48] := by decide +kernel
  unfold Txt.startswith Builtin.Str.subAt
  have el : (Str.ofString "0").length = 1 := by decide +kernel
  rw [el, e0]
  have ex : (Array.extract (List.toArray (c :: r)) 0 (0 + 1)) = #[c] := by simp
  show (_ && (Array.extract (List.toArray (c :: r)) 0 (0 + 1) == #[48])) = false
  rw [ex]
  simp [hc]
theorem isN_num {n : Nat} (h : n ≤ 999999) : isN (Str.ofString (toString ((n : Nat) : Int))) = true := by
  obtain ⟨h1, h2⟩ := num_small h
  have hp : plB (Str.ofString (toString ((n : Nat) : Int))) = true := by
    unfold plB
    rw [num_len, num_tl, decide_eq_true (by omega), decide_eq_true (by omega), Bool.true_and, Bool.true_and, List.all_eq_true]
    intro c hc
    exact decide_eq_true (fig_mem (TL.numL_digits n c hc))
  unfold isN
  rw [hp, Bool.true_and]
  by_cases z : n = 0
  · subst z
    decide +kernel
  · obtain ⟨c, r, e, hc⟩ := num_head n (by omega)
    rw [starts_no (by rw [num_tl, e]) hc]
    simp
theorem log_ok {n : Nat} (h : n ≤ 999999) : ((n : Nat) : Int).natAbs.log2 < 1920 := by
  rw [Int.natAbs_natCast]
  by_cases z : n = 0
  · subst z
    decide
  · have := (Nat.log2_lt (k := 20) z).2 (by omega)
    omega
/-- what a part may be, and its text -/
def Part (x : V) : Prop := (∃ n : Nat, n ≤ 999999 ∧ x = .int (n : Int)) ∨ ∃ t : Str, x = .str t ∧ t.length ≤ 12
theorem Part.len {x : V} (h : Part x) : (tx x).length ≤ 12 := by
  rcases h with ⟨n, h, rfl⟩ | ⟨t, rfl, h⟩
  · show (Str.ofString (toString ((n : Nat) : Int))).length ≤ 12
    rw [num_len]
    have := num_small h
    omega
  · exact h
theorem Fit.part {k : Str} {x : V} (h : Fit k x) : Part x := by
  cases h with
  | num n h => exact .inl ⟨n, h, rfl⟩
  | way t h =>
    refine .inr ⟨t, rfl, ?_⟩
    rcases h with rfl | rfl <;> decide +kernel
  | word t h => exact .inr ⟨t, rfl, (isW_len h).2⟩
theorem Fit.free {k : Str} {x : V} (h : Fit k x) : 32 ∉ (tx x).cps.toList := by
  cases h with
  | num n h =>
    show 32 ∉ (Str.ofString (toString ((n : Nat) : Int))).cps.toList
    rw [num_tl]
    exact TL.numL_free (by omega)
  | way t h => rcases h with rfl | rfl <;> decide +kernel
  | word t h =>
    intro hm
    have := isW_signs h 32 hm
    omega
/-! ### any text read: what comes out, or that nothing does -/
def valN (t : Str) : Int := ((NumText.digitsVal t.cps.toList : Nat) : Int)
inductive Kd : Str → Prop
  | n : Kd "number"
  | w : Kd "way"
  | t : Kd "word"
def partV (k t : Str) : Option V :=
  if k = "number" then (if isN t = true then some (.int (valN t)) else none)
  else if k = "way" then (if inV (.str t) [V.str "up", V.str "down"] = true then some (.str t) else none)
  else (if isW t = true then some (.str t) else none)
theorem partV_n (t : Str) : partV "number" t = if isN t = true then some (.int (valN t)) else none := if_pos rfl
theorem partV_w (t : Str) : partV "way" t = if inV (.str t) [V.str "up", V.str "down"] = true then some (.str t) else none := by
  unfold partV
  rw [if_neg (by decide +kernel), if_pos rfl]
theorem partV_t (t : Str) : partV "word" t = if isW t = true then some (.str t) else none := by
  unfold partV
  rw [if_neg (by decide +kernel), if_neg (by decide +kernel)]
theorem isN_digits {t : Str} (h : isN t = true) : NumText.AllDigits t.cps.toList ∧ t.cps.toList ≠ [] ∧ t.length ≤ 6 := by
  unfold isN at h
  rw [Bool.and_eq_true] at h
  have h1 := h.1
  unfold plB at h1
  simp only [Bool.and_eq_true, decide_eq_true_eq] at h1
  obtain ⟨a, b, c⟩ := h1
  have el : t.cps.toList.length = t.length := by simp [Str.length]
  refine ⟨fun d hd => ?_, fun z => ?_, by omega⟩
  · have m := of_decide_eq_true (List.all_eq_true.mp c d hd)
    have e : figW.cps.toList = (List.range 10).map (48 + ·) := by decide +kernel
    rw [e] at m
    obtain ⟨j, hj, rfl⟩ := List.mem_map.mp m
    have := List.mem_range.mp hj
    omega
  · rw [z, List.length_nil] at el
    omega
theorem int_N {t : Str} (h : isN t = true) : intText? t = some (valN t) := by
  obtain ⟨h1, h2, h3⟩ := isN_digits h
  exact intText_digits h1 h2 (by omega)
def sp_p_read_part (P PN C : Addr) : Sp := fun vs H Q E => ∃ (k t : Str), vs = [.str k, .str t] ∧ Kd k ∧ t.length ≤ 1000 ∧ GxR.TabG H P ∧ GxR.TabG H PN ∧ (∀ x, partV k t = some x → ∀ H', Kp H H' → Q x H') ∧ (partV k t = none → ∀ H', Kp H H' → E (.ref C) none H')
theorem ok_p_read_part (T : Txt K mg) (TB : GxR.TabB base mg T.c_tab T.P_tab) (TBN : GxR.TabB base mg T.c_tabN T.P_tabN) : FnOk P w K mg base (L2.CX P w) 4 T.f_p_read_part T.d_p_read_part ["kind", "text"] (sp_p_read_part T.P_tab T.P_tabN T.a_BadLine) := by
  refine T.F_p_read_part.okX sc_p_read_part (fun vs H Q E h => ?_) (fun cdv A outer s H vs Q E hr h => ?_)
  · obtain ⟨k, t, rfl, _⟩ := h
    rfl
  · obtain ⟨k, t, rfl, hk, hl, hT, hN, q, qE⟩ := h
    refine ⟨_, (pss_cons (ps_if (PW.pt (pw_and (pt_cmpR op_eq (pv 0) pe_str (nomark _)) (pw_and1 (pt_val (pe_call (ok_p_is_number T TBN) (hr.mono (by decide)) rfl T.g_p_is_number T.F_p_is_number.kp T.b_p_is_number .nil pass0 (pa_cons (pv 1) pa_nil))))))
      (pss_one (ps_ret (pe_callTy call_int_str (by rfl) T.m_int (by decide +kernel) (pa_cons (pv 1) pa_nil))))
      pss_nil)
      (pss_cons (ps_if (PW.pt (pw_and (pt_cmpR op_eq (pv 0) pe_str (nomark _)) (pw_and1 (pt_cmpR op_in_seq (pv 1) (pe_tup (pa_cons (pe_glob rfl T.c_UP T.r_UP) (pa_cons (pe_glob rfl T.c_DOWN T.r_DOWN) pa_nil))) rfl))))
      (pss_one (ps_ret (pv 1)))
      pss_nil)
      (pss_cons (ps_if (PW.pt (pw_and (pt_cmpR op_eq (pv 0) pe_str (nomark _)) (pw_and1 (pt_val (pe_call (ok_p_is_word T TB) (hr.mono (by decide)) rfl T.g_p_is_word T.F_p_is_word.kp T.b_p_is_word .nil pass0 (pa_cons (pv 1) pa_nil))))))
      (pss_one (ps_ret (pv 1)))
      pss_nil)
      (pss_one (ps_raise rfl (takes_of rfl rfl rfl rfl) (pmk_own PySem.F.excBase_ValueError T.x_BadLine T.g_BadLine T.k_BadLine (raises_own T.b_BadLine T.t_BadLine) rfl)))))), ?_⟩
    cases hk with
    | n =>
      rw [partV_n] at q qE
      refine ⟨_, rfl, rfl, _, rfl, iteTo (decide_eq_true rfl) ⟨_, rfl, _, rfl, hl, hN, fun H1 k1 => ⟨_, rfl, ?_⟩⟩⟩
      cases e : isN t with
      | true =>
        have h6 := (isN_digits e).2.2
        exact iteTo rfl ⟨_, rfl, _, _, rfl, int_N e, by omega, q _ (if_pos e) H1 k1⟩
      | false =>
        refine iteFo rfl ⟨_, rfl, rfl, _, rfl, iteFo (by decide +kernel) ⟨_, rfl, rfl, _, rfl, iteFo (by decide +kernel) ?_⟩⟩
        exact qE (if_neg (by rw [e]; decide)) H1 k1
    | w =>
      rw [partV_w] at q qE
      refine ⟨_, rfl, rfl, _, rfl, iteFo (by decide +kernel) ⟨_, rfl, rfl, _, rfl, iteTo (decide_eq_true rfl) ?_⟩⟩
      refine ⟨_, rfl, szl (by show 2 ≤ 100000; decide), fun p1 n1 => ?_⟩
      generalize h_H1 : upd H p1 _ = H1
      have k_H1 : Kp H H1 := by rw [← h_H1]; exact .new n1
      have q_H1 := (congrFun h_H1 p1).symm.trans upd_same
      clear h_H1
      refine ⟨p1, _, rfl, .inr (.inl (.inl q_H1)), rfl, rfl, _, rfl, ?_⟩
      cases e : inV (.str t) [V.str "up", V.str "down"] with
      | true => exact iteTo rfl ⟨_, rfl, q _ (if_pos e) H1 k_H1⟩
      | false =>
        refine iteFo rfl ⟨_, rfl, rfl, _, rfl, iteFo (by decide +kernel) ?_⟩
        exact qE (if_neg (by rw [e]; decide)) H1 k_H1
    | t =>
      rw [partV_t] at q qE
      refine ⟨_, rfl, rfl, _, rfl, iteFo (by decide +kernel) ⟨_, rfl, rfl, _, rfl, iteFo (by decide +kernel) ⟨_, rfl, rfl, _, rfl, iteTo (decide_eq_true rfl) ⟨_, rfl, t, rfl, hl, hT, fun H1 k1 => ⟨_, rfl, ?_⟩⟩⟩⟩⟩
      cases e : isW t with
      | true => exact iteTo rfl ⟨_, rfl, q _ (if_pos e) H1 k1⟩
      | false => exact iteFo rfl (qE (if_neg (by rw [e]; decide)) H1 k1)
/-! ### parts -/
def partsV : List Str → List Str → Option (List V)
  | [], [] => some []
  | k :: ks, t :: ts => (partV k t).bind fun x => (partsV ks ts).map (x :: ·)
  | _, _ => none
theorem partsV_len : ∀ {ks ts : List Str}, ks.length ≠ ts.length → partsV ks ts = none
  | [], [], h => absurd rfl h
  | [], _ :: _, _ => rfl
  | _ :: _, [], _ => rfl
  | k :: ks, t :: ts, h => by
    unfold partsV
    rw [partsV_len (ks := ks) (ts := ts) (by simpa using h)]
    cases partV k t <;> rfl
theorem partsV_none : ∀ {ks ts : List Str} {j : Nat} {k t : Str}, ks[j]? = some k → ts[j]? = some t → partV k t = none → partsV ks ts = none
  | [], _, j, k, t, h, _, _ => by simp at h
  | _ :: _, [], j, k, t, _, h, _ => by simp at h
  | k0 :: ks, t0 :: ts, 0, k, t, h1, h2, h => by
    cases Option.some.inj h1
    cases Option.some.inj h2
    unfold partsV
    rw [h]
    rfl
  | k0 :: ks, t0 :: ts, j + 1, k, t, h1, h2, h => by
    unfold partsV
    rw [partsV_none (ks := ks) (ts := ts) (j := j) (by simpa using h1) (by simpa using h2) h]
    cases partV k0 t0 <;> rfl
theorem partsV_some : ∀ {ks ts : List Str} {xs : List V}, ks.length = xs.length → ts.length = xs.length → (∀ (j : Nat) (k t : Str) (x : V), ks[j]? = some k → ts[j]? = some t → xs[j]? = some x → partV k t = some x) → partsV ks ts = some xs
  | [], [], [], _, _, _ => rfl
  | k :: ks, t :: ts, x :: xs, h1, h2, h => by
    unfold partsV
    rw [h 0 k t x rfl rfl rfl, partsV_some (ks := ks) (ts := ts) (xs := xs) (by simpa using h1) (by simpa using h2) fun j k' t' x' e1 e2 e3 => h (j + 1) k' t' x' (by simpa using e1) (by simpa using e2) (by simpa using e3)]
    rfl
  | [], [], _ :: _, h, _, _ => by simp at h
  | [], _ :: _, [], _, h, _ => by simp at h
  | [], _ :: _, _ :: _, h, _, _ => by simp at h
  | _ :: _, [], [], h, _, _ => by simp at h
  | _ :: _, [], _ :: _, _, h, _ => by simp at h
  | _ :: _, _ :: _, [], h, _, _ => by simp at h
def sp_p_read_parts (K : PySem.W.Frag) (P PN C : Addr) : Sp := fun vs H Q E => ∃ (a b : Addr) (ks ts : List Str), vs = [.ref a, .ref b] ∧ SqT K H a (ks.map V.str) ∧ SqL K H b (ts.map V.str) ∧ (∀ k ∈ ks, Kd k) ∧ (∀ t ∈ ts, t.length ≤ 1000) ∧ ts.length ≤ 2000 ∧
  GxR.TabG H P ∧ GxR.TabG H PN ∧ (∀ xs, partsV ks ts = some xs → ∀ (r : Addr) (H' : Hp), H r = none → Kp H H' → H' r = some (.lst xs) → Q (.ref r) H') ∧ (partsV ks ts = none → ∀ H', Kp H H' → E (.ref C) none H')
theorem ok_p_read_parts (T : Txt K mg) (TB : GxR.TabB base mg T.c_tab T.P_tab) (TBN : GxR.TabB base mg T.c_tabN T.P_tabN) : FnOk P w K mg base (L2.CX P w) 5 T.f_p_read_parts T.d_p_read_parts ["kinds", "texts"] (sp_p_read_parts K T.P_tab T.P_tabN T.a_BadLine) := by
  refine T.F_p_read_parts.okX sc_p_read_parts (fun vs H Q E h => ?_) (fun cdv A outer s H vs Q E hr h => ?_)
  · obtain ⟨a, b, ks, ts, rfl, _⟩ := h
    rfl
  · obtain ⟨a, b, ks, ts, rfl, hA, hB, hK, hL, hl, hT, hN, k, kE⟩ := h
    refine ⟨_, (pss_cons (ps_if (pt_cmpR op_ne (pe_callB call_len_seq (by rfl) T.m_len PySem.boot_len (pa_cons (pv 1) pa_nil)) (pe_callB call_len_seq (by rfl) T.m_len PySem.boot_len (pa_cons (pv 0) pa_nil)) (nomark _))
      (pss_one (ps_raise rfl (takes_of rfl rfl rfl rfl) (pmk_own PySem.F.excBase_ValueError T.x_BadLine T.g_BadLine T.k_BadLine (raises_own T.b_BadLine T.t_BadLine) rfl)))
      pss_nil)
      (pss_one (ps_ret (pe_lcX (own := [("kind", 2), ("text", 3)]) (tt := tYes) (by rfl) sc_p_read_parts.nd rfl rfl (takes_of rfl rfl rfl rfl) (pi_zipM (by rfl) T.m_zip (pa_cons (pv 0) (pa_cons (pv 1) pa_nil))) (blkOk_by (own := [("kind", 2), ("text", 3)]) (N := ["kinds", "texts", "kind", "text"]) (sc := defScope s_p_read_parts) (by decide +kernel)) (fun _ _ _ _ _ => (pgK K rfl (pg_tup (n := 2) rfl (pgs_cons (pg_name (i := 2) sc_p_read_parts.nd rfl (by first | exact Or.inl rfl | exact Or.inr rfl)) (pgs_cons (pg_name (i := 3) sc_p_read_parts.nd rfl (by first | exact Or.inl rfl | exact Or.inr rfl)) pgs_nil))))) (fun _ _ _ _ _ => pts_nil) (fun _ _ _ _ _ _ px => (pe_call (ok_p_read_part T TB TBN) (hr.mono (by decide)) rfl T.g_p_read_part T.F_p_read_part.kp T.b_p_read_part .nil px (pa_cons (pv 2) (pa_cons (pv 3) pa_nil)))))))), ?_⟩
    refine ⟨_, rfl, b, _, rfl, .inl hB, _, rfl, a, _, rfl, .inr hA, rfl, _, rfl, iteN (fun c => ?_) (fun c => ?_)⟩
    · refine kE (partsV_len fun z => c ?_) H (.refl _)
      rw [List.length_map, List.length_map, z]
    have hlen : ks.length = ts.length := by
      have := V.int.inj c
      rw [List.length_map, List.length_map] at this
      omega
    refine ⟨_, rfl, _, rfl, a, b, _, _, rfl, hA, hB, fun D hD => ?_⟩
    refine lc_it (walk_mix (K := K) (a := a) (b := b) (xs := ks.map V.str) (ys := ts.map V.str) (by rw [List.length_map, List.length_map, hlen])) (fun i H' => Kp H H' ∧ ∃ xs : List V, H' D = some (.lst xs) ∧ xs.length = i ∧ ∀ (j : Nat) (k t : Str) (x : V), ks[j]? = some k → ts[j]? = some t → xs[j]? = some x → partV k t = some x)
      ⟨Kp.new hD, [], upd_same, rfl, fun j k t x _ _ h => by simp at h⟩ (fun i H' _ ⟨kp, _⟩ => ⟨kp.sqT hA, kp.sqL hB⟩) ?_ ?_
    · rintro i v H' H'' hi ⟨kp, xs, hs, hx, hp⟩ ⟨t, u, z, rfl, nt, rfl, eu, ez⟩
      rw [List.length_map] at hi
      have eu : (ks.map V.str)[i]? = some u := eu
      have ez : (ts.map V.str)[i]? = some z := ez
      have hi2 : i < ts.length := by rw [← hlen]; exact hi
      have g1 : ks[i]? = some ks[i] := List.getElem?_eq_getElem hi
      have g2 : ts[i]? = some ts[i] := List.getElem?_eq_getElem hi2
      rw [List.getElem?_map, g1] at eu
      rw [List.getElem?_map, g2] at ez
      cases Option.some.inj eu
      cases Option.some.inj ez
      have k1 : Kp H' (upd H' t (.tup [V.str ks[i], V.str ts[i]])) := .new nt
      refine ⟨t, _, rfl, .inl (.inl upd_same), rfl, _, _, rfl, _, _, rfl, rfl, ?_⟩
      refine ⟨rfl, ?_⟩
      refine ⟨_, rfl, _, rfl, ks[i], ts[i], rfl, hK _ (List.getElem_mem hi), hL _ (List.getElem_mem hi2), k1.tab _ (kp.tab _ hT), k1.tab _ (kp.tab _ hN), fun x hx1 H3 k3 => ?_, fun hx1 H3 k3 => ?_⟩
      · refine ⟨xs, k3.same _ _ rfl (k1.same _ _ rfl hs), szt (by omega), ((kp.trans k1).trans k3).mut hD, xs ++ [x], upd_same, by rw [List.length_append, hx]; rfl, fun j k' t' x' e1 e2 e3 => ?_⟩
        by_cases hj : j < xs.length
        · rw [List.getElem?_append_left hj] at e3
          exact hp j k' t' x' e1 e2 e3
        · have hj2 : j = xs.length := by
            have := (List.getElem?_eq_some_iff.mp e3).1
            rw [List.length_append, List.length_singleton] at this
            omega
          subst hj2
          rw [hx] at e1 e2
          rw [g1] at e1
          rw [g2] at e2
          rw [List.getElem?_append_right (Nat.le_refl _), Nat.sub_self] at e3
          cases Option.some.inj e1
          cases Option.some.inj e2
          cases Option.some.inj e3
          exact hx1
      · exact kE (partsV_none g1 g2 hx1) H3 ((kp.trans k1).trans k3)
    · rintro H' ⟨kp, xs, hs, hx, hp⟩
      rw [List.length_map] at hx
      exact k xs (partsV_some (by omega) (by omega) hp) D H' hD kp hs
/-! ### any text read as a deed -/
def partsL : List (Str × List Str) := [("send", ["way", "number"]), ("express", ["way", "number"]), ("say", ["way", "word"]), ("recall", ["way"]), ("act", ["number"]), ("slip", ["number", "number", "number"]), ("doze", ["number"]), ("wake", ["number"]), ("fog", ["number"]), ("lift", ["number"]), ("beat", []), ("settle", []), ("turn", []), ("lose", ["way", "number", "number"]), ("burn", ["number"]), ("ask", ["way", "number", "number"]), ("enter", ["number", "number", "word"]), ("strike", ["number", "number"])]
def kindsOf (nm : Str) : Option (List Str) := (partsL.find? fun p => decide (p.1 = nm)).map (·.2)
theorem partsL_kd : ∀ p ∈ partsL, ∀ k ∈ p.2, k = "number" ∨ k = "way" ∨ k = "word" := by decide +kernel
theorem kd_of {k : Str} (h : k = "number" ∨ k = "way" ∨ k = "word") : Kd k := by
  rcases h with rfl | rfl | rfl
  · exact .n
  · exact .w
  · exact .t
theorem kinds_part (T : Txt K mg) {nm : Str} {ks : List Str} (h : kindsOf nm = some ks) : PartK K T.a_PARTS nm ks := by
  unfold kindsOf at h
  obtain ⟨p, hp, rfl⟩ := Option.map_eq_some_iff.mp h
  have hm := List.mem_of_find?_eq_some hp
  have hn : p.1 = nm := by
    have z : decide (p.1 = nm) = true := List.find?_some (p := fun p : Str × List Str => decide (p.1 = nm)) hp
    exact of_decide_eq_true z
  subst hn
  unfold partsL at hm
  simp only [List.mem_cons, List.not_mem_nil, or_false] at hm
  rcases hm with rfl | rfl | rfl | rfl | rfl | rfl | rfl | rfl | rfl | rfl | rfl | rfl | rfl | rfl | rfl | rfl | rfl | rfl
  · exact T.pk_PARTS_send
  · exact T.pk_PARTS_express
  · exact T.pk_PARTS_say
  · exact T.pk_PARTS_recall
  · exact T.pk_PARTS_act
  · exact T.pk_PARTS_slip
  · exact T.pk_PARTS_doze
  · exact T.pk_PARTS_wake
  · exact T.pk_PARTS_fog
  · exact T.pk_PARTS_lift
  · exact T.pk_PARTS_beat
  · exact T.pk_PARTS_settle
  · exact T.pk_PARTS_turn
  · exact T.pk_PARTS_lose
  · exact T.pk_PARTS_burn
  · exact T.pk_PARTS_ask
  · exact T.pk_PARTS_enter
  · exact T.pk_PARTS_strike
theorem kinds_none (T : Txt K mg) {nm : Str} (h : kindsOf nm = none) : PySem.W.nsIn K T.a_PARTS nm = some none := by
  refine keys_miss T.at_PARTS T.ka_PARTS fun hm => ?_
  unfold kindsOf at h
  have h2 := List.find?_eq_none.mp (Option.map_eq_none_iff.mp h)
  have key : ∀ x ∈ partsL.map (·.1), x ≠ nm := fun x hx e => by
    obtain ⟨p, hp, rfl⟩ := List.mem_map.mp hx
    exact h2 p hp (decide_eq_true e)
  exact key nm hm rfl
theorem kinds_kd {nm : Str} {ks : List Str} (h : kindsOf nm = some ks) : ∀ k ∈ ks, Kd k := by
  unfold kindsOf at h
  obtain ⟨p, hp, rfl⟩ := Option.map_eq_some_iff.mp h
  exact fun k hk => kd_of (partsL_kd p (List.mem_of_find?_eq_some hp) k hk)
def withL : List Str := ["send", "express", "say"]
theorem with_two : ∀ p ∈ partsL, p.1 ∈ withL → ∃ k1 k2, p.2 = [k1, k2] := by
  intro p hp hw
  unfold partsL at hp
  simp only [List.mem_cons, List.not_mem_nil, or_false] at hp
  rcases hp with rfl | rfl | rfl | rfl | rfl | rfl | rfl | rfl | rfl | rfl | rfl | rfl | rfl | rfl | rfl | rfl | rfl | rfl
  all_goals first
    | exact ⟨_, _, rfl⟩
    | (exfalso; revert hw; decide +kernel)
theorem kinds_two {nm : Str} {ks : List Str} (h : kindsOf nm = some ks) (hw : nm ∈ withL) : ∃ k1 k2, ks = [k1, k2] := by
  unfold kindsOf at h
  obtain ⟨p, hp, rfl⟩ := Option.map_eq_some_iff.mp h
  have hn : p.1 = nm := by
    have z : decide (p.1 = nm) = true := List.find?_some (p := fun p : Str × List Str => decide (p.1 = nm)) hp
    exact of_decide_eq_true z
  exact with_two p (List.mem_of_find?_eq_some hp) (by rw [hn]; exact hw)
/-- the kinds of the parts that are due behind a name, of so many texts -/
def kindsFor (nm : Str) (n : Nat) : Option (List Str) := (kindsOf nm).map fun ks => if nm ∈ withL then ks ++ List.replicate (n - ks.length) (ks.getLastD "") else ks
def deedOf (t : Str) : Option (Str × List V) := match Txt.split t " " with
  | [] => none
  | nm :: ts => (kindsFor nm ts.length).bind fun ks => (partsV ks ts).map fun xs => (nm, xs)
def sp_p_read_deed (P PN C : Addr) : Sp := fun vs H Q E => ∃ t : Str, vs = [.str t] ∧ t.length ≤ 900 ∧ GxR.TabG H P ∧ GxR.TabG H PN ∧
  (∀ nm xs, deedOf t = some (nm, xs) → ∀ (r : Addr) (H' : Hp), H r = none → Kp H H' → H' r = some (.tup (.str nm :: xs)) → Q (.ref r) H') ∧ (deedOf t = none → ∀ H', Kp H H' → E (.ref C) none H')
theorem split_cons (t : Str) : ∃ nm ts, Txt.split t " " = nm :: ts := by
  have h := split_pos t " "
  cases e : Txt.split t " " with
  | nil => rw [e] at h; exact absurd h (by simp)
  | cons a r => exact ⟨a, r, rfl⟩
theorem mem_sum : ∀ {l : List Str} {u : Str}, u ∈ l → u.length ≤ (l.map (·.length)).sum
  | y :: r, u, h => by
    rw [List.map_cons, List.sum_cons]
    rcases List.mem_cons.mp h with rfl | h
    · omega
    · have := mem_sum h
      omega
theorem split_small {t nm : Str} {ts : List Str} (h : Txt.split t " " = nm :: ts) : (∀ u ∈ nm :: ts, u.length ≤ t.length) ∧ ts.length ≤ t.length := by
  have hw := split_weight t " " (by decide +kernel)
  rw [h] at hw
  refine ⟨fun u hu => ?_, ?_⟩
  · have : u.length ≤ ((nm :: ts).map (·.length)).sum := mem_sum hu
    rw [List.length_cons] at hw
    omega
  · rw [List.length_cons] at hw
    omega
theorem partsV_size : ∀ {ks ts : List Str} {xs : List V}, partsV ks ts = some xs → xs.length = ts.length
  | [], [], xs, h => by
    cases Option.some.inj h
    rfl
  | k :: ks, t :: ts, xs, h => by
    unfold partsV at h
    cases e1 : partV k t with
    | none => rw [e1] at h; cases h
    | some x =>
      rw [e1] at h
      cases e2 : partsV ks ts with
      | none => rw [e2] at h; cases h
      | some ys =>
        rw [e2] at h
        cases Option.some.inj h
        rw [List.length_cons, List.length_cons, partsV_size e2]
  | [], _ :: _, _, h => by cases h
  | _ :: _, [], _, h => by cases h
theorem kindsFor_kd {nm : Str} {n : Nat} {ks : List Str} (h : kindsFor nm n = some ks) : ∀ k ∈ ks, Kd k := by
  unfold kindsFor at h
  obtain ⟨ks0, h0, rfl⟩ := Option.map_eq_some_iff.mp h
  have hk := kinds_kd h0
  intro k hm
  split at hm
  · rename_i hw
    obtain ⟨k1, k2, rfl⟩ := kinds_two h0 hw
    rcases List.mem_append.mp hm with hm | hm
    · exact hk k hm
    · rw [List.eq_of_mem_replicate hm]
      exact hk k2 (by simp)
  · exact hk k hm
theorem inV_strs (t : Str) : ∀ l : List Str, inV (.str t) (l.map V.str) = decide (t ∈ l)
  | [] => rfl
  | y :: r => by
    have ih : (r.map V.str).any (fun y => eqV y (.str t)) = decide (t ∈ r) := inV_strs t r
    show ((y == t) || (r.map V.str).any fun y => eqV y (.str t)) = decide (t ∈ y :: r)
    rw [ih]
    by_cases h : y = t
    · subst h
      simp
    · have h' : ¬ t = y := fun z => h z.symm
      simp [h, h']
theorem withL_in {nm : Str} : inV (.str nm) (withL.map V.str) = decide (nm ∈ withL) := inV_strs nm withL
theorem flat_one (k : Str) : ∀ n : Nat, (List.replicate n [V.str k]).flatten = (List.replicate n k).map V.str
  | 0 => rfl
  | n + 1 => by rw [List.replicate_succ, List.flatten_cons, flat_one k n]; rfl
theorem ok_p_read_deed (T : Txt K mg) (TB : GxR.TabB base mg T.c_tab T.P_tab) (TBN : GxR.TabB base mg T.c_tabN T.P_tabN) (D : KDict K w T.a_PARTS T.es_PARTS T.n_PARTS) : FnOk P w K mg base (L2.CX P w) 6 T.f_p_read_deed T.d_p_read_deed ["text"] (sp_p_read_deed T.P_tab T.P_tabN T.a_BadLine) := by
  refine T.F_p_read_deed.okX sc_p_read_deed (fun vs H Q E h => ?_) (fun cdv A outer s H vs Q E hr h => ?_)
  · obtain ⟨t, rfl, _⟩ := h
    rfl
  · obtain ⟨t, rfl, hl, hT, hN, k, kE⟩ := h
    refine ⟨_, (pss_cons (ps_asg (pe_split (pv 0) pe_str) (pg_star1 rfl (pgs_cons (pg_name (i := 1) sc_p_read_deed.nd rfl (by first | exact Or.inl rfl | exact Or.inr rfl)) (pgs_cons (pg_name (i := 2) sc_p_read_deed.nd rfl (by first | exact Or.inl rfl | exact Or.inr rfl)) pgs_nil))))
      (pss_cons (ps_if (pt_cmpR (op_notIn_kd D) (pv 1) (pe_glob (v := .ref T.a_PARTS) rfl T.c_PARTS rfl) rfl)
      (pss_one (ps_raise rfl (takes_of rfl rfl rfl rfl) (pmk_own PySem.F.excBase_ValueError T.x_BadLine T.g_BadLine T.k_BadLine (raises_own T.b_BadLine T.t_BadLine) rfl)))
      pss_nil)
      (pss_cons (ps_set (i := 3) sc_p_read_deed.nd rfl (by first | exact Or.inl rfl | exact Or.inr rfl) (pe_ix ix_kdict (pe_glob (v := .ref T.a_PARTS) rfl T.c_PARTS rfl) (pv 1) (fun _ _ => rfl)))
      (Evl.pss_cut (ps_if (pt_cmpR op_in_seq (pv 1) (pe_glob (v := .ref T.a_WITH_LISTS) rfl T.c_WITH_LISTS rfl) rfl)
      (pss_one (ps_set (i := 3) sc_p_read_deed.nd rfl (by first | exact Or.inl rfl | exact Or.inr rfl) (pe_op op_catT (pv 3) (pe_op op_repA (pe_slice sl_tup (pv 3) (po_some (pe_un un_neg pe_int)) po_none) (pe_op op_sub (pe_callB call_len_seq (by rfl) T.m_len PySem.boot_len (pa_cons (pv 2) pa_nil)) (pe_callB call_len_seq (by rfl) T.m_len PySem.boot_len (pa_cons (pv 3) pa_nil)))))))
      pss_nil)
      (pss_cons (ps_set (i := 4) sc_p_read_deed.nd rfl (by first | exact Or.inl rfl | exact Or.inr rfl) (pe_call (ok_p_read_parts T TB TBN) (hr.mono (by decide)) rfl T.g_p_read_parts T.F_p_read_parts.kp T.b_p_read_parts .nil (passes_call (takes_of rfl rfl rfl rfl) (fun _ _ _ _ z => z)) (pa_cons (pv 3) (pa_cons (pv 2) pa_nil))))
      (pss_one (ps_ret (pe_tup (pa_cons (pv 1) (StX.pa_star (pv 4) pa_nil)))))))))), ?_⟩
    obtain ⟨nm, ts, hsp⟩ := split_cons t
    obtain ⟨hsm, hts⟩ := split_small hsp
    refine ⟨_, rfl, ⟨_, rfl⟩, _, _, rfl, rfl, by decide +kernel, szl (by omega), fun p1 n1 => ?_⟩
    rw [hsp]
    generalize h_H1 : upd H p1 _ = H1
    have k_H1 : Kp H H1 := by rw [← h_H1]; exact .new n1
    have q_H1 := (congrFun h_H1 p1).symm.trans upd_same
    clear h_H1
    refine ⟨p1, .str nm, ts.map V.str, rfl, .inl (.inl q_H1), fun p2 n2 => ?_⟩
    generalize h_H2 : upd H1 p2 _ = H2
    have k_H2 : Kp H1 H2 := by rw [← h_H2]; exact .new n2
    have q_H2 := (congrFun h_H2 p2).symm.trans upd_same
    clear h_H2
    have kp2 := k_H1.trans k_H2
    refine ⟨_, _, rfl, _, _, rfl, rfl, ?_⟩
    cases hk : kindsOf nm with
    | none =>
      refine ⟨_, rfl, nm, _, rfl, rfl, kinds_none T hk, _, rfl, iteTo rfl ?_⟩
      refine kE ?_ H2 kp2
      unfold deedOf
      rw [hsp]
      show (kindsFor nm ts.length).bind _ = none
      unfold kindsFor
      rw [hk]
      rfl
    | some ks0 =>
    obtain ⟨pk, hns, hpk⟩ := kinds_part T hk
    refine ⟨_, rfl, nm, _, rfl, rfl, hns, _, rfl, iteFo rfl ?_⟩
    refine ⟨_, rfl, T.a_PARTS, nm, .ref pk, rfl, rfl, ⟨_, _, _, D.at_, D.lit, hns, rfl⟩, ?_⟩
    refine ⟨fun σ H' => ∃ (q : Addr) (ks : List Str), σ = [some (.str t), some (.str nm), some (.ref p2), some (.ref q), none] ∧ Kp H2 H' ∧ SqT K H' q (ks.map V.str) ∧ kindsFor nm ts.length = some ks, ?_, ?_⟩
    · refine ⟨_, rfl, T.a_WITH_LISTS, _, rfl, .inr T.t_WITH_LISTS.sq, rfl, rfl, _, rfl, iteB (fun c => ?_) (fun c => ?_)⟩
      · have hw : nm ∈ withL := of_decide_eq_true (withL_in.symm.trans c)
        obtain ⟨k1, k2, rfl⟩ := kinds_two hk hw
        have hkf : kindsFor nm ts.length = some ([k1, k2] ++ List.replicate (ts.length - 2) k2) := by
          unfold kindsFor
          rw [hk]
          show some (if nm ∈ withL then _ else _) = _
          rw [if_pos hw]
          rfl
        refine ⟨_, rfl, _, rfl, _, rfl, _, rfl, pk, _, rfl, hpk.sq, fun z => absurd z.1 (by show ((-1 : Int) + 2).toNat ≠ 0; decide), fun p3 n3 => ?_⟩
        generalize h_H3 : upd H2 p3 _ = H3
        have k_H3 : Kp H2 H3 := by rw [← h_H3]; exact .new n3
        have q_H3 := (congrFun h_H3 p3).symm.trans upd_same
        clear h_H3
        have q3 : H3 p3 = some (.tup [V.str k2]) := q_H3
        have hkz : ((ts.map V.str).length : Int) - (([k1, k2].map V.str).length : Int) = (ts.length : Int) - 2 := by
          rw [List.length_map, List.length_map]
          rfl
        have hkn : ((ts.length : Int) - 2).toNat = ts.length - 2 := by omega
        have fin : ∀ (q : Addr) (H4 : Hp), Kp H2 H4 → SqT K H4 q (([k1, k2] ++ List.replicate (ts.length - 2) k2).map V.str) → ∃ (q' : Addr) (ks : List Str), [some (V.str t), some (.str nm), some (.ref p2), some (.ref q), none] = [some (.str t), some (.str nm), some (.ref p2), some (.ref q'), none] ∧ Kp H2 H4 ∧ SqT K H4 q' (ks.map V.str) ∧ kindsFor nm ts.length = some ks :=
          fun q H4 k4 h4 => ⟨q, _, rfl, k4, h4, hkf⟩
        refine ⟨_, rfl, p2, _, rfl, .inl (.inl (.inl (k_H3.same _ _ rfl q_H2))), _, rfl, pk, _, rfl, .inr hpk.sq, _, _, rfl, rfl, p3, _, _, rfl, rfl, .inl (.inl q3), by simp, ?_, ?_, by show 1 ≤ 1000; decide, fun e1 => ?_, fun e1 p4 n4 => ?_⟩
        · try dsimp only
          rw [hkz]
          omega
        · try dsimp only
          rw [hkz]
          omega
        · try dsimp only at e1
          rw [hkz] at e1
          have e2 : ts.length - 2 = 1 := by omega
          refine ⟨pk, p3, _, _, rfl, rfl, hpk.sq, .inl (.inl q3), by simp, szl (by show 3 ≤ 100000; decide), fun z => absurd z (by simp), fun _ p5 n5 => ?_⟩
          refine fin p5 _ (k_H3.mut (k_H3.free _ n5)) (.inl (.inl ?_))
          rw [upd_same, e2]
          rfl
        · dsimp only at e1 n4 ⊢
          rw [hkz] at e1
          rw [hkz, hkn]
          generalize h_H4 : upd H3 p4 _ = H4
          have k_H4 : Kp H3 H4 := by rw [← h_H4]; exact .new n4
          have q_H4 := (congrFun h_H4 p4).symm.trans upd_same
          clear h_H4
          rw [flat_one] at q_H4
          have k4 := k_H3.trans k_H4
          refine ⟨pk, p4, _, _, rfl, rfl, hpk.sq, .inl (.inl q_H4), by simp, szl (by rw [List.length_map, List.length_map, List.length_replicate]; show 2 + _ ≤ 100000; omega), fun z => ?_, fun _ p5 n5 => ?_⟩
          · have e2 : ts.length - 2 = 0 := by
              have := congrArg List.length z
              rw [List.length_map, List.length_replicate] at this
              exact this
            refine fin pk H4 k4 ?_
            rw [e2]
            exact hpk.sq
          · refine fin p5 _ (k4.mut (k4.free _ n5)) (.inl (.inl ?_))
            rw [upd_same, List.map_append]
      · have hw : nm ∉ withL := of_decide_eq_false (withL_in.symm.trans c)
        refine ⟨pk, ks0, rfl, .refl _, hpk.sq, ?_⟩
        unfold kindsFor
        rw [hk]
        show some (if nm ∈ withL then _ else _) = _
        rw [if_neg hw]
    · rintro σ H' ⟨q, ks, rfl, kp, hS, hF⟩
      have hdo : deedOf t = (partsV ks ts).map fun xs => (nm, xs) := by
        unfold deedOf
        rw [hsp]
        show (kindsFor nm ts.length).bind _ = _
        rw [hF]
        rfl
      refine ⟨_, rfl, _, rfl, q, p2, ks, ts, rfl, hS, .inl (.inl (kp.same _ _ rfl q_H2)), kindsFor_kd hF, fun u hu => ?_, by omega, kp.tab _ (kp2.tab _ hT), kp.tab _ (kp2.tab _ hN), fun xs hx r H3 nr k3 q3 => ?_, fun hx H3 k3 => ?_⟩
      · have := hsm u (List.mem_cons_of_mem _ hu)
        omega
      · have hz := partsV_size hx
        refine ⟨_, rfl, _, rfl, r, xs, rfl, .inr (.inl (.inl q3)), szl (by simp; omega), fun p4 n4 => ?_⟩
        have kp3 := (kp2.trans kp).trans k3
        refine k nm xs (by rw [hdo, hx]; rfl) p4 _ (kp3.free _ n4) (kp3.mut (kp3.free _ n4)) ?_
        rw [upd_same, List.append_nil]
      · exact kE (by rw [hdo, hx]; rfl) H3 ((kp2.trans kp).trans k3)
/-! ### the law's own words -/
def sp_l_is_word : Sp := fun vs H Q _ => ∃ t : Str, vs = [.str t] ∧ t.length ≤ 1000 ∧ ∀ H', Kp H H' → Q (.bl (isW t)) H'
theorem none_out (f : Nat → Bool) (l : List Nat) : decide ((l.filter fun c => !f c).length = 0) = l.all f := by
  induction l with
  | nil => rfl
  | cons c r ih =>
    cases h : f c with
    | true =>
      rw [List.filter_cons, h, List.all_cons, h]
      exact ih
    | false =>
      rw [List.filter_cons, h, List.all_cons, h]
      rfl
theorem out_succ (f : Nat → Bool) {l : List Nat} {i c : Nat} (h : l[i]? = some c) : (l.take (i + 1)).filter (fun c => !f c) = (l.take i).filter (fun c => !f c) ++ (if f c = true then [] else [c]) := by
  rw [List.take_succ, h, List.filter_append]
  congr 1
  cases e : f c with
  | true =>
    show [c].filter _ = _
    rw [List.filter_cons, e]
    rfl
  | false =>
    show [c].filter _ = _
    rw [List.filter_cons, e]
    rfl
def odd (l : List Nat) : List Nat := l.filter fun c => !decide (c ∈ abcW.cps.toList)
theorem odd_all (l : List Nat) : decide ((odd l).length = 0) = l.all fun c => decide (c ∈ abcW.cps.toList) := none_out (fun c => decide (c ∈ abcW.cps.toList)) l
theorem odd_succ {l : List Nat} {i c : Nat} (h : l[i]? = some c) : odd (l.take (i + 1)) = odd (l.take i) ++ (if c ∈ abcW.cps.toList then [] else [c]) := by
  have z := out_succ (fun c => decide (c ∈ abcW.cps.toList)) h
  unfold odd
  rw [z]
  by_cases e : c ∈ abcW.cps.toList
  · rw [if_pos e, if_pos (decide_eq_true e)]
  · rw [if_neg e, if_neg (by rw [decide_eq_false e]; decide)]
theorem ok_l_is_word (T : Txt K mg) : FnOk P w K mg base CX0 1 T.f_l_is_word T.d_l_is_word ["_law_text"] sp_l_is_word := by
  refine T.F_l_is_word.ok sc_l_is_word (fun vs H Q E h => ?_) (fun cdv A outer s H vs Q E hr h => ?_)
  · obtain ⟨t, rfl, _⟩ := h
    rfl
  · obtain ⟨t, rfl, hl, k⟩ := h
    refine ⟨_, (pss_cons (ps_if (PW.pt (pw_or (pt_cmpR op_lt (pe_callB call_len_str (by rfl) T.m_len PySem.boot_len (pa_cons (pv 0) pa_nil)) pe_int (nomark _)) (pw_or1 (pt_cmpR op_gt (pe_callB call_len_str (by rfl) T.m_len PySem.boot_len (pa_cons (pv 0) pa_nil)) pe_int (nomark _)))))
      (pss_one (ps_ret pe_bl))
      pss_nil)
      (pss_one (ps_ret (pe_cmpR op_eq (pe_callB call_len_seq (by rfl) T.m_len PySem.boot_len (pa_cons (pe_lc (own := [("_law_sign", 1)]) (g := gName 1) (by rfl) sc_l_is_word.nd (pi_str (pv 0)) (blkOk_by (own := [("_law_sign", 1)]) (N := ["_law_text", "_law_sign"]) (sc := defScope s_l_is_word) (by decide +kernel)) (fun _ _ _ _ _ => (pg_name (i := 1) sc_l_is_word.nd rfl (by first | exact Or.inl rfl | exact Or.inr rfl))) (fun _ _ _ _ _ => (pts_one (pt_cmpR op_notIn_sign (pv 1) pe_str rfl))) (fun _ _ _ _ _ => (pv 1))) pa_nil)) pe_int (nomark _))))), ?_⟩
    have hz : t.length ≤ sizeLine := szl (by omega)
    refine ⟨_, rfl, t, rfl, hz, _, _, rfl, rfl, _, rfl, iteD (fun c => ?_) (fun c => ?_)⟩
    · have e : isW t = false := by
        unfold isW
        rw [decide_eq_false (show ¬ 1 ≤ (t.length : Int) by omega)]
        rfl
      rw [e] at k
      exact iteT (k _ (.refl _))
    refine ⟨_, rfl, t, rfl, hz, _, _, rfl, rfl, _, rfl, iteD (fun c2 => ?_) (fun c2 => ?_)⟩
    · have e : isW t = false := by
        unfold isW
        rw [decide_eq_false (show ¬ (t.length : Int) ≤ 12 by omega), Bool.false_and, Bool.and_false]
      rw [e] at k
      exact k _ (.refl _)
    have e : isW t = decide ((odd t.cps.toList).length = 0) := by
      unfold isW
      rw [decide_eq_true (show 1 ≤ (t.length : Int) by omega), decide_eq_true (show (t.length : Int) ≤ 12 by omega), odd_all]
      rfl
    rw [e] at k
    refine ⟨_, rfl, t, rfl, fun D hD => ?_⟩
    have esz : t.cps.size = t.cps.toList.length := by simp
    refine lc_it (walk_str (z := t)) (fun i H' => Kp H H' ∧ ∃ ws : List V, H' D = some (.lst ws) ∧ ws.length = (odd (t.cps.toList.take i)).length) ⟨Kp.new hD, [], upd_same, rfl⟩ (fun _ _ _ _ => trivial) (fun i x H' H'' hi ⟨kp, ws, hl2, hn⟩ ⟨e1, c1, hc, hx⟩ => ?_) (fun H' ⟨kp, ws, hl2, hn⟩ => ?_)
    · subst e1
      subst hx
      have hc2 : t.cps.toList[i]? = some c1 := by rw [Array.getElem?_toList]; exact hc
      have hlen : ws.length ≤ 1000 := by
        rw [hn]
        unfold odd
        refine Nat.le_trans (List.length_filter_le _ _) ?_
        rw [List.length_take]
        have : t.length = t.cps.toList.length := by simp [Str.length]
        omega
      refine ⟨rfl, ?_⟩
      refine ⟨_, rfl, c1, abcW, rfl, rfl, _, rfl, iteN (fun c3 => ?_) (fun c3 => ?_)⟩
      · refine ⟨_, rfl, ws, hl2, szt (by omega), kp.mut hD, _, upd_same, ?_⟩
        rw [odd_succ hc2, if_neg c3, List.length_append, List.length_append, hn]
        rfl
      · refine ⟨kp, ws, hl2, ?_⟩
        rw [odd_succ hc2, if_pos c3, List.append_nil, hn]
    · rw [esz, List.take_length] at hn
      refine ⟨D, ws, rfl, .inl (SqL.of hl2), rfl, ?_⟩
      have z := k H' kp
      have e3 : decide (V.int (ws.length : Int) = V.int 0) = decide ((odd t.cps.toList).length = 0) := by
        rw [dec_int, ← hn]
        by_cases q : ws.length = 0
        · rw [q]
          rfl
        · rw [decide_eq_false q]
          exact beq_eq_false_iff_ne.mpr (by omega)
      rw [e3]
      exact z
/-! ### the law's own reading of a part -/
theorem starts_yes {t : Str} {r : List Nat} (e : t.cps.toList = 48 :: r) : Txt.startswith t "0" = true := by
  obtain ⟨⟨l⟩⟩ := t
  obtain rfl : l = 48 :: r := e
  have e0 : (Str.ofString "0").cps = #[48] := by decide +kernel
  unfold Txt.startswith Builtin.Str.subAt
  have el : (Str.ofString "0").length = 1 := by decide +kernel
  rw [el, e0]
  have ex : (Array.extract (List.toArray (48 :: r)) 0 (0 + 1)) = #[48] := by simp
  have el2 : (⟨⟨48 :: r⟩⟩ : Str).length = r.length + 1 := by simp [Str.length]
  show (_ && (Array.extract (List.toArray (48 :: r)) 0 (0 + 1) == #[48])) = true
  rw [ex, el2]
  simp
theorem str_cons {t : Str} (h : 1 ≤ t.length) : ∃ c r, t.cps.toList = c :: r := by
  have el : t.cps.toList.length = t.length := by simp [Str.length]
  cases e : t.cps.toList with
  | nil => rw [e] at el; simp at el; omega
  | cons c r => exact ⟨c, r, rfl⟩
def oddF (l : List Nat) : List Nat := l.filter fun c => !decide (c ∈ figW.cps.toList)
theorem oddF_all (l : List Nat) : decide ((oddF l).length = 0) = l.all fun c => decide (c ∈ figW.cps.toList) := none_out (fun c => decide (c ∈ figW.cps.toList)) l
theorem oddF_succ {l : List Nat} {i c : Nat} (h : l[i]? = some c) : oddF (l.take (i + 1)) = oddF (l.take i) ++ (if c ∈ figW.cps.toList then [] else [c]) := by
  have z := out_succ (fun c => decide (c ∈ figW.cps.toList)) h
  unfold oddF
  rw [z]
  by_cases e : c ∈ figW.cps.toList
  · rw [if_pos e, if_pos (decide_eq_true e)]
  · rw [if_neg e, if_neg (by rw [decide_eq_false e]; decide)]
inductive KdL : Str → Str → Prop
  | n : KdL "number" "n"
  | w : KdL "way" "w"
  | t : KdL "word" "t"
def sp_l_part : Sp := fun vs H Q _ => ∃ (kd l t : Str), vs = [.str l, .str t] ∧ KdL kd l ∧ t.length ≤ 1000 ∧ ∀ H', Kp H H' → Q ((partV kd t).getD .non) H'
theorem ok_l_part (T : Txt K mg) : FnOk P w K mg base CX0 2 T.f_l_part T.d_l_part ["_law_kind", "_law_text"] sp_l_part := by
  refine T.F_l_part.ok sc_l_part (fun vs H Q E h => ?_) (fun cdv A outer s H vs Q E hr h => ?_)
  · obtain ⟨kd, l, t, rfl, _⟩ := h
    rfl
  · obtain ⟨kd, l, t, rfl, hk, hl, k⟩ := h
    refine ⟨_, (pss_cons (ps_if (pt_cmpR op_eq (pv 0) pe_str (nomark _))
      (Evl.pss_cut (ps_if (PW.pt (pw_or (pt_cmpR op_lt (pe_callB call_len_str (by rfl) T.m_len PySem.boot_len (pa_cons (pv 1) pa_nil)) pe_int (nomark _)) (pw_or (pt_cmpR op_gt (pe_callB call_len_str (by rfl) T.m_len PySem.boot_len (pa_cons (pv 1) pa_nil)) pe_int (nomark _)) (pw_or1 (PW.pt (pw_and (pt_cmpR op_eq (pe_ix ix_str (pv 1) pe_int (fun _ _ => rfl)) pe_str (nomark _)) (pw_and1 (pt_cmpR op_ne (pv 1) pe_str (nomark _)))))))))
      (pss_one (ps_ret pe_non))
      pss_nil)
      (pss_cons (ps_if (pt_cmpR op_gt (pe_callB call_len_seq (by rfl) T.m_len PySem.boot_len (pa_cons (pe_lc (own := [("_law_sign", 2)]) (g := gName 2) (by rfl) sc_l_part.nd (pi_str (pv 1)) (blkOk_by (own := [("_law_sign", 2)]) (N := ["_law_kind", "_law_text", "_law_sign"]) (sc := defScope s_l_part) (by decide +kernel)) (fun _ _ _ _ _ => (pg_name (i := 2) sc_l_part.nd rfl (by first | exact Or.inl rfl | exact Or.inr rfl))) (fun _ _ _ _ _ => (pts_one (pt_cmpR op_notIn_sign (pv 2) pe_str rfl))) (fun _ _ _ _ _ => (pv 2))) pa_nil)) pe_int (nomark _))
      (pss_one (ps_ret pe_non))
      pss_nil)
      (pss_one (ps_ret (pe_callTy call_int_str (by rfl) T.m_int (by decide +kernel) (pa_cons (pv 1) pa_nil))))))
      pss_nil)
      (pss_cons (ps_if (pt_cmpR op_eq (pv 0) pe_str (nomark _))
      (pss_one (ps_ret (pe_ifExp (pt_cmpR op_in_seq (pv 1) (pe_tup (pa_cons pe_str (pa_cons pe_str pa_nil))) rfl) (pv 1) pe_non)))
      pss_nil)
      (pss_one (ps_ret (pe_ifExp (pt_val (pe_call (ok_l_is_word T) (hr.mono (by decide)) rfl T.g_l_is_word T.F_l_is_word.kp T.b_l_is_word .nil pass0 (pa_cons (pv 1) pa_nil))) (pv 1) pe_non))))), ?_⟩
    have hz : t.length ≤ sizeLine := szl (by omega)
    cases hk with
    | n =>
      rw [partV_n] at k
      refine ⟨_, rfl, rfl, _, rfl, iteTo (decide_eq_true rfl) ?_⟩
      refine ⟨fun σ H' => σ = [some (.str "n"), some (.str t), none] ∧ H' = H ∧ 1 ≤ t.length ∧ t.length ≤ 6 ∧ (decide (V.str t = V.str "0") || !(Txt.startswith t "0")) = true, ?_, ?_⟩
      · have no : isN t = false → Q V.non H := fun e => by
          rw [e] at k
          exact k _ (.refl _)
        refine ⟨_, rfl, t, rfl, hz, _, _, rfl, rfl, _, rfl, iteD (fun c1 => ?_) (fun c1 => ?_)⟩
        · refine iteT (no ?_)
          unfold isN plB
          rw [decide_eq_false (show ¬ 1 ≤ (t.length : Int) by omega)]
          rfl
        refine ⟨_, rfl, t, rfl, hz, _, _, rfl, rfl, _, rfl, iteD (fun c2 => ?_) (fun c2 => ?_)⟩
        · refine iteT (no ?_)
          unfold isN plB
          rw [decide_eq_false (show ¬ (t.length : Int) ≤ 6 by omega), Bool.false_and, Bool.and_false]
          rfl
        obtain ⟨c, r, ec⟩ := str_cons (t := t) (by omega)
        have hat : atI t.cps.toList 0 = some c := by rw [ec]; exact atI_nat (xs := c :: r) (j := 0) rfl
        refine ⟨_, rfl, t, _, c, rfl, rfl, by omega, hat, rfl, _, rfl, iteD (fun c3 => ?_) (fun c3 => ?_)⟩
        · have c48 : c = 48 := by
            have := congrArg Str.cps (V.str.inj c3)
            have e0 : (Str.ofString "0").cps = #[48] := by decide +kernel
            rw [e0] at this
            simpa using this
          subst c48
          refine ⟨_, rfl, rfl, _, rfl, iteN (fun c4 => ?_) (fun c4 => ?_)⟩
          · refine no ?_
            unfold isN
            rw [starts_yes ec, decide_eq_false c4]
            simp
          · exact ⟨rfl, rfl, by omega, by omega, by rw [decide_eq_true c4]; rfl⟩
        · refine iteF ⟨rfl, rfl, by omega, by omega, ?_⟩
          rw [starts_no ec (fun z => c3 (by subst z; decide +kernel)), Bool.not_false, Bool.or_true]
      · rintro σ H0 ⟨rfl, rfl, h1, h6, hn⟩
        have e : isN t = decide ((oddF t.cps.toList).length = 0) := by
          unfold isN plB
          rw [decide_eq_true (show 1 ≤ (t.length : Int) by omega), decide_eq_true (show (t.length : Int) ≤ 6 by omega), oddF_all, hn, Bool.and_true]
          rfl
        refine ⟨_, rfl, t, rfl, fun D hD => ?_⟩
        have esz : t.cps.size = t.cps.toList.length := by simp
        refine lc_it (walk_str (z := t)) (fun i H' => Kp H0 H' ∧ ∃ ws : List V, H' D = some (.lst ws) ∧ ws.length = (oddF (t.cps.toList.take i)).length) ⟨Kp.new hD, [], upd_same, rfl⟩ (fun _ _ _ _ => trivial) (fun i x H' H'' hi ⟨kp, ws, hl2, hn⟩ ⟨e1, c1, hc, hx⟩ => ?_) (fun H' ⟨kp, ws, hl2, hn⟩ => ?_)
        · subst e1
          subst hx
          have hc2 : t.cps.toList[i]? = some c1 := by rw [Array.getElem?_toList]; exact hc
          have hlen : ws.length ≤ 1000 := by
            rw [hn]
            unfold oddF
            refine Nat.le_trans (List.length_filter_le _ _) ?_
            rw [List.length_take]
            have : t.length = t.cps.toList.length := by simp [Str.length]
            omega
          refine ⟨rfl, ?_⟩
          refine ⟨_, rfl, c1, figW, rfl, rfl, _, rfl, iteN (fun c3 => ?_) (fun c3 => ?_)⟩
          · refine ⟨_, rfl, ws, hl2, szt (by omega), kp.mut hD, _, upd_same, ?_⟩
            rw [oddF_succ hc2, if_neg c3, List.length_append, List.length_append, hn]
            rfl
          · refine ⟨kp, ws, hl2, ?_⟩
            rw [oddF_succ hc2, if_pos c3, List.append_nil, hn]
        · rw [esz, List.take_length] at hn
          refine ⟨D, ws, rfl, .inl (SqL.of hl2), _, _, rfl, rfl, _, rfl, iteD (fun c => ?_) (fun c => ?_)⟩
          · have e2 : isN t = false := by rw [e]; exact decide_eq_false (by omega)
            rw [e2] at k
            exact k H' kp
          · have e2 : isN t = true := by rw [e]; exact decide_eq_true (by omega)
            rw [e2] at k
            exact ⟨_, rfl, _, _, rfl, int_N e2, by omega, k H' kp⟩
    | w =>
      rw [partV_w] at k
      refine ⟨_, rfl, rfl, _, rfl, iteFo (by decide +kernel) ⟨_, rfl, rfl, _, rfl, iteTo (decide_eq_true rfl) ?_⟩⟩
      refine ⟨_, rfl, szl (by show 2 ≤ 100000; decide), fun p1 n1 => ?_⟩
      generalize h_H1 : upd H p1 _ = H1
      have k_H1 : Kp H H1 := by rw [← h_H1]; exact .new n1
      have q_H1 := (congrFun h_H1 p1).symm.trans upd_same
      clear h_H1
      refine ⟨p1, _, rfl, .inr (.inl (.inl q_H1)), rfl, rfl, _, rfl, ?_⟩
      cases e : inV (.str t) [V.str "up", V.str "down"] with
      | true =>
        rw [e] at k
        exact iteTo rfl ⟨_, rfl, k H1 k_H1⟩
      | false =>
        rw [e] at k
        exact iteFo rfl (k H1 k_H1)
    | t =>
      rw [partV_t] at k
      refine ⟨_, rfl, rfl, _, rfl, iteFo (by decide +kernel) ⟨_, rfl, rfl, _, rfl, iteFo (by decide +kernel) ?_⟩⟩
      refine ⟨_, rfl, t, rfl, hl, fun H1 k1 => ⟨_, rfl, ?_⟩⟩
      cases e : isW t with
      | true =>
        rw [e] at k
        exact iteTo rfl ⟨_, rfl, k H1 k1⟩
      | false =>
        rw [e] at k
        exact iteFo rfl (k H1 k1)
/-! ### the law's own reading of a text -/
def KS1 : List (Str × Str) := [("recall", "w"), ("act", "n"), ("slip", "nnn"), ("doze", "n"), ("wake", "n"), ("fog", "n"), ("lift", "n"), ("beat", "")]
def KS2 : List (Str × Str) := [("settle", ""), ("turn", ""), ("lose", "wnn"), ("burn", "n"), ("ask", "wnn"), ("enter", "nnt"), ("strike", "nn")]
def toK (l : List (Str × Str)) : List (Key × V) := l.map fun p => (Sum.inr p.1, V.str p.2)
/-- the letters of a name, behind which so many parts stand -/
def wl (l : Str) (n : Nat) : Str := (Str.ofString "w") ++ repS l (max 1 (n - 1))
def KM (n : Nat) : List (Str × Str) := KS1 ++ KS2 ++ ([("send", wl "n" n), ("express", wl "n" n), ("say", wl "t" n)] : List (Str × Str))
def W3 : List (Str × Str) := [("send", "n"), ("express", "n"), ("say", "t")]
theorem put_K {l : List (Str × Str)} {x y : Str} (h : x ∉ l.map (·.1)) : putK (toK l) (Sum.inr x) (.str y) = toK (l ++ [(x, y)]) := by
  unfold putK toK
  rw [if_neg, List.map_append]
  · rfl
  · simp only [List.any_map, List.any_eq_true, Function.comp, decide_eq_true_eq, not_exists, not_and]
    intro p hp e
    exact h (List.mem_map.mpr ⟨p, hp, Sum.inr.inj e⟩)
theorem keys_1 : (mergeK (mergeK [] (toK KS1)) (toK KS2)).map (·.1) = (toK (KS1 ++ KS2)).map (·.1) := by decide +kernel
theorem merge_12 : mergeK (mergeK [] (toK KS1)) (toK KS2) = toK (KS1 ++ KS2) := rfl
def lettC (k : Str) : Nat := if k = "number" then 110 else if k = "way" then 119 else 116
/-- the letters of kinds -/
def lett (ks : List Str) : Str := ⟨(ks.map lettC).toArray⟩
theorem val_K (nm : Str) : ∀ l : List (Str × Str), valV (toK l) (.inr nm) = (l.find? fun p => decide (p.1 = nm)).map fun p => V.str p.2
  | [] => rfl
  | p :: r => by
    by_cases h : p.1 = nm
    · rw [List.find?_cons_of_pos (by simpa using h)]
      exact valV_pos (p := (Sum.inr p.1, V.str p.2)) (congrArg Sum.inr h)
    · rw [List.find?_cons_of_neg (by simpa using h), ← val_K nm r]
      exact valV_neg (p := (Sum.inr p.1, V.str p.2)) fun e => h (Sum.inr.inj e)
theorem KM_keys (n : Nat) : (KM n).map (·.1) = (KS1 ++ KS2 ++ W3).map (·.1) := rfl
theorem keys_in : ∀ x ∈ (KS1 ++ KS2 ++ W3).map (·.1), x ∈ partsL.map (·.1) := by decide +kernel
theorem km_none {nm : Str} {n : Nat} (h : kindsFor nm n = none) : valV (toK (KM n)) (.inr nm) = none := by
  have h0 : kindsOf nm = none := by
    unfold kindsFor at h
    exact Option.map_eq_none_iff.mp h
  unfold kindsOf at h0
  have h1 := List.find?_eq_none.mp (Option.map_eq_none_iff.mp h0)
  rw [val_K, Option.map_eq_none_iff, List.find?_eq_none]
  intro p hp e
  have hm := keys_in p.1 (by rw [← KM_keys n]; exact List.mem_map.mpr ⟨p, hp, rfl⟩)
  obtain ⟨q, hq, eq⟩ := List.mem_map.mp hm
  exact h1 q hq (by rw [eq]; exact e)
theorem str_ext {a b : Str} (h : a.cps.toList = b.cps.toList) : a = b := by
  obtain ⟨⟨x⟩⟩ := a
  obtain ⟨⟨y⟩⟩ := b
  cases (show x = y from h)
  rfl
theorem wl_eq (kd : Str) (n : Nat) : wl ⟨#[lettC kd]⟩ n = lett ([Str.ofString "way", kd] ++ List.replicate (n - 2) kd) := by
  refine str_ext ?_
  have e1 : (wl ⟨#[lettC kd]⟩ n).cps.toList = 119 :: List.replicate (max 1 (n - 1)) (lettC kd) := by
    unfold wl repS
    have ew : (Str.ofString "w").cps = #[119] := by decide +kernel
    show ((Str.ofString "w").cps ++ (List.toArray _)).toList = _
    rw [ew]
    simp
  have e2 : (lett ([Str.ofString "way", kd] ++ List.replicate (n - 2) kd)).cps.toList = 119 :: lettC kd :: List.replicate (n - 2) (lettC kd) := by
    unfold lett
    have ey : lettC (Str.ofString "way") = 119 := by decide +kernel
    simp [ey]
  have e3 : max 1 (n - 1) = (n - 2) + 1 := by omega
  rw [e1, e2, e3, List.replicate_succ]
theorem fixed_k : ∀ p ∈ partsL, p.1 ∉ withL → ((KS1 ++ KS2).find? fun q => decide (q.1 = p.1)).map (·.2) = some (lett p.2) := by decide +kernel
theorem with_not : ∀ x ∈ withL, ((KS1 ++ KS2).find? fun q => decide (q.1 = x)) = none := by decide +kernel
theorem parts_len : ∀ p ∈ partsL, p.2.length ≤ 3 := by decide +kernel
theorem kinds_len {nm : Str} {n : Nat} {ks : List Str} (h : kindsFor nm n = some ks) : ks.length ≤ n + 3 := by
  unfold kindsFor at h
  obtain ⟨ks0, h0, rfl⟩ := Option.map_eq_some_iff.mp h
  unfold kindsOf at h0
  obtain ⟨p, hp, rfl⟩ := Option.map_eq_some_iff.mp h0
  have := parts_len p (List.mem_of_find?_eq_some hp)
  split
  · rw [List.length_append, List.length_replicate]
    omega
  · omega
theorem km_with (n : Nat) {p : Str × List Str} (hp : p ∈ partsL) (hw : p.1 ∈ withL) : ∃ kd, p.2 = [Str.ofString "way", kd] ∧ ((KM n).find? fun q => decide (q.1 = p.1)) = some (p.1, wl ⟨#[lettC kd]⟩ n) := by
  have hn := with_not p.1 hw
  unfold KM
  rw [List.find?_append, hn]
  unfold partsL at hp
  simp only [List.mem_cons, List.not_mem_nil, or_false] at hp
  rcases hp with rfl | rfl | rfl | rfl | rfl | rfl | rfl | rfl | rfl | rfl | rfl | rfl | rfl | rfl | rfl | rfl | rfl | rfl
  all_goals first
    | (exfalso; revert hw; decide +kernel)
    | exact ⟨_, rfl, rfl⟩
theorem km_some {nm : Str} {n : Nat} {ks : List Str} (h : kindsFor nm n = some ks) : valV (toK (KM n)) (.inr nm) = some (.str (lett ks)) := by
  unfold kindsFor at h
  obtain ⟨ks0, h0, rfl⟩ := Option.map_eq_some_iff.mp h
  unfold kindsOf at h0
  obtain ⟨p, hp, rfl⟩ := Option.map_eq_some_iff.mp h0
  have hm := List.mem_of_find?_eq_some hp
  have hn : p.1 = nm := by
    have z : decide (p.1 = nm) = true := List.find?_some (p := fun p : Str × List Str => decide (p.1 = nm)) hp
    exact of_decide_eq_true z
  subst hn
  rw [val_K]
  by_cases hw : p.1 ∈ withL
  · obtain ⟨kd, e, hf⟩ := km_with n hm hw
    rw [hf, if_pos hw, e]
    show some (V.str (wl _ n)) = some (V.str (lett _))
    rw [wl_eq]
    rfl
  · have hf := fixed_k p hm hw
    obtain ⟨q, hq, eq⟩ := Option.map_eq_some_iff.mp hf
    unfold KM
    rw [List.find?_append, hq, if_neg hw, ← eq]
    rfl
theorem kd_lett {kd : Str} (h : Kd kd) : KdL kd ⟨#[lettC kd]⟩ := by
  cases h with
  | n => exact (show (⟨#[lettC "number"]⟩ : Str) = "n" by decide +kernel) ▸ KdL.n
  | w => exact (show (⟨#[lettC "way"]⟩ : Str) = "w" by decide +kernel) ▸ KdL.w
  | t => exact (show (⟨#[lettC "word"]⟩ : Str) = "t" by decide +kernel) ▸ KdL.t
def foundV (ks ts : List Str) : List V := (ks.zip ts).map fun p => (partV p.1 p.2).getD .non
theorem partV_ne {k t : Str} {x : V} (h : partV k t = some x) : x ≠ .non := by
  unfold partV at h
  split at h
  · split at h
    · cases h; nofun
    · cases h
  · split at h
    · split at h
      · cases h; nofun
      · cases h
    · split at h
      · cases h; nofun
      · cases h
theorem found_some : ∀ {ks ts : List Str} {xs : List V}, partsV ks ts = some xs → foundV ks ts = xs ∧ ∀ x ∈ xs, x ≠ .non
  | [], [], xs, h => by cases Option.some.inj h; exact ⟨rfl, by simp⟩
  | k :: ks, t :: ts, xs, h => by
    unfold partsV at h
    cases e1 : partV k t with
    | none => rw [e1] at h; cases h
    | some x =>
      rw [e1] at h
      cases e2 : partsV ks ts with
      | none => rw [e2] at h; cases h
      | some ys =>
        rw [e2] at h
        cases Option.some.inj h
        obtain ⟨h1, h2⟩ := found_some e2
        refine ⟨?_, fun y hy => ?_⟩
        · show (partV k t).getD .non :: foundV ks ts = _
          rw [e1, h1]
          rfl
        · rcases List.mem_cons.mp hy with rfl | hy
          · exact partV_ne e1
          · exact h2 y hy
  | [], _ :: _, _, h => by cases h
  | _ :: _, [], _, h => by cases h
theorem found_none : ∀ {ks ts : List Str}, ks.length = ts.length → partsV ks ts = none → V.non ∈ foundV ks ts
  | [], [], _, h => by cases h
  | k :: ks, t :: ts, hl, h => by
    unfold partsV at h
    show V.non ∈ (partV k t).getD .non :: foundV ks ts
    cases e1 : partV k t with
    | none => exact List.mem_cons_self
    | some x =>
      rw [e1] at h
      cases e2 : partsV ks ts with
      | none => exact List.mem_cons_of_mem _ (found_none (by simpa using hl) e2)
      | some ys => rw [e2] at h; cases h
  | [], _ :: _, hl, _ => by simp at hl
  | _ :: _, [], hl, _ => by simp at hl
theorem partV_flat (k t : Str) : flatV ((partV k t).getD .non) = true := by
  unfold partV
  split
  · split <;> rfl
  · split
    · split <;> rfl
    · split <;> rfl
theorem found_flat (ks ts : List Str) : (foundV ks ts).all flatV = true := by
  unfold foundV
  rw [List.all_map]
  exact List.all_eq_true.mpr fun p _ => partV_flat p.1 p.2
theorem inV_non (xs : List V) : inV .non xs = true ↔ V.non ∈ xs := by
  unfold inV
  rw [List.any_eq_true]
  constructor
  · rintro ⟨y, hy, e⟩
    cases y <;> first | exact hy | cases e
  · exact fun h => ⟨_, h, rfl⟩
theorem lett_len (ks : List Str) : (lett ks).length = ks.length := by
  unfold lett
  show (List.toArray _).size = _
  rw [List.size_toArray, List.length_map]
def sp_l_meant : Sp := fun vs H Q _ => ∃ t : Str, vs = [.str t] ∧ t.length ≤ 900 ∧
  (∀ nm xs, deedOf t = some (nm, xs) → ∀ (r : Addr) (H' : Hp), H r = none → Kp H H' → H' r = some (.tup (.str nm :: xs)) → Q (.ref r) H') ∧ (deedOf t = none → ∀ H', Kp H H' → Q .non H')
theorem ok_l_meant (T : Txt K mg) : FnOk P w K mg base CX0 3 T.f_l_meant T.d_l_meant ["_law_text"] sp_l_meant := by
  refine T.F_l_meant.ok sc_l_meant (fun vs H Q E h => ?_) (fun cdv A outer s H vs Q E hr h => ?_)
  · obtain ⟨t, rfl, _⟩ := h
    rfl
  · obtain ⟨t, rfl, hl, k, kE⟩ := h
    have hu := hu_of hr
    refine ⟨_, (pss_cons (ps_set (i := 1) sc_l_meant.nd rfl (by first | exact Or.inl rfl | exact Or.inr rfl) (pe_split (pv 0) pe_str))
      (pss_cons (ps_set (i := 2) sc_l_meant.nd rfl (by first | exact Or.inl rfl | exact Or.inr rfl) (pe_disp (pps_cons pe_str pe_str (pps_cons pe_str pe_str (pps_cons pe_str pe_str (pps_cons pe_str pe_str (pps_cons pe_str pe_str (pps_cons pe_str pe_str (pps_cons pe_str pe_str (pps_cons pe_str pe_str pps_nil)))))))) rfl rfl (by intro z; cases z) (by decide)))
      (pss_cons (ps_expr (pe_bm PySem.F.plainAttrs_dict PySem.F.slot_dict_update PySem.F.type_dict_update mt_update (pv 2) (pa_cons (pe_disp (pps_cons pe_str pe_str (pps_cons pe_str pe_str (pps_cons pe_str pe_str (pps_cons pe_str pe_str (pps_cons pe_str pe_str (pps_cons pe_str pe_str (pps_cons pe_str pe_str pps_nil))))))) rfl rfl (by intro z; cases z) (by decide)) pa_nil)))
      (pss_cons (ps_for PassesOwn.never rfl (pi_tup (pe_tup (pa_cons (pe_tup (pa_cons pe_str (pa_cons pe_str pa_nil))) (pa_cons (pe_tup (pa_cons pe_str (pa_cons pe_str pa_nil))) (pa_cons (pe_tup (pa_cons pe_str (pa_cons pe_str pa_nil))) pa_nil))))) (pg_tup (n := 2) rfl (pgs_cons (pg_name (i := 3) sc_l_meant.nd rfl (by first | exact Or.inl rfl | exact Or.inr rfl)) (pgs_cons (pg_name (i := 4) sc_l_meant.nd rfl (by first | exact Or.inl rfl | exact Or.inr rfl)) pgs_nil)))
      (pss_one (ps_dput hu (pv 2) (pv 3) (pe_op op_add_str pe_str (pe_op op_repS (pv 4) (pe_callB (call_max2 rfl) (by rfl) T.m_max (by decide +kernel) (pa_cons pe_int (pa_cons (pe_op op_sub (pe_callB call_len_seq (by rfl) T.m_len PySem.boot_len (pa_cons (pv 1) pa_nil)) pe_int) pa_nil))))) rfl)))
      (pss_cons (ps_set (i := 5) sc_l_meant.nd rfl (by first | exact Or.inl rfl | exact Or.inr rfl) (pe_dget1 hu (pv 2) (pe_ix ix_list (pv 1) pe_int (fun _ _ => rfl)) ⟨rfl, rfl, rfl, rfl⟩))
      (pss_cons (ps_if (PW.pt (pw_or (pt_cmpR op_isN (pv 5) pe_non (nomark _)) (pw_or1 (pt_cmpR op_ne (pe_callB call_len_str (by rfl) T.m_len PySem.boot_len (pa_cons (pv 5) pa_nil)) (pe_op op_sub (pe_callB call_len_seq (by rfl) T.m_len PySem.boot_len (pa_cons (pv 1) pa_nil)) pe_int) (nomark _)))))
      (pss_one (ps_ret pe_non))
      pss_nil)
      (pss_cons (ps_setLc (i := 6) (own := [("_law_k", 7)]) (g := gName 7) (tt := tYes) (by rfl) sc_l_meant.nd rfl rfl (sw_true rfl rfl rfl (by decide +kernel)) (pi_range1 (by rfl) T.m_range (pa_cons (pe_callB call_len_str (by rfl) T.m_len PySem.boot_len (pa_cons (pv 5) pa_nil)) pa_nil)) (blkOk_by (own := [("_law_k", 7)]) (N := ["_law_text", "_law_parts", "_law_kinds", "_law_name", "_law_kind", "_law_form", "_law_found", "_law_k"]) (sc := defScope s_l_meant) (by decide +kernel)) (fun _ _ _ _ _ => (pg_name (i := 7) sc_l_meant.nd rfl (by first | exact Or.inl rfl | exact Or.inr rfl))) (fun _ _ _ _ _ => pts_nil) (fun _ _ _ _ _ => (pe_call (ok_l_part T) (hr.mono (by decide)) rfl T.g_l_part T.F_l_part.kp T.b_l_part .nil pass0 (pa_cons (pe_ix ix_str (pv 5) (pv 7) (fun _ _ => rfl)) (pa_cons (pe_ix (ix_listK K rfl) (pv 1) (pe_op op_add pe_int (pv 7)) (fun _ _ => rfl)) pa_nil)))))
      (pss_cons (ps_if (pt_cmpR op_in_seq pe_non (pv 6) rfl)
      (pss_one (ps_ret pe_non))
      pss_nil)
      (pss_one (ps_ret (pe_op op_catT (pe_tup (pa_cons (pe_ix ix_list (pv 1) pe_int (fun _ _ => rfl)) pa_nil)) (pe_callTy call_tuple_of (by rfl) T.m_tuple (by decide +kernel) (pa_cons (pv 6) pa_nil))))))))))))), ?_⟩
    obtain ⟨nm, ts, hsp⟩ := split_cons t
    obtain ⟨hsm, hts⟩ := split_small hsp
    refine ⟨_, rfl, ⟨_, rfl⟩, _, _, rfl, rfl, by decide +kernel, szl (by omega), fun p1 n1 => ?_⟩
    rw [hsp]
    generalize h_H1 : upd H p1 _ = H1
    have k_H1 : Kp H H1 := by rw [← h_H1]; exact .new n1
    have q_H1 := (congrFun h_H1 p1).symm.trans upd_same
    clear h_H1
    intro p2 n2
    refine ⟨upd_same, toK KS1, rfl, by decide, ?_⟩
    rw [upd_upd]
    refine ⟨_, rfl, .inr (.inr (.inl ⟨rfl, .inl ⟨_, upd_same⟩⟩)), fun p3 n3 => ?_⟩
    have ne32 : p3 ≠ p2 := fun e => by rw [e, upd_same] at n3; cases n3
    have n31 : H1 p3 = none := by rw [upd_ne ne32] at n3; exact n3
    refine ⟨upd_same, toK KS2, rfl, by decide, ?_⟩
    rw [upd_upd]
    refine ⟨p2, p3, toK KS1, toK KS2, rfl, rfl, ne32.symm, by rw [upd_ne ne32.symm]; exact upd_same, upd_same, by decide, ?_⟩
    have ne12 : p1 ≠ p2 := fun e => by rw [← e, q_H1] at n2; cases n2
    have ne13 : p1 ≠ p3 := fun e => by rw [← e, q_H1] at n31; cases n31
    have kp0 : Kp H (upd (upd (upd H1 p2 (.dK (mergeK [] (toK KS1)))) p3 (.dK (mergeK [] (toK KS2)))) p2 (.dK (mergeK (toK KS1) (toK KS2)))) := ((k_H1.mut (k_H1.free _ n2)).mut (k_H1.free _ n31)).mut (k_H1.free _ n2)
    have q1 : (upd (upd (upd H1 p2 (.dK (mergeK [] (toK KS1)))) p3 (.dK (mergeK [] (toK KS2)))) p2 (.dK (mergeK (toK KS1) (toK KS2)))) p1 = some (.lst ((nm :: ts).map V.str)) := by rw [upd_ne ne12, upd_ne ne13, upd_ne ne12]; exact q_H1
    generalize hG : (upd (upd (upd H1 p2 (.dK (mergeK [] (toK KS1)))) p3 (.dK (mergeK [] (toK KS2)))) p2 (.dK (mergeK (toK KS1) (toK KS2)))) = G0 at kp0 q1 ⊢
    have q2 : G0 p2 = some (.dK (toK (KS1 ++ KS2))) := by rw [← hG]; exact upd_same
    have nH : H p2 = none := k_H1.free _ n2
    clear hG
    refine ⟨szl (by show 2 ≤ 100000; decide), fun a na => ?_⟩
    generalize h_G1 : upd G0 a _ = G1
    have k_G1 : Kp G0 G1 := by rw [← h_G1]; exact .new na
    have q_G1 := (congrFun h_G1 a).symm.trans upd_same
    clear h_G1
    refine ⟨szl (by show 2 ≤ 100000; decide), fun b nb => ?_⟩
    generalize h_G2 : upd G1 b _ = G2
    have k_G2 : Kp G1 G2 := by rw [← h_G2]; exact .new nb
    have q_G2 := (congrFun h_G2 b).symm.trans upd_same
    clear h_G2
    refine ⟨szl (by show 2 ≤ 100000; decide), fun c nc => ?_⟩
    generalize h_G3 : upd G2 c _ = G3
    have k_G3 : Kp G2 G3 := by rw [← h_G3]; exact .new nc
    have q_G3 := (congrFun h_G3 c).symm.trans upd_same
    clear h_G3
    refine ⟨szl (by show 3 ≤ 100000; decide), fun p4 n4 => ?_⟩
    generalize h_G4 : upd G3 p4 _ = G4
    have k_G4 : Kp G3 G4 := by rw [← h_G4]; exact .new n4
    have q_G4 := (congrFun h_G4 p4).symm.trans upd_same
    clear h_G4
    have k34 := k_G4
    have k24 := k_G3.trans k34
    have k14 := k_G2.trans k24
    have k04 := k_G1.trans k14
    have ra := k14.same _ _ rfl q_G1
    have rb := k24.same _ _ rfl q_G2
    have rc := k34.same _ _ rfl q_G3
    have r1 := k04.same _ _ rfl q1
    have r2 := k04.same _ _ rfl q2
    have kp4 := kp0.trans k04
    have ner : ∀ {q : Addr} {xs : List V}, G4 q = some (.tup xs) → q ≠ p2 := fun h e => by rw [e, r2] at h; cases h
    have ne1 : p1 ≠ p2 := ne12
    clear k34 k24 k14 k04 q1 q2 q_G1 q_G2 q_G3 k_G1 k_G2 k_G3 k_G4 na nb nc n4 n3 n2 n31 n1 k_H1 q_H1 ne32 ne12 ne13
    refine ⟨p4, rfl, ⟨_, .inl (.inl q_G4)⟩, ?_⟩
    refine for_tup (K := K) (a := p4) (xs := [.ref a, .ref b, .ref c]) (fun i σ G => ∃ y z : Option V, σ = [some (.str t), some (.ref p1), some (.ref p2), y, z, none, none, none] ∧ Kp H G ∧ G p1 = some (.lst ((nm :: ts).map V.str)) ∧ G p2 = some (.dK (toK (KS1 ++ KS2 ++ (W3.take i).map fun p => (p.1, wl p.2 ts.length)))) ∧ ∀ q xs, G4 q = some (.tup xs) → G q = some (.tup xs))
      ⟨none, none, rfl, kp4, r1, r2, fun _ _ h => h⟩ (fun i σ G _ ⟨_, _, _, _, _, _, h⟩ => .inl (.inl (h _ _ q_G4))) ?_ ?_
    · rintro i x σ G hi ⟨y, z, rfl, kp, g1, g2, gt⟩
      obtain ⟨q, u, l, hw3, rfl, hq, hul⟩ : ∃ (q : Addr) (u l : Str), W3[i]? = some (u, l) ∧ x = .ref q ∧ G4 q = some (.tup [.str u, .str l]) ∧ l.length = 1 := by
        match i, hi with
        | 0, h => cases Option.some.inj h; exact ⟨_, _, _, rfl, rfl, ra, by decide +kernel⟩
        | 1, h => cases Option.some.inj h; exact ⟨_, _, _, rfl, rfl, rb, by decide +kernel⟩
        | 2, h => cases Option.some.inj h; exact ⟨_, _, _, rfl, rfl, rc, by decide +kernel⟩
        | i + 3, h => cases h
      refine ⟨q, _, rfl, .inl (.inl (gt _ _ hq)), rfl, _, _, rfl, _, _, rfl, rfl, ?_⟩
      have hi3 : i < 3 := (List.getElem?_eq_some_iff.mp hw3).1
      have hmx : (if (((nm :: ts).map V.str).length : Int) - 2 > 1 then (((nm :: ts).map V.str).length : Int) - 2 else 1) = ((max 1 (ts.length - 1) : Nat) : Int) := by
        rw [List.length_map, List.length_cons]
        split <;> omega
      have hrl : (repS l (max 1 (ts.length - 1))).length = max 1 (ts.length - 1) := by
        have e : l.cps.toList.length = 1 := by rw [← hul]; simp [Str.length]
        unfold repS
        show (List.toArray _).size = _
        rw [List.size_toArray, List.length_flatten, List.map_replicate, e, List.sum_replicate_nat]
        omega
      have ew : (Str.ofString "w").length = 1 := by decide +kernel
      refine ⟨_, rfl, _, rfl, p1, _, rfl, .inl (SqL.of g1), _, _, rfl, rfl, _, _, rfl, l, max 1 (ts.length - 1), rfl, congrArg V.int hmx, by omega, by omega, by omega, by omega, _, _, rfl, rfl, szl (by rw [ew, hrl]; omega), ?_⟩
      have hnk : u ∉ (KS1 ++ KS2 ++ (W3.take i).map fun p => (p.1, wl p.2 ts.length)).map (·.1) := by
        have e : (KS1 ++ KS2 ++ (W3.take i).map fun p => (p.1, wl p.2 ts.length)).map (·.1) = (KS1 ++ KS2 ++ W3.take i).map (·.1) := by
          simp
          rfl
        rw [e]
        match i, hw3 with
        | 0, h => cases Option.some.inj h; decide +kernel
        | 1, h => cases Option.some.inj h; decide +kernel
        | 2, h => cases Option.some.inj h; decide +kernel
        | i + 3, h => cases h
      refine ⟨_, rfl, _, rfl, p2, _, rfl, .k (k := .inr u) g2 (szt (by unfold toK; rw [List.length_map, List.length_append, List.length_map, List.length_take]; show 15 + _ < 100000; omega)), _, _, rfl, kp.mut nH, by rw [upd_ne ne1]; exact g1, ?_, fun q xs h => by rw [upd_ne (ner h)]; exact gt q xs h⟩
      rw [upd_same]
      show some (HO.dK (putK _ (Sum.inr u) (.str (wl l ts.length)))) = _
      rw [put_K hnk, List.take_add_one, hw3, List.append_assoc, List.map_append]
      rfl
    · rintro σ G ⟨y, z, rfl, kp, g1, g2, gt⟩
      have g2 : G p2 = some (.dK (toK (KM ts.length))) := g2
      clear gt r1 r2 ra rb rc ner kp4
      have hat : atI ((nm :: ts).map V.str) 0 = some (.str nm) := atI_nat (j := 0) rfl
      refine ⟨_, rfl, p2, rfl, .inl ⟨_, .inl g2⟩, _, rfl, p1, _, _, _, rfl, rfl, .inl (.inl g1), hat, _, .k (k := .inr nm) g2, ?_⟩
      cases hk : kindsFor nm ts.length with
      | none =>
        rw [km_none hk]
        refine ⟨_, rfl, rfl, _, rfl, iteTo (decide_eq_true rfl) (iteT (kE ?_ _ kp))⟩
        unfold deedOf
        rw [hsp]
        show (kindsFor nm ts.length).bind _ = none
        rw [hk]
        rfl
      | some ks =>
      have hdo : deedOf t = (partsV ks ts).map fun xs => (nm, xs) := by
        unfold deedOf
        rw [hsp]
        show (kindsFor nm ts.length).bind _ = _
        rw [hk]
        rfl
      rw [km_some hk]
      have hkl : ks.length ≤ 2000 := by
        have := kinds_len hk
        omega
      have hz : (lett ks).length ≤ sizeLine := szl (by rw [lett_len]; omega)
      refine ⟨_, rfl, rfl, _, rfl, iteFo (decide_eq_false (by nofun)) ?_⟩
      refine ⟨_, rfl, lett ks, rfl, hz, _, rfl, p1, _, rfl, .inl (SqL.of g1), _, _, rfl, rfl, rfl, _, rfl, iteN (fun c => ?_) (fun c => ?_)⟩
      · refine kE ?_ _ kp
        rw [hdo, partsV_len fun z => c ?_]
        · rfl
        · rw [lett_len, List.length_map, List.length_cons, z]
          show V.int _ = V.int _
          congr 1
          omega
      have hlen : ks.length = ts.length := by
        have := V.int.inj c
        rw [lett_len, List.length_map, List.length_cons] at this
        omega
      refine ⟨_, rfl, lett ks, rfl, hz, _, rfl, by omega, by rw [lett_len]; omega, fun D hD => ?_⟩
      refine lc_range (n := ((lett ks).length : Int).toNat) (fun i G' => Kp G G' ∧ G' D = some (.lst ((foundV ks ts).take i))) ⟨Kp.new hD, upd_same⟩ ?_ ?_
      · rintro i G' hi ⟨kg, hs⟩
        rw [lett_len, Int.toNat_natCast] at hi
        have hi2 : i < ts.length := by omega
        have e1 : ks[i]? = some ks[i] := List.getElem?_eq_getElem hi
        have hc : atI (lett ks).cps.toList (0 + (i : Int)) = some (lettC ks[i]) := by
          rw [Int.zero_add]
          refine atI_nat ?_
          show (List.toArray (ks.map lettC)).toList[i]? = _
          rw [List.getElem?_map, e1]
          rfl
        have hat1 : atI ((nm :: ts).map V.str) (1 + (0 + (i : Int))) = some (.str ts[i]) := by
          have z : (1 : Int) + (0 + (i : Int)) = ((i + 1 : Nat) : Int) := by omega
          rw [z]
          refine atI_nat ?_
          rw [List.getElem?_map, List.getElem?_cons_succ, List.getElem?_eq_getElem hi2]
          rfl
        refine ⟨rfl, ?_⟩
        refine ⟨_, rfl, _, rfl, lett ks, _, _, rfl, rfl, hz, hc, _, rfl, _, rfl, _, _, rfl, rfl, p1, _, _, _, rfl, rfl, .inl (.inl (kg.same _ _ rfl g1)), hat1, ?_⟩
        have hu2 := hsm ts[i] (List.mem_cons_of_mem _ (List.getElem_mem hi2))
        refine ⟨ks[i], _, ts[i], rfl, kd_lett (kindsFor_kd hk _ (List.getElem_mem hi)), by omega, fun G2 k2 => ⟨_, k2.same _ _ rfl hs, szt (by rw [List.length_take]; omega), (kg.trans k2).mut hD, ?_⟩⟩
        rw [upd_same, List.take_add_one]
        have e3 : (foundV ks ts)[i]? = some ((partV ks[i] ts[i]).getD .non) := by
          unfold foundV
          rw [List.getElem?_map, (List.getElem?_zip_eq_some (z := (ks[i], ts[i]))).mpr ⟨e1, List.getElem?_eq_getElem hi2⟩]
          rfl
        rw [e3]
        rfl
      · rintro G' ⟨kg, hs⟩
        have hfl : (foundV ks ts).length = ks.length := by
          unfold foundV
          rw [List.length_map, List.length_zip]
          omega
        rw [lett_len, Int.toNat_natCast, ← hfl, List.take_length] at hs
        have kpG := kp.trans kg
        refine ⟨_, rfl, D, _, rfl, .inl (SqL.of hs), rfl, found_flat ks ts, _, rfl, iteB (fun c => ?_) (fun c => ?_)⟩
        · refine kE ?_ _ kpG
          rw [hdo]
          cases e : partsV ks ts with
          | none => rfl
          | some xs =>
            obtain ⟨h1, h2⟩ := found_some e
            exact absurd rfl (h2 .non (h1 ▸ (inV_non _).mp c))
        · cases e : partsV ks ts with
          | none =>
            have := (inV_non _).mpr (found_none hlen e)
            rw [this] at c
            cases c
          | some xs =>
            obtain ⟨h1, _⟩ := found_some e
            rw [h1] at hs hfl
            have hd := hdo
            rw [e] at hd
            refine ⟨_, rfl, p1, _, _, _, rfl, rfl, .inl (.inl (kg.same _ _ rfl g1)), hat, szl (by show 1 ≤ 100000; decide), fun q nq => ?_⟩
            generalize h_Q1 : upd G' q _ = Q1
            have k_Q1 : Kp G' Q1 := by rw [← h_Q1]; exact .new nq
            have q_Q1 := (congrFun h_Q1 q).symm.trans upd_same
            clear h_Q1
            refine ⟨_, rfl, D, _, rfl, .inl ⟨.inl (.inl (k_Q1.same _ _ rfl hs)), fun l nl => ?_⟩⟩
            generalize h_Q2 : upd Q1 l _ = Q2
            have k_Q2 : Kp Q1 Q2 := by rw [← h_Q2]; exact .new nl
            have q_Q2 := (congrFun h_Q2 l).symm.trans upd_same
            clear h_Q2
            have kpQ := (kpG.trans k_Q1).trans k_Q2
            have hq2 := k_Q2.same _ _ rfl q_Q1
            refine ⟨q, l, _, _, rfl, rfl, .inl (.inl hq2), .inl (.inl q_Q2), by simp, szl (by rw [hfl]; show 1 + _ ≤ 100000; omega), fun z => ?_, fun _ r nr => ?_⟩
            · subst z
              exact k nm [] hd q _ (kpG.free _ nq) kpQ hq2
            · exact k nm xs hd r _ (kpQ.free _ nr) (kpQ.mut (kpQ.free _ nr)) upd_same
/-! ### a deed that may be drawn -/
def FitAll (ks : List Str) (xs : List V) : Prop := ks.length = xs.length ∧ ∀ (i : Nat) (k : Str) (x : V), ks[i]? = some k → xs[i]? = some x → Fit k x
def WL : List Str := ["send", "express", "say"]
def DeedOk (K : PySem.W.Frag) (A : Addr) (name : Str) (xs : List V) : Prop := ∃ ks0 : List Str, PartK K A name ks0 ∧ 32 ∉ name.cps.toList ∧ name.length ≤ 12 ∧ xs.length ≤ 12 ∧
  ((inV (.str name) (WL.map V.str) = true ∧ ∃ k1 k2, ks0 = [k1, k2] ∧ 2 ≤ xs.length ∧ FitAll ([k1, k2] ++ List.replicate (xs.length - 2) k2) xs) ∨ (inV (.str name) (WL.map V.str) = false ∧ FitAll ks0 xs))
theorem FitAll.parts {ks : List Str} {xs : List V} (h : FitAll ks xs) : ∀ x ∈ xs, Part x ∧ 32 ∉ (tx x).cps.toList := by
  intro x hx
  obtain ⟨i, hi⟩ := List.getElem?_of_mem hx
  have hl := (List.getElem?_eq_some_iff.mp hi).1
  have := h.2 i (ks[i]'(by rw [h.1]; exact hl)) x (List.getElem?_eq_getElem _) hi
  exact ⟨this.part, this.free⟩
theorem DeedOk.parts {K : PySem.W.Frag} {A : Addr} {name : Str} {xs : List V} (h : DeedOk K A name xs) : ∀ x ∈ V.str name :: xs, Part x ∧ 32 ∉ (tx x).cps.toList := by
  obtain ⟨ks0, _, hb, hn, hl, h⟩ := h
  intro x hx
  rcases List.mem_cons.mp hx with rfl | hx
  · exact ⟨.inr ⟨name, rfl, hn⟩, hb⟩
  · rcases h with ⟨_, k1, k2, _, _, h⟩ | ⟨_, h⟩
    · exact h.parts x hx
    · exact h.parts x hx
/-! ### any deed -/
theorem fit_nil : FitAll [] [] := ⟨rfl, fun i k x h => by simp at h⟩
theorem FitAll.cons {k : Str} {x : V} {ks : List Str} {xs : List V} (h : Fit k x) (hs : FitAll ks xs) : FitAll (k :: ks) (x :: xs) := by
  refine ⟨by simp [hs.1], fun i k' x' e1 e2 => ?_⟩
  cases i with
  | zero =>
    cases Option.some.inj e1
    cases Option.some.inj e2
    exact h
  | succ i => exact hs.2 i k' x' (by simpa using e1) (by simpa using e2)
theorem fit_int {z : Int} (h0 : 0 ≤ z) (h1 : z ≤ 999999) : Fit "number" (.int z) := by
  have := Fit.num z.toNat (by omega)
  rw [Int.toNat_of_nonneg h0] at this
  exact this
theorem fit_ints : ∀ zs : List Int, (∀ z ∈ zs, 0 ≤ z ∧ z ≤ 999999) → FitAll (List.replicate zs.length "number") (zs.map V.int)
  | [], _ => fit_nil
  | z :: r, h => .cons (fit_int (h z List.mem_cons_self).1 (h z List.mem_cons_self).2) (fit_ints r fun y hy => h y (List.mem_cons_of_mem _ hy))
theorem fit_words : ∀ ws : List Str, (∀ t ∈ ws, isW t = true) → FitAll (List.replicate ws.length "word") (ws.map V.str)
  | [], _ => fit_nil
  | t :: r, h => .cons (.word t (h t List.mem_cons_self)) (fit_words r fun y hy => h y (List.mem_cons_of_mem _ hy))
def W21 : List Str := ["send", "express", "say", "recall", "act", "slip", "doze", "wake", "fog", "lift", "beat", "settle", "turn", "lose", "burn", "ask", "enter", "strike", "send", "say", "slip"]
theorem at_21 (n : Int) : ∃ t ∈ W21, atI (W21.map V.str) (n % 21) = some (.str t) := by
  have h0 : 0 ≤ n % 21 := Int.emod_nonneg _ (by decide)
  have h1 : n % 21 < 21 := Int.emod_lt_of_pos _ (by decide)
  have hj : (n % 21).toNat < W21.length := by
    show (n % 21).toNat < 21
    omega
  refine ⟨W21[(n % 21).toNat], List.getElem_mem _, ?_⟩
  have e := atI_nat (xs := W21.map V.str) (j := (n % 21).toNat) (v := .str W21[(n % 21).toNat]) (by rw [List.getElem?_map, List.getElem?_eq_getElem hj]; rfl)
  rw [Int.toNat_of_nonneg h0] at e
  exact e
theorem at_2 (n : Int) : ∃ t : Str, (t = "up" ∨ t = "down") ∧ atI ([Str.ofString "up", Str.ofString "down"].map V.str) (n % 2) = some (.str t) := by
  have h0 : 0 ≤ n % 2 := Int.emod_nonneg _ (by decide)
  have h1 : n % 2 < 2 := Int.emod_lt_of_pos _ (by decide)
  have : n % 2 = 0 ∨ n % 2 = 1 := by omega
  rcases this with e | e
  · rw [e]
    exact ⟨"up", .inl rfl, rfl⟩
  · rw [e]
    exact ⟨"down", .inr rfl, rfl⟩
theorem at_6 {z : Int} (h0 : 0 ≤ z) (h1 : z < 9240) : ∃ v : Int, (0 ≤ v ∧ v ≤ 999999) ∧ atI [V.int (z % 100), V.int (z % 10), V.int (999999 - z), V.int (z * 108), V.int 0, V.int 999999] (z / 100 % 6) = some (.int v) := by
  have a0 : 0 ≤ z / 100 % 6 := Int.emod_nonneg _ (by decide)
  have a1 : z / 100 % 6 < 6 := Int.emod_lt_of_pos _ (by decide)
  have : z / 100 % 6 = 0 ∨ z / 100 % 6 = 1 ∨ z / 100 % 6 = 2 ∨ z / 100 % 6 = 3 ∨ z / 100 % 6 = 4 ∨ z / 100 % 6 = 5 := by omega
  rcases this with e | e | e | e | e | e <;> rw [e]
  · exact ⟨z % 100, by omega, rfl⟩
  · exact ⟨z % 10, by omega, rfl⟩
  · exact ⟨999999 - z, by omega, rfl⟩
  · exact ⟨z * 108, by omega, rfl⟩
  · exact ⟨0, by omega, rfl⟩
  · exact ⟨999999, by omega, rfl⟩
theorem name_ok : ∀ t ∈ W21, 32 ∉ t.cps.toList ∧ t.length ≤ 12 := by decide +kernel
theorem cut_mid {ns : List Int} {i j : Nat} (h : i ≤ j) (hj : j ≤ ns.length) : cutV (ns.map V.int) (some (i : Int)) (some (j : Int)) = ((ns.drop i).take (j - i)).map V.int := by
  unfold cutV
  rw [List.length_map, HT.sIx_nat, HT.sIx_nat, Nat.min_eq_left hj, Nat.min_eq_left (by omega), List.map_take, List.map_drop]
theorem cut_to {ns : List Int} {i : Nat} : cutV (ns.map V.int) none (some (i : Int)) = (ns.take i).map V.int := by
  unfold cutV
  rw [List.length_map]
  have e1 : HT.sIx ns.length 0 none = 0 := rfl
  rw [e1, HT.sIx_nat, List.drop_zero, Nat.sub_zero, List.map_take]
  by_cases c : i ≤ ns.length
  · rw [Nat.min_eq_left c]
  · rw [Nat.min_eq_right (by omega), List.take_of_length_le (by rw [List.length_map]; omega), List.take_of_length_le (by rw [List.length_map]; omega)]
theorem n_se : ∀ t ∈ W21, inV (.str t) [.str "send", .str "express"] = true → t = "send" ∨ t = "express" := by decide +kernel
theorem n_la : ∀ t ∈ W21, inV (.str t) [.str "lose", .str "ask"] = true → t = "lose" ∨ t = "ask" := by decide +kernel
theorem n_bst : ∀ t ∈ W21, inV (.str t) [.str "beat", .str "settle", .str "turn"] = true → t = "beat" ∨ t = "settle" ∨ t = "turn" := by decide +kernel
theorem n_rest : ∀ t ∈ W21, inV (.str t) [.str "send", .str "express"] = false → ¬ V.str t = V.str "say" → ¬ V.str t = V.str "recall" → inV (.str t) [.str "lose", .str "ask"] = false → ¬ V.str t = V.str "enter" → ¬ V.str t = V.str "strike" → ¬ V.str t = V.str "slip" →
    inV (.str t) [.str "beat", .str "settle", .str "turn"] = false → t = "act" ∨ t = "doze" ∨ t = "wake" ∨ t = "fog" ∨ t = "lift" ∨ t = "burn" := by decide +kernel
theorem fit_send {way : Str} (hw : way = "up" ∨ way = "down") : ∀ {zs : List Int}, 1 ≤ zs.length → (∀ z ∈ zs, 0 ≤ z ∧ z ≤ 999999) → FitAll ([Str.ofString "way", Str.ofString "number"] ++ List.replicate ((V.str way :: zs.map V.int).length - 2) (Str.ofString "number")) (V.str way :: zs.map V.int)
  | [], h, _ => absurd h (by simp)
  | z :: r, _, h => by
    have e : (V.str way :: (z :: r).map V.int).length - 2 = r.length := by simp
    rw [e]
    exact .cons (.way way hw) (.cons (fit_int (h z List.mem_cons_self).1 (h z List.mem_cons_self).2) (fit_ints r fun y hy => h y (List.mem_cons_of_mem _ hy)))
theorem fit_say {way : Str} (hw : way = "up" ∨ way = "down") : ∀ {ws : List Str}, 1 ≤ ws.length → (∀ t ∈ ws, isW t = true) → FitAll ([Str.ofString "way", Str.ofString "word"] ++ List.replicate ((V.str way :: ws.map V.str).length - 2) (Str.ofString "word")) (V.str way :: ws.map V.str)
  | [], h, _ => absurd h (by simp)
  | t :: r, _, h => by
    have e : (V.str way :: (t :: r).map V.str).length - 2 = r.length := by simp
    rw [e]
    exact .cons (.way way hw) (.cons (.word t (h t List.mem_cons_self)) (fit_words r fun y hy => h y (List.mem_cons_of_mem _ hy)))
theorem deed_plain {K : PySem.W.Frag} {A : Addr} {name : Str} {ks : List Str} {xs : List V} (hp : PartK K A name ks) (hn : name ∈ W21) (hl : xs.length ≤ 12) (hw : inV (.str name) (WL.map V.str) = false) (hf : FitAll ks xs) : DeedOk K A name xs :=
  ⟨ks, hp, (name_ok name hn).1, (name_ok name hn).2, hl, .inr ⟨hw, hf⟩⟩
def sp_l_any_deed (K : PySem.W.Frag) (A : Addr) : Sp := fun vs H Q _ => ∃ c : Int, vs = [.int c] ∧ ∀ (name : Str) (xs : List V) (r : Addr) (H' : Hp), H r = none → Kp H H' → H' r = some (.tup (.str name :: xs)) → DeedOk K A name xs → Q (.ref r) H'
theorem ok_l_any_deed (T : Txt K mg) : FnOk P w K mg base CX0 3 T.f_l_any_deed T.d_l_any_deed ["_law_cell_here"] (sp_l_any_deed K T.a_PARTS) := by
  refine T.F_l_any_deed.ok sc_l_any_deed (fun vs H Q E h => ?_) (fun cdv A outer s H vs Q E hr h => ?_)
  · obtain ⟨c, rfl, _⟩ := h
    rfl
  · obtain ⟨c, rfl, k⟩ := h
    refine ⟨_, (pss_cons (ps_set (i := 1) sc_l_any_deed.nd rfl (by first | exact Or.inl rfl | exact Or.inr rfl) (pe_call (ok_l_row T) (hr.mono (by decide)) rfl T.g_l_row T.F_l_row.kp T.b_l_row .nil pass0 (pa_cons (pv 0) (pa_cons pe_int (pa_cons pe_int pa_nil)))))
      (pss_cons (ps_set (i := 2) sc_l_any_deed.nd rfl (by first | exact Or.inl rfl | exact Or.inr rfl) (pe_lst (pa_cons pe_str (pa_cons pe_str (pa_cons pe_str (pa_cons pe_str (pa_cons pe_str (pa_cons pe_str (pa_cons pe_str (pa_cons pe_str (pa_cons pe_str (pa_cons pe_str (pa_cons pe_str (pa_cons pe_str pa_nil))))))))))))))
      (pss_cons (ps_set (i := 2) sc_l_any_deed.nd rfl (by first | exact Or.inl rfl | exact Or.inr rfl) (pe_op op_cat (pv 2) (pe_lst (pa_cons pe_str (pa_cons pe_str (pa_cons pe_str (pa_cons pe_str (pa_cons pe_str (pa_cons pe_str (pa_cons pe_str (pa_cons pe_str (pa_cons pe_str pa_nil))))))))))))
      (pss_cons (ps_set (i := 3) sc_l_any_deed.nd rfl (by first | exact Or.inl rfl | exact Or.inr rfl) (pe_ix ix_list (pv 2) (pe_op op_mod (pe_ix ix_list (pv 1) pe_int (fun _ _ => rfl)) pe_int) (fun _ _ => rfl)))
      (pss_cons (ps_set (i := 4) sc_l_any_deed.nd rfl (by first | exact Or.inl rfl | exact Or.inr rfl) (pe_lst pa_nil))
      (pss_cons (ps_for PassesOwn.never rfl (pi_list (pe_slice sl_list (pv 1) (po_some pe_int) (po_some pe_int))) (pg_name (i := 5) sc_l_any_deed.nd rfl (by first | exact Or.inl rfl | exact Or.inr rfl))
      (pss_one (ps_expr (pe_bm PySem.F.plainAttrs_list PySem.F.slot_list_append PySem.F.type_list_append mt_append (pv 4) (pa_cons (pe_ix ix_tup (pe_tup (pa_cons (pe_op op_mod (pv 5) pe_int) (pa_cons (pe_op op_mod (pv 5) pe_int) (pa_cons (pe_op op_sub pe_int (pv 5)) (pa_cons (pe_op op_mul (pv 5) pe_int) (pa_cons pe_int (pa_cons pe_int pa_nil))))))) (pe_op op_mod (pe_op op_fdiv (pv 5) pe_int) pe_int) (fun _ _ => rfl)) pa_nil)))))
      (Evl.pss_cut (ps_set (i := 6) sc_l_any_deed.nd rfl (by first | exact Or.inl rfl | exact Or.inr rfl) (pe_ix ix_tup (pe_tup (pa_cons pe_str (pa_cons pe_str pa_nil))) (pe_op op_mod (pe_ix ix_list (pv 1) pe_int (fun _ _ => rfl)) pe_int) (fun _ _ => rfl)))
      (pss_cons (ps_if (pt_cmpR op_in_seq (pv 3) (pe_tup (pa_cons pe_str (pa_cons pe_str pa_nil))) rfl)
      (pss_one (ps_ret (pe_op op_catT (pe_tup (pa_cons (pv 3) (pa_cons (pv 6) pa_nil))) (pe_callTy call_tuple_of (by rfl) T.m_tuple (by decide +kernel) (pa_cons (pe_slice sl_list (pv 4) po_none (po_some (pe_op op_add pe_int (pe_op op_mod (pe_ix ix_list (pv 1) pe_int (fun _ _ => rfl)) pe_int)))) pa_nil)))))
      pss_nil)
      (pss_cons (ps_if (pt_cmpR op_eq (pv 3) pe_str (nomark _))
      (pss_one (ps_ret (pe_op op_catT (pe_tup (pa_cons (pv 3) (pa_cons (pv 6) pa_nil))) (pe_callTy call_tuple_of (by rfl) T.m_tuple (by decide +kernel) (pa_cons (pe_lc (own := [("_law_num", 5)]) (g := gName 5) (tt := tYes) (by rfl) sc_l_any_deed.nd (pi_list (pe_slice sl_list (pv 1) (po_some pe_int) (po_some (pe_op op_add pe_int (pe_op op_mod (pe_ix ix_list (pv 1) pe_int (fun _ _ => rfl)) pe_int))))) (blkOk_by (own := [("_law_num", 5)]) (N := ["_law_cell_here", "_law_nums", "_law_kinds", "_law_kind", "_law_some", "_law_num", "_law_way"]) (sc := defScope s_l_any_deed) (by decide +kernel)) (fun _ _ _ _ _ => (pg_name (i := 5) sc_l_any_deed.nd rfl (by first | exact Or.inl rfl | exact Or.inr rfl))) (fun _ _ _ _ _ => pts_nil) (fun _ _ _ _ _ => (pe_call (ok_l_word T) (hr.mono (by decide)) rfl T.g_l_word T.F_l_word.kp T.b_l_word .nil pass0 (pa_cons (pv 5) pa_nil)))) pa_nil)))))
      pss_nil)
      (pss_cons (ps_if (pt_cmpR op_eq (pv 3) pe_str (nomark _))
      (pss_one (ps_ret (pe_tup (pa_cons (pv 3) (pa_cons (pv 6) pa_nil)))))
      pss_nil)
      (pss_cons (ps_if (pt_cmpR op_in_seq (pv 3) (pe_tup (pa_cons pe_str (pa_cons pe_str pa_nil))) rfl)
      (pss_one (ps_ret (pe_tup (pa_cons (pv 3) (pa_cons (pv 6) (pa_cons (pe_ix ix_list (pv 4) pe_int (fun _ _ => rfl)) (pa_cons (pe_ix ix_list (pv 4) pe_int (fun _ _ => rfl)) pa_nil)))))))
      pss_nil)
      (pss_cons (ps_if (pt_cmpR op_eq (pv 3) pe_str (nomark _))
      (pss_one (ps_ret (pe_tup (pa_cons (pv 3) (pa_cons (pe_ix ix_list (pv 4) pe_int (fun _ _ => rfl)) (pa_cons (pe_ix ix_list (pv 4) pe_int (fun _ _ => rfl)) (pa_cons (pe_call (ok_l_word T) (hr.mono (by decide)) rfl T.g_l_word T.F_l_word.kp T.b_l_word .nil pass0 (pa_cons (pe_ix ix_list (pv 1) pe_int (fun _ _ => rfl)) pa_nil)) pa_nil)))))))
      pss_nil)
      (pss_cons (ps_if (pt_cmpR op_eq (pv 3) pe_str (nomark _))
      (pss_one (ps_ret (pe_tup (pa_cons (pv 3) (pa_cons (pe_ix ix_list (pv 4) pe_int (fun _ _ => rfl)) (pa_cons (pe_ix ix_list (pv 4) pe_int (fun _ _ => rfl)) pa_nil))))))
      pss_nil)
      (pss_cons (ps_if (pt_cmpR op_eq (pv 3) pe_str (nomark _))
      (pss_one (ps_ret (pe_tup (pa_cons (pv 3) (pa_cons (pe_ix ix_list (pv 4) pe_int (fun _ _ => rfl)) (pa_cons (pe_ix ix_list (pv 4) pe_int (fun _ _ => rfl)) (pa_cons (pe_ix ix_list (pv 4) pe_int (fun _ _ => rfl)) pa_nil)))))))
      pss_nil)
      (pss_cons (ps_if (pt_cmpR op_in_seq (pv 3) (pe_tup (pa_cons pe_str (pa_cons pe_str (pa_cons pe_str pa_nil)))) rfl)
      (pss_one (ps_ret (pe_tup (pa_cons (pv 3) pa_nil))))
      pss_nil)
      (pss_one (ps_ret (pe_tup (pa_cons (pv 3) (pa_cons (pe_ix ix_list (pv 4) pe_int (fun _ _ => rfl)) pa_nil)))))))))))))))))))), ?_⟩
    refine ⟨_, rfl, _, _, _, rfl, by decide, by decide, by decide, by decide, fun nums p1 H1 n1 k1 q1 ⟨hl, hb⟩ => ?_⟩
    have hl30 : nums.length = 30 := by omega
    refine ⟨szl (by show 12 ≤ 100000; decide), fun p2 n2 => ?_⟩
    generalize h_H2 : upd H1 p2 _ = H2
    have k_H2 : Kp H1 H2 := by rw [← h_H2]; exact .new n2
    have q_H2 := (congrFun h_H2 p2).symm.trans upd_same
    clear h_H2
    refine ⟨_, rfl, szl (by show 9 ≤ 100000; decide), fun p3 n3 => ?_⟩
    generalize h_H3 : upd H2 p3 _ = H3
    have k_H3 : Kp H2 H3 := by rw [← h_H3]; exact .new n3
    have q_H3 := (congrFun h_H3 p3).symm.trans upd_same
    clear h_H3
    refine ⟨p2, p3, _, _, rfl, rfl, k_H3.same _ _ rfl q_H2, q_H3, szl (by show 21 ≤ 100000; decide), fun p4 n4 => ?_⟩
    generalize h_H4 : upd H3 p4 _ = H4
    have k_H4 : Kp H3 H4 := by rw [← h_H4]; exact .new n4
    have q_H4 := (congrFun h_H4 p4).symm.trans upd_same
    clear h_H4
    have k14 : Kp H1 H4 := (k_H2.trans k_H3).trans k_H4
    obtain ⟨name, hname, hat⟩ := at_21 nums[0]
    refine ⟨_, rfl, _, rfl, p1, _, _, _, rfl, rfl, .inl (.inl (k14.same _ _ rfl q1)), at_int (j := 0) (by omega), _, _, rfl, rfl, (by show (0 : Int) < 21; decide), p4, _, _, _, rfl, rfl, .inl (.inl q_H4), hat, ?_⟩
    refine ⟨Nat.zero_le _, fun p5 n5 => ?_⟩
    generalize h_H5 : upd H4 p5 _ = H5
    have k_H5 : Kp H4 H5 := by rw [← h_H5]; exact .new n5
    have q_H5 := (congrFun h_H5 p5).symm.trans upd_same
    clear h_H5
    refine ⟨_, rfl, _, rfl, _, rfl, p1, _, rfl, .inl (.inl (k_H5.same _ _ rfl (k14.same _ _ rfl q1))), fun p6 n6 => ?_⟩
    have ec : cutV (nums.map V.int) (some 3) (some 11) = ((nums.drop 3).take 8).map V.int := cut_mid (i := 3) (j := 11) (by omega) (by omega)
    have n65 : p6 ≠ p5 := fun e => by rw [e, q_H5] at n6; cases n6
    generalize h_H6 : upd H5 p6 _ = H6
    have k_H6 : Kp H5 H6 := by rw [← h_H6]; exact .new n6
    have q_H6 := (congrFun h_H6 p6).symm.trans upd_same
    clear h_H6
    have q6 : H6 p6 = some (.lst (((nums.drop 3).take 8).map V.int)) := by rw [← ec]; exact q_H6
    have k16 : Kp H1 H6 := (k14.trans k_H5).trans k_H6
    refine ⟨p6, rfl, ⟨_, .inl (.inl q6)⟩, for_list (K := K) (a := p6) (xs := ((nums.drop 3).take 8).map V.int)
      (fun i σ H' => ∃ (zs : List Int) (y : Option V), σ = [some (.int c), some (.ref p1), some (.ref p4), some (.str name), some (.ref p5), y, none] ∧ Kp H4 H' ∧ H' p6 = some (.lst (((nums.drop 3).take 8).map V.int)) ∧ H' p5 = some (.lst (zs.map V.int)) ∧ zs.length = i ∧ ∀ z ∈ zs, 0 ≤ z ∧ z ≤ 999999)
      ⟨[], none, rfl, k_H5.trans k_H6, q6, k_H6.same _ _ rfl q_H5, rfl, by simp⟩ (fun i σ H' _ ⟨_, _, _, _, h6, _⟩ => .inl (.inl h6)) ?_ ?_⟩
    · rintro i x σ H' hi ⟨zs, y, rfl, kp, h6, h5, hz, hzb⟩
      have hil := (List.getElem?_eq_some_iff.mp hi).1
      rw [List.length_map, List.length_take, List.length_drop] at hil
      obtain ⟨z, hzm, rfl, _⟩ := mem_ints hi
      obtain ⟨b0, b1⟩ := hb z (List.mem_of_mem_drop (List.mem_of_mem_take hzm))
      obtain ⟨v, hv, hat6⟩ := at_6 b0 b1
      refine ⟨_, rfl, .inl ⟨rfl, _, SqL.of h5⟩, _, rfl, _, _, rfl, rfl, (by show (0 : Int) < 100; decide), _, rfl, _, _, rfl, rfl, (by show (0 : Int) < 10; decide), _, rfl, _, _, rfl, rfl, _, rfl, _, _, rfl, rfl, .inr ⟨by decide, by decide⟩, szl (by show 6 ≤ 100000; decide), fun p7 n7 => ?_⟩
      generalize h_H7 : upd H' p7 _ = H7
      have k_H7 : Kp H' H7 := by rw [← h_H7]; exact .new n7
      have q_H7 := (congrFun h_H7 p7).symm.trans upd_same
      clear h_H7
      refine ⟨_, rfl, _, _, rfl, rfl, ⟨by decide, by decide⟩, _, _, rfl, rfl, (by show (0 : Int) < 6; decide), p7, _, _, _, rfl, rfl, .inl (.inl q_H7), hat6, p5, _, _, rfl, rfl, k_H7.same _ _ rfl h5, szt (by rw [List.length_map]; omega), ?_⟩
      refine ⟨zs ++ [v], _, rfl, (kp.trans k_H7).mut n5, ?_, ?_, by rw [List.length_append, hz]; rfl, fun y hy => ?_⟩
      · rw [upd_ne n65]
        exact k_H7.same _ _ rfl h6
      · rw [upd_same, List.map_append]
        rfl
      · rcases List.mem_append.mp hy with hy | hy
        · exact hzb y hy
        · rw [List.mem_singleton.mp hy]
          exact hv
    · rintro σ H' ⟨zs, y, rfl, kp, h6, h5, hz, hzb⟩
      rw [List.length_map, List.length_take, List.length_drop] at hz
      have hz8 : zs.length = 8 := by omega
      have kp0 : Kp H H' := (k1.trans k14).trans kp
      have h1 : H' p1 = some (.lst (nums.map V.int)) := kp.same _ _ rfl (k14.same _ _ rfl q1)
      clear kp h6 k16 q6 n6 n65 ec q_H6 k_H6 q_H5 k_H5 n5 k14 q_H4 k_H4 n4 q_H3 k_H3 n3 q_H2 k_H2 n2 k1 n1 q1 hat hz
      refine ⟨fun σ H'' => ∃ way : Str, σ = [some (.int c), some (.ref p1), some (.ref p4), some (.str name), some (.ref p5), y, some (.str way)] ∧ Kp H H'' ∧ H'' p1 = some (.lst (nums.map V.int)) ∧ H'' p5 = some (.lst (zs.map V.int)) ∧ (way = "up" ∨ way = "down"), ?_, ?_⟩
      · obtain ⟨way, hw, hat2⟩ := at_2 nums[1]
        refine ⟨szl (by show 2 ≤ 100000; decide), fun p8 n8 => ?_⟩
        generalize h_H8 : upd H' p8 _ = H8
        have k_H8 : Kp H' H8 := by rw [← h_H8]; exact .new n8
        have q_H8 := (congrFun h_H8 p8).symm.trans upd_same
        clear h_H8
        exact ⟨_, rfl, p1, _, _, _, rfl, rfl, .inl (.inl (k_H8.same _ _ rfl h1)), at_int (j := 1) (by omega), _, _, rfl, rfl, (by show (0 : Int) < 2; decide), p8, _, _, _, rfl, rfl, .inl (.inl q_H8), hat2, way, rfl, kp0.trans k_H8, k_H8.same _ _ rfl h1, k_H8.same _ _ rfl h5, hw⟩
      clear kp0 h1 h5
      rintro σ H0 ⟨way, rfl, kp, h1, h5, hw⟩
      have hs0 : ∀ z, z ∈ zs → 0 ≤ z ∧ z ≤ 999999 := hzb
      have a0 : atI (zs.map V.int) 0 = some (.int zs[0]) := at_int (j := 0) (by omega)
      have a1 : atI (zs.map V.int) 1 = some (.int zs[1]) := at_int (j := 1) (by omega)
      have a2 : atI (zs.map V.int) 2 = some (.int zs[2]) := at_int (j := 2) (by omega)
      have f0 : Fit "number" (.int zs[0]) := let h := hzb _ (List.getElem_mem (by omega)); fit_int h.1 h.2
      have f1 : Fit "number" (.int zs[1]) := let h := hzb _ (List.getElem_mem (by omega)); fit_int h.1 h.2
      have f2 : Fit "number" (.int zs[2]) := let h := hzb _ (List.getElem_mem (by omega)); fit_int h.1 h.2
      have m8 : 0 ≤ nums[2] % 8 := Int.emod_nonneg _ (by decide)
      have m8' : nums[2] % 8 < 8 := Int.emod_lt_of_pos _ (by decide)
      have m5 : 0 ≤ nums[2] % 5 := Int.emod_nonneg _ (by decide)
      have m5' : nums[2] % 5 < 5 := Int.emod_lt_of_pos _ (by decide)
      have fin : ∀ (Hx : Hp) (xs : List V) (p : Addr), Kp H Hx → Hx p = none → DeedOk K T.a_PARTS name xs → Q (.ref p) (upd Hx p (.tup (.str name :: xs))) := fun Hx xs p kx np hd => k name xs p _ (kx.free _ np) (kx.mut (kx.free _ np)) upd_same hd
      -- send, express
      refine ⟨_, rfl, szl (by show 2 ≤ 100000; decide), fun b1 nb1 => ?_⟩
      generalize h_G1 : upd H0 b1 _ = G1
      have k_G1 : Kp H0 G1 := by rw [← h_G1]; exact .new nb1
      have q_G1 := (congrFun h_G1 b1).symm.trans upd_same
      clear h_G1
      have kg1 := kp.trans k_G1
      have i1 := k_G1.same _ _ rfl h1
      have i5 := k_G1.same _ _ rfl h5
      refine ⟨b1, _, rfl, .inr (.inl (.inl q_G1)), rfl, rfl, _, rfl, iteB (fun c1 => ?_) (fun c1 => ?_)⟩
      · have hn := n_se name hname c1
        refine ⟨_, rfl, _, rfl, szl (by show 2 ≤ 100000; decide), fun b2 nb2 => ?_⟩
        generalize h_G2 : upd G1 b2 _ = G2
        have k_G2 : Kp G1 G2 := by rw [← h_G2]; exact .new nb2
        have q_G2 := (congrFun h_G2 b2).symm.trans upd_same
        clear h_G2
        refine ⟨_, rfl, _, rfl, p1, _, _, _, rfl, rfl, .inl (.inl (k_G2.same _ _ rfl i1)), at_int (j := 2) (by omega), _, _, rfl, rfl, (by show (0 : Int) < 8; decide), _, _, rfl, rfl, _, rfl, p5, _, rfl, .inl (.inl (k_G2.same _ _ rfl i5)), fun b3 nb3 => ?_⟩
        generalize h_G3 : upd G2 b3 _ = G3
        have k_G3 : Kp G2 G3 := by rw [← h_G3]; exact .new nb3
        have q_G3 := (congrFun h_G3 b3).symm.trans upd_same
        clear h_G3
        have ec : cutV (zs.map V.int) none (some (1 + nums[2] % 8)) = (zs.take (1 + nums[2] % 8).toNat).map V.int := by
          rw [← cut_to, Int.toNat_of_nonneg (by omega)]
        have q3 : G3 b3 = some (.lst ((zs.take (1 + nums[2] % 8).toNat).map V.int)) := by rw [← ec]; exact q_G3
        refine ⟨b3, _, rfl, .inl ⟨.inl (.inl q3), fun b4 nb4 => ?_⟩⟩
        generalize h_G4 : upd G3 b4 _ = G4
        have k_G4 : Kp G3 G4 := by rw [← h_G4]; exact .new nb4
        have q_G4 := (congrFun h_G4 b4).symm.trans upd_same
        clear h_G4
        have kg4 := ((kg1.trans k_G2).trans k_G3).trans k_G4
        have ht1 : (zs.take (1 + nums[2] % 8).toNat).length = (1 + nums[2] % 8).toNat := by rw [List.length_take]; omega
        refine ⟨b2, b4, _, _, rfl, rfl, .inl (.inl (k_G4.same _ _ rfl (k_G3.same _ _ rfl q_G2))), .inl (.inl q_G4), by simp, szl (by rw [List.length_map, ht1]; show 2 + _ ≤ 100000; omega), fun z => ?_, fun _ b5 nb5 => fin G4 (.str way :: (zs.take (1 + nums[2] % 8).toNat).map V.int) b5 kg4 nb5 ?_⟩
        · exfalso
          have := congrArg List.length z
          rw [List.length_map, ht1, List.length_nil] at this
          omega
        · have hf := fit_send hw (zs := zs.take (1 + nums[2] % 8).toNat) (by omega) fun z hz => hzb z (List.mem_of_mem_take hz)
          have hlen : (V.str way :: (zs.take (1 + nums[2] % 8).toNat).map V.int).length ≤ 12 := by rw [List.length_cons, List.length_map, ht1]; omega
          have hl2 : 2 ≤ (V.str way :: (zs.take (1 + nums[2] % 8).toNat).map V.int).length := by rw [List.length_cons, List.length_map, ht1]; omega
          rcases hn with rfl | rfl
          · exact ⟨_, T.pk_PARTS_send, (name_ok _ hname).1, (name_ok _ hname).2, hlen, .inl ⟨by decide +kernel, _, _, rfl, hl2, hf⟩⟩
          · exact ⟨_, T.pk_PARTS_express, (name_ok _ hname).1, (name_ok _ hname).2, hlen, .inl ⟨by decide +kernel, _, _, rfl, hl2, hf⟩⟩
      -- say
      refine ⟨_, rfl, rfl, _, rfl, iteD (fun c2 => ?_) (fun c2 => ?_)⟩
      · cases V.str.inj c2
        refine ⟨_, rfl, _, rfl, szl (by show 2 ≤ 100000; decide), fun b2 nb2 => ?_⟩
        generalize h_G2 : upd G1 b2 _ = G2
        have k_G2 : Kp G1 G2 := by rw [← h_G2]; exact .new nb2
        have q_G2 := (congrFun h_G2 b2).symm.trans upd_same
        clear h_G2
        refine ⟨_, rfl, _, rfl, _, rfl, p1, _, _, _, rfl, rfl, .inl (.inl (k_G2.same _ _ rfl i1)), at_int (j := 2) (by omega), _, _, rfl, rfl, (by show (0 : Int) < 5; decide), _, _, rfl, rfl, _, rfl, p1, _, rfl, .inl (.inl (k_G2.same _ _ rfl i1)), fun b3 nb3 => ?_⟩
        generalize h_G3 : upd G2 b3 _ = G3
        have k_G3 : Kp G2 G3 := by rw [← h_G3]; exact .new nb3
        have q_G3 := (congrFun h_G3 b3).symm.trans upd_same
        clear h_G3
        have ec : cutV (nums.map V.int) (some 11) (some (12 + nums[2] % 5)) = ((nums.drop 11).take ((12 + nums[2] % 5).toNat - 11)).map V.int := by
          rw [← cut_mid (i := 11) (j := (12 + nums[2] % 5).toNat) (by omega) (by omega), Int.toNat_of_nonneg (by omega)]
          rfl
        generalize hms : (nums.drop 11).take ((12 + nums[2] % 5).toNat - 11) = ms at ec
        have hml : ms.length = (12 + nums[2] % 5).toNat - 11 := by rw [← hms, List.length_take, List.length_drop]; omega
        have q3 : G3 b3 = some (.lst (ms.map V.int)) := by rw [← ec]; exact q_G3
        refine ⟨b3, rfl, ⟨_, .inl (.inl q3)⟩, fun D hD => ?_⟩
        refine lc_list (K := K) (a := b3) (xs := ms.map V.int) (fun i H' => Kp G3 H' ∧ ∃ ws : List Str, H' D = some (.lst (ws.map V.str)) ∧ ws.length = i ∧ ∀ t ∈ ws, isW t = true) ⟨Kp.new hD, [], upd_same, rfl, by simp⟩ (fun i H' _ ⟨kp, _⟩ => kp.sqL (.inl (.inl q3))) (fun i x H' hi ⟨kp', ws, hs, hn, hw1⟩ => ?_) (fun H' ⟨kp', ws, hs, hn, hw1⟩ => ?_)
        · have hil := (List.getElem?_eq_some_iff.mp hi).1
          rw [List.length_map] at hil
          obtain ⟨z, _, rfl, _⟩ := mem_ints hi
          refine ⟨rfl, _, rfl, _, rfl, fun t H2 ht k2 => ⟨ws.map V.str, k2.same _ _ rfl hs, szt (by rw [List.length_map]; omega), (kp'.trans k2).mut hD, ws ++ [t], ?_, by rw [List.length_append, hn]; rfl, fun y hy => ?_⟩⟩
          · rw [upd_same, List.map_append]
            rfl
          · rcases List.mem_append.mp hy with hy | hy
            · exact hw1 y hy
            · rw [List.mem_singleton.mp hy]
              exact ht
        · rw [List.length_map] at hn
          refine ⟨D, _, rfl, .inl ⟨.inl (.inl hs), fun b4 nb4 => ?_⟩⟩
          generalize h_G4 : upd H' b4 _ = G4
          have k_G4 : Kp H' G4 := by rw [← h_G4]; exact .new nb4
          have q_G4 := (congrFun h_G4 b4).symm.trans upd_same
          clear h_G4
          have kg4 := (((kg1.trans k_G2).trans k_G3).trans kp').trans k_G4
          refine ⟨b2, b4, _, _, rfl, rfl, .inl (.inl (k_G4.same _ _ rfl (kp'.same _ _ rfl (k_G3.same _ _ rfl q_G2)))), .inl (.inl q_G4), by simp, szl (by rw [List.length_map, hn, hml]; show 2 + _ ≤ 100000; omega), fun z => ?_, fun _ b5 nb5 => fin G4 (.str way :: ws.map V.str) b5 kg4 nb5 ?_⟩
          · exfalso
            have := congrArg List.length z
            rw [List.length_map, List.length_nil] at this
            omega
          · exact ⟨_, T.pk_PARTS_say, (name_ok _ hname).1, (name_ok _ hname).2, by rw [List.length_cons, List.length_map]; omega, .inl ⟨by decide +kernel, _, _, rfl, by rw [List.length_cons, List.length_map]; omega, fit_say hw (by omega) hw1⟩⟩
      -- recall
      refine ⟨_, rfl, rfl, _, rfl, iteD (fun c3 => ?_) (fun c3 => ?_)⟩
      · cases V.str.inj c3
        exact ⟨_, rfl, _, rfl, szl (by show 2 ≤ 100000; decide), fun b2 nb2 => fin G1 [.str way] b2 kg1 nb2 (deed_plain T.pk_PARTS_recall hname (by simp) (by decide +kernel) (.cons (.way way hw) fit_nil))⟩
      -- lose, ask
      refine ⟨_, rfl, szl (by show 2 ≤ 100000; decide), fun b2 nb2 => ?_⟩
      generalize h_G2 : upd G1 b2 _ = G2
      have k_G2 : Kp G1 G2 := by rw [← h_G2]; exact .new nb2
      have q_G2 := (congrFun h_G2 b2).symm.trans upd_same
      clear h_G2
      have kg2 := kg1.trans k_G2
      have j1 := k_G2.same _ _ rfl i1
      have j5 := k_G2.same _ _ rfl i5
      refine ⟨b2, _, rfl, .inr (.inl (.inl q_G2)), rfl, rfl, _, rfl, iteB (fun c4 => ?_) (fun c4 => ?_)⟩
      · refine ⟨_, rfl, _, rfl, _, rfl, p5, _, _, _, rfl, rfl, .inl (.inl j5), a0, _, rfl, p5, _, _, _, rfl, rfl, .inl (.inl j5), a1, szl (by show 4 ≤ 100000; decide), fun b3 nb3 => fin G2 [.str way, .int zs[0], .int zs[1]] b3 kg2 nb3 ?_⟩
        rcases n_la name hname c4 with rfl | rfl
        · exact deed_plain T.pk_PARTS_lose hname (by simp) (by decide +kernel) (.cons (.way way hw) (.cons f0 (.cons f1 fit_nil)))
        · exact deed_plain T.pk_PARTS_ask hname (by simp) (by decide +kernel) (.cons (.way way hw) (.cons f0 (.cons f1 fit_nil)))
      -- enter
      refine ⟨_, rfl, rfl, _, rfl, iteD (fun c5 => ?_) (fun c5 => ?_)⟩
      · cases V.str.inj c5
        exact ⟨_, rfl, _, rfl, p5, _, _, _, rfl, rfl, .inl (.inl j5), a0, _, rfl, p5, _, _, _, rfl, rfl, .inl (.inl j5), a1, _, rfl, p1, _, _, _, rfl, rfl, .inl (.inl j1), at_int (j := 11) (by omega), _, rfl, fun t H3 ht k3 => ⟨szl (by show 4 ≤ 100000; decide), fun b3 nb3 => fin H3 [.int zs[0], .int zs[1], .str t] b3 (kg2.trans k3) nb3
          (deed_plain T.pk_PARTS_enter hname (by simp) (by decide +kernel) (.cons f0 (.cons f1 (.cons (.word t ht) fit_nil))))⟩⟩
      -- strike
      refine ⟨_, rfl, rfl, _, rfl, iteD (fun c6 => ?_) (fun c6 => ?_)⟩
      · cases V.str.inj c6
        exact ⟨_, rfl, _, rfl, p5, _, _, _, rfl, rfl, .inl (.inl j5), a0, _, rfl, p5, _, _, _, rfl, rfl, .inl (.inl j5), a1, szl (by show 3 ≤ 100000; decide), fun b3 nb3 => fin G2 [.int zs[0], .int zs[1]] b3 kg2 nb3 (deed_plain T.pk_PARTS_strike hname (by simp) (by decide +kernel) (.cons f0 (.cons f1 fit_nil)))⟩
      -- slip
      refine ⟨_, rfl, rfl, _, rfl, iteD (fun c7 => ?_) (fun c7 => ?_)⟩
      · cases V.str.inj c7
        exact ⟨_, rfl, _, rfl, p5, _, _, _, rfl, rfl, .inl (.inl j5), a0, _, rfl, p5, _, _, _, rfl, rfl, .inl (.inl j5), a1, _, rfl, p5, _, _, _, rfl, rfl, .inl (.inl j5), a2, szl (by show 4 ≤ 100000; decide), fun b3 nb3 => fin G2 [.int zs[0], .int zs[1], .int zs[2]] b3 kg2 nb3 (deed_plain T.pk_PARTS_slip hname (by simp) (by decide +kernel) (.cons f0 (.cons f1 (.cons f2 fit_nil))))⟩
      -- beat, settle, turn
      refine ⟨_, rfl, szl (by show 3 ≤ 100000; decide), fun b3 nb3 => ?_⟩
      generalize h_G3 : upd G2 b3 _ = G3
      have k_G3 : Kp G2 G3 := by rw [← h_G3]; exact .new nb3
      have q_G3 := (congrFun h_G3 b3).symm.trans upd_same
      clear h_G3
      have kg3 := kg2.trans k_G3
      have l5 := k_G3.same _ _ rfl j5
      refine ⟨b3, _, rfl, .inr (.inl (.inl q_G3)), rfl, rfl, _, rfl, iteB (fun c8 => ?_) (fun c8 => ?_)⟩
      · refine ⟨_, rfl, szl (by show 1 ≤ 100000; decide), fun b4 nb4 => fin G3 [] b4 kg3 nb4 ?_⟩
        rcases n_bst name hname c8 with rfl | rfl | rfl
        · exact deed_plain T.pk_PARTS_beat hname (by simp) (by decide +kernel) fit_nil
        · exact deed_plain T.pk_PARTS_settle hname (by simp) (by decide +kernel) fit_nil
        · exact deed_plain T.pk_PARTS_turn hname (by simp) (by decide +kernel) fit_nil
      · refine ⟨_, rfl, _, rfl, p5, _, _, _, rfl, rfl, .inl (.inl l5), a0, szl (by show 2 ≤ 100000; decide), fun b4 nb4 => fin G3 [.int zs[0]] b4 kg3 nb4 ?_⟩
        rcases n_rest name hname c1 c2 c3 c4 c5 c6 c7 c8 with rfl | rfl | rfl | rfl | rfl | rfl
        · exact deed_plain T.pk_PARTS_act hname (by simp) (by decide +kernel) (.cons f0 fit_nil)
        · exact deed_plain T.pk_PARTS_doze hname (by simp) (by decide +kernel) (.cons f0 fit_nil)
        · exact deed_plain T.pk_PARTS_wake hname (by simp) (by decide +kernel) (.cons f0 fit_nil)
        · exact deed_plain T.pk_PARTS_fog hname (by simp) (by decide +kernel) (.cons f0 fit_nil)
        · exact deed_plain T.pk_PARTS_lift hname (by simp) (by decide +kernel) (.cons f0 fit_nil)
        · exact deed_plain T.pk_PARTS_burn hname (by simp) (by decide +kernel) (.cons f0 fit_nil)
/-! ### a text spoilt -/
def SIG : Str := " !\"#$&'()*+,-./0123456789:;<=>?@ABCDEFGHIJKLMNOPQRSTUVWXYZ[\\]^_`abcdefghijklmnopqrstuvwxyz{|}~\n"
theorem at_sgn {z : Str} {n : Nat} (m : Int) (hn : z.length = n) (h : 0 < n) : ∃ c, atI z.cps.toList (m % (n : Int)) = some c := by
  have h0 : 0 ≤ m % (n : Int) := Int.emod_nonneg _ (by omega)
  have h1 : m % (n : Int) < n := Int.emod_lt_of_pos _ (by omega)
  have el : z.cps.toList.length = z.length := by simp [Str.length]
  have hj : (m % (n : Int)).toNat < z.cps.toList.length := by omega
  refine ⟨z.cps.toList[(m % (n : Int)).toNat], ?_⟩
  have e := atI_nat (List.getElem?_eq_getElem hj)
  rw [Int.toNat_of_nonneg h0] at e
  exact e
theorem at_two (m : Int) (a b : Str) : ∃ u : Str, (u = a ∨ u = b) ∧ atI [V.str a, V.str b] (m % 2) = some (.str u) := by
  have : m % 2 = 0 ∨ m % 2 = 1 := by omega
  rcases this with e | e
  · rw [e]
    exact ⟨a, .inl rfl, rfl⟩
  · rw [e]
    exact ⟨b, .inr rfl, rfl⟩
theorem cut_len (z : Str) (lo hi : Option Int) : (cutS z lo hi).length ≤ z.length := by
  unfold cutS
  have el : z.cps.toList.length = z.length := by simp [Str.length]
  show (Array.size (List.toArray _)) ≤ z.length
  rw [List.size_toArray, List.length_take, List.length_drop]
  omega
def wt (qs : List Str) : Nat := (qs.map (·.length)).sum + qs.length
theorem join_ok {qs : List Str} {B : Nat} (h : wt qs ≤ B) (hB : B ≤ 10000) : (qs.map (·.length)).sum + qs.length * (Str.ofString " ").length ≤ 16777216 ∧ (Txt.join " " qs).length ≤ B := by
  unfold wt at h
  have e : (Str.ofString " ").length = 1 := by decide +kernel
  have h2 := StrLaws.join_length_le " " qs
  rw [e] at h2 ⊢
  refine ⟨by omega, ?_⟩
  rw [TL.join_eq]
  omega
theorem sum_at : ∀ (qs : List Str) (j : Nat) (y : Str), ((qs.set j y).map (·.length)).sum ≤ (qs.map (·.length)).sum + y.length
  | [], _, _ => by simp
  | q :: r, 0, y => by simp; omega
  | q :: r, j + 1, y => by
    have := sum_at r j y
    simp at this ⊢
    omega
theorem wt_set (qs : List Str) (j : Nat) (y : Str) : wt (qs.set j y) ≤ wt qs + y.length := by
  unfold wt
  have := sum_at qs j y
  rw [List.length_set]
  omega
theorem wt_ins (qs : List Str) (j : Nat) (y : Str) : wt (qs.take j ++ [y] ++ qs.drop j) ≤ wt qs + y.length + 1 := by
  have e := congrArg (fun l : List Str => (l.map (·.length)).sum) (List.take_append_drop j qs)
  have e2 := congrArg List.length (List.take_append_drop j qs)
  simp only [List.map_append, List.sum_append, List.length_append] at e e2
  unfold wt
  simp
  simp at e e2
  omega
theorem wt_mem {qs : List Str} {y : Str} (h : y ∈ qs) : y.length + 1 ≤ wt qs := by
  have := mem_sum h
  have : 0 < qs.length := List.length_pos_of_mem h
  unfold wt
  omega
theorem wt_er : ∀ (qs : List Str) (j : Nat), wt (qs.eraseIdx j) ≤ wt qs
  | [], _ => by simp
  | q :: r, 0 => by unfold wt; simp; omega
  | q :: r, j + 1 => by
    have := wt_er r j
    unfold wt at this ⊢
    simp at this ⊢
    omega
theorem idx_of {n : Nat} {m : Int} (h : 0 < n) : ∃ j : Nat, j < n ∧ m % (n : Int) = (j : Int) ∧ ixN n (m % (n : Int)) = some j ∧ seqIndex? (m % (n : Int)) n = some j := by
  have h0 : 0 ≤ m % (n : Int) := Int.emod_nonneg _ (by omega)
  have h1 : m % (n : Int) < n := Int.emod_lt_of_pos _ (by omega)
  have e : ixN n (m % (n : Int)) = some (m % (n : Int)).toNat := by
    unfold ixN
    rw [if_pos h0, if_pos h1]
  exact ⟨(m % (n : Int)).toNat, by omega, (Int.toNat_of_nonneg h0).symm, e, (ixN_seq e).1⟩
def W11 : List Str := ["", "0", "00", "-1", "999999", "1000000", "up", "Up", "tide", "abcdefghijklm", "+1"]
def W9 : List Str := ["beat", "Act", "", "page", "undo", "send", "say", "turn", "arms"]
theorem at_of {l : List Str} {n : Nat} (m : Int) (hn : l.length = n) (h : 0 < n) : ∃ u ∈ l, atI (l.map V.str) (m % (n : Int)) = some (.str u) := by
  obtain ⟨j, hj, e, _⟩ := idx_of (n := n) (m := m) h
  refine ⟨l[j]'(by omega), List.getElem_mem _, ?_⟩
  rw [e]
  exact atI_nat (by rw [List.getElem?_map, List.getElem?_eq_getElem (by omega)]; rfl)
theorem w11_len : ∀ u ∈ W11, u.length ≤ 13 := by decide +kernel
theorem w9_len : ∀ u ∈ W9, u.length ≤ 13 := by decide +kernel
theorem map_er : ∀ (qs : List Str) (j : Nat), (qs.map V.str).eraseIdx j = (qs.eraseIdx j).map V.str
  | [], _ => rfl
  | q :: r, 0 => rfl
  | q :: r, j + 1 => by
    show V.str q :: (r.map V.str).eraseIdx j = V.str q :: (r.eraseIdx j).map V.str
    rw [map_er r j]
theorem map_set (qs : List Str) (j : Nat) (y : Str) : (qs.map V.str).set j (.str y) = (qs.set j y).map V.str := (List.map_set ..).symm
theorem map_ins (qs : List Str) (j : Nat) (y : Str) : (qs.map V.str).take j ++ [V.str y] ++ (qs.map V.str).drop j = (qs.take j ++ [y] ++ qs.drop j).map V.str := by simp
theorem app_len (a b : Str) : (a ++ b).length = a.length + b.length := by
  show (a.cps ++ b.cps).size = _
  simp [Str.length]
def sp_l_spoilt : Sp := fun vs H Q _ => ∃ (t : Str) (c : Int), vs = [.str t, .int c] ∧ t.length ≤ 400 ∧ ∀ (u : Str) (H' : Hp), u.length ≤ 2 * t.length + 20 → Kp H H' → Q (.str u) H'
theorem ok_l_spoilt (T : Txt K mg) : FnOk P w K mg base CX0 2 T.f_l_spoilt T.d_l_spoilt ["_law_text", "_law_cell_here"] sp_l_spoilt := by
  refine T.F_l_spoilt.ok sc_l_spoilt (fun vs H Q E h => ?_) (fun cdv A outer s H vs Q E hr h => ?_)
  · obtain ⟨t, c, rfl, _⟩ := h
    rfl
  · obtain ⟨t, c, rfl, hl, k⟩ := h
    refine ⟨_, (pss_cons (ps_set (i := 2) sc_l_spoilt.nd rfl (by first | exact Or.inl rfl | exact Or.inr rfl) (pe_call (ok_l_row T) (hr.mono (by decide)) rfl T.g_l_row T.F_l_row.kp T.b_l_row .nil pass0 (pa_cons (pv 1) (pa_cons pe_int (pa_cons pe_int pa_nil)))))
      (pss_cons (ps_set (i := 3) sc_l_spoilt.nd rfl (by first | exact Or.inl rfl | exact Or.inr rfl) pe_str)
      (pss_cons (ps_set (i := 4) sc_l_spoilt.nd rfl (by first | exact Or.inl rfl | exact Or.inr rfl) (pe_ix ix_tup (pe_tup (pa_cons (pe_ix ix_str (pv 3) (pe_op op_mod (pe_ix ix_list (pv 2) pe_int (fun _ _ => rfl)) (pe_callB call_len_str (by rfl) T.m_len PySem.boot_len (pa_cons (pv 3) pa_nil))) (fun _ _ => rfl)) (pa_cons (pe_ix ix_str pe_str (pe_op op_mod (pe_ix ix_list (pv 2) pe_int (fun _ _ => rfl)) pe_int) (fun _ _ => rfl)) pa_nil))) (pe_op op_mod (pe_ix ix_list (pv 2) pe_int (fun _ _ => rfl)) pe_int) (fun _ _ => rfl)))
      (pss_cons (ps_set (i := 5) sc_l_spoilt.nd rfl (by first | exact Or.inl rfl | exact Or.inr rfl) (pe_op op_mod (pe_ix ix_list (pv 2) pe_int (fun _ _ => rfl)) (pe_op op_add (pe_callB call_len_str (by rfl) T.m_len PySem.boot_len (pa_cons (pv 0) pa_nil)) pe_int)))
      (pss_cons (ps_set (i := 6) sc_l_spoilt.nd rfl (by first | exact Or.inl rfl | exact Or.inr rfl) (pe_split (pv 0) pe_str))
      (pss_cons (ps_set (i := 7) sc_l_spoilt.nd rfl (by first | exact Or.inl rfl | exact Or.inr rfl) (pe_op op_mod (pe_ix ix_list (pv 2) pe_int (fun _ _ => rfl)) (pe_callB call_len_seq (by rfl) T.m_len PySem.boot_len (pa_cons (pv 6) pa_nil))))
      (pss_cons (ps_set (i := 8) sc_l_spoilt.nd rfl (by first | exact Or.inl rfl | exact Or.inr rfl) (pe_op op_mod (pe_ix ix_list (pv 2) pe_int (fun _ _ => rfl)) pe_int))
      (pss_cons (ps_if (pt_cmpR op_eq (pv 8) pe_int (nomark _))
      (pss_one (ps_ret (pe_op op_add_str (pe_op op_add_str (pe_slice sl_str (pv 0) po_none (po_some (pv 5))) (pv 4)) (pe_slice sl_str (pv 0) (po_some (pv 5)) po_none))))
      pss_nil)
      (pss_cons (ps_if (pt_cmpR op_eq (pv 8) pe_int (nomark _))
      (pss_one (ps_ret (pe_op op_add_str (pe_op op_add_str (pe_slice sl_str (pv 0) po_none (po_some (pv 5))) (pv 4)) (pe_slice sl_str (pv 0) (po_some (pe_op op_add (pv 5) pe_int)) po_none))))
      pss_nil)
      (pss_cons (ps_if (pt_cmpR op_eq (pv 8) pe_int (nomark _))
      (pss_one (ps_ret (pe_op op_add_str (pe_slice sl_str (pv 0) po_none (po_some (pv 5))) (pe_slice sl_str (pv 0) (po_some (pe_op op_add (pv 5) pe_int)) po_none))))
      pss_nil)
      (pss_cons (ps_if (pt_cmpR op_eq (pv 8) pe_int (nomark _))
      (pss_one (ps_expr (pe_bm PySem.F.plainAttrs_list PySem.F.slot_list_insert PySem.F.type_list_insert mt_insert (pv 6) (pa_cons (pv 7) (pa_cons (pe_ix ix_list (pv 6) (pe_op op_mod (pe_ix ix_list (pv 2) pe_int (fun _ _ => rfl)) (pe_callB call_len_seq (by rfl) T.m_len PySem.boot_len (pa_cons (pv 6) pa_nil))) (fun _ _ => rfl)) pa_nil)))))
      pss_nil)
      (pss_cons (ps_if (pt_cmpR op_eq (pv 8) pe_int (nomark _))
      (pss_one (ps_expr (pe_bm PySem.F.plainAttrs_list PySem.F.slot_list_pop PySem.F.type_list_pop mt_popAt (pv 6) (pa_cons (pv 7) pa_nil))))
      pss_nil)
      (pss_cons (ps_if (pt_cmpR op_eq (pv 8) pe_int (nomark _))
      (pss_one (ps_asg (pe_ix ix_tup (pe_tup (pa_cons pe_str (pa_cons pe_str (pa_cons pe_str (pa_cons pe_str (pa_cons pe_str (pa_cons pe_str (pa_cons pe_str (pa_cons pe_str (pa_cons pe_str (pa_cons pe_str (pa_cons pe_str pa_nil)))))))))))) (pe_op op_mod (pe_ix ix_list (pv 2) pe_int (fun _ _ => rfl)) pe_int) (fun _ _ => rfl)) (pg_sub (pv 6) (pv 7) set_list)))
      pss_nil)
      (pss_cons (ps_if (pt_cmpR op_eq (pv 8) pe_int (nomark _))
      (pss_one (ps_asg (pe_ix ix_tup (pe_tup (pa_cons pe_str (pa_cons pe_str (pa_cons pe_str (pa_cons pe_str (pa_cons pe_str (pa_cons pe_str (pa_cons pe_str (pa_cons pe_str (pa_cons pe_str pa_nil)))))))))) (pe_op op_mod (pe_ix ix_list (pv 2) pe_int (fun _ _ => rfl)) pe_int) (fun _ _ => rfl)) (pg_sub (pv 6) pe_int set_list)))
      pss_nil)
      (pss_cons (ps_if (pt_cmpR op_eq (pv 8) pe_int (nomark _))
      (pss_one (ps_asg (pe_op op_add_str pe_str (pe_ix ix_list (pv 6) (pv 7) (fun _ _ => rfl))) (pg_sub (pv 6) (pv 7) set_list)))
      pss_nil)
      (pss_one (ps_ret (pe_join pe_str (pv 6))))))))))))))))))), ?_⟩
    have hz : t.length ≤ sizeLine := szl (by omega)
    refine ⟨_, rfl, _, _, _, rfl, by decide, by decide, by decide, by decide, fun nums p1 H1 n1 k1 q1 ⟨hln, hb⟩ => ?_⟩
    have h6 : nums.length = 6 := by omega
    have hsl : 90 < SIG.length ∧ SIG.length ≤ 100 := by decide +kernel
    obtain ⟨c1, hc1⟩ := at_sgn (z := SIG) (n := SIG.length) nums[2] rfl (by omega)
    obtain ⟨c2, hc2⟩ := at_sgn (z := " 0a9-\n") (n := 6) nums[2] (by decide +kernel) (by decide)
    refine ⟨_, rfl, _, rfl, p1, _, _, _, rfl, rfl, .inl (.inl q1), at_int (j := 2) (by omega), _, rfl, SIG, rfl, szl (by omega), _, _, rfl, rfl, (by show (0 : Int) < (SIG.length : Int); omega), SIG, _, c1, rfl, rfl, szl (by omega), hc1, ?_⟩
    refine ⟨_, rfl, p1, _, _, _, rfl, rfl, .inl (.inl q1), at_int (j := 2) (by omega), _, _, rfl, rfl, (by show (0 : Int) < 6; decide), " 0a9-\n", _, c2, rfl, rfl, by decide +kernel, hc2, szl (by show 2 ≤ 100000; decide), fun p2 n2 => ?_⟩
    generalize h_H2 : upd H1 p2 _ = H2
    have k_H2 : Kp H1 H2 := by rw [← h_H2]; exact .new n2
    have q_H2 := (congrFun h_H2 p2).symm.trans upd_same
    clear h_H2
    obtain ⟨sg, hsg, hsa⟩ := at_two nums[3] ⟨#[c1]⟩ ⟨#[c2]⟩
    have hsz : sg.length = 1 := by rcases hsg with rfl | rfl <;> rfl
    have q12 := k_H2.same _ _ rfl q1
    refine ⟨_, rfl, p1, _, _, _, rfl, rfl, .inl (.inl q12), at_int (j := 3) (by omega), _, _, rfl, rfl, (by show (0 : Int) < 2; decide), p2, _, _, _, rfl, rfl, .inl (.inl q_H2), hsa, ?_⟩
    refine ⟨_, rfl, p1, _, _, _, rfl, rfl, .inl (.inl q12), at_int (j := 1) (by omega), _, rfl, t, rfl, hz, _, _, rfl, rfl, _, _, rfl, rfl, (by show (0 : Int) < (t.length : Int) + 1; omega), ?_⟩
    obtain ⟨nm, ts, hsp⟩ := split_cons t
    have hw : wt (nm :: ts) ≤ t.length + 1 := by
      have := split_weight t " " (by decide +kernel)
      rw [hsp] at this
      exact this
    refine ⟨_, rfl, ⟨_, rfl⟩, _, _, rfl, rfl, by decide +kernel, szl (by omega), fun p3 n3 => ?_⟩
    rw [hsp]
    generalize h_H3 : upd H2 p3 _ = H3
    have k_H3 : Kp H2 H3 := by rw [← h_H3]; exact .new n3
    have q_H3 := (congrFun h_H3 p3).symm.trans upd_same
    clear h_H3
    have q13 := k_H3.same _ _ rfl q12
    have kp3 := (k1.trans k_H2).trans k_H3
    have n3' : H p3 = none := k1.free _ (k_H2.free _ n3)
    generalize hps : nm :: ts = ps at hw q_H3 hsp
    have hpl : 0 < ps.length := by rw [← hps]; exact Nat.succ_pos _
    obtain ⟨j, hj, ej, xj, sj⟩ := idx_of (n := ps.length) (m := nums[4]) hpl
    refine ⟨_, rfl, p1, _, _, _, rfl, rfl, .inl (.inl q13), at_int (j := 4) (by omega), _, rfl, p3, _, rfl, .inl (SqL.of q_H3), _, _, rfl, rfl, (by show (0 : Int) < ((ps.map V.str).length : Int); rw [List.length_map]; omega), ?_⟩
    refine ⟨_, rfl, p1, _, _, _, rfl, rfl, .inl (.inl q13), at_int (j := 0) (by omega), _, _, rfl, rfl, (by show (0 : Int) < 9; decide), ?_⟩
    have m0 : 0 ≤ nums[0] % 9 := Int.emod_nonneg _ (by decide)
    have m9 : nums[0] % 9 < 9 := Int.emod_lt_of_pos _ (by decide)
    have ne : ∀ z : Int, nums[0] % 9 ≠ z → decide (V.int (nums[0] % 9) = V.int z) = false := fun z h => decide_eq_false fun e => h (V.int.inj e)
    have ca := cut_len t none (some (nums[1] % ((t.length : Int) + 1)))
    have cb := cut_len t (some (nums[1] % ((t.length : Int) + 1))) none
    have cc := cut_len t (some (nums[1] % ((t.length : Int) + 1) + 1)) none
    refine ⟨_, rfl, rfl, _, rfl, iteD (fun a0 => ?_) (fun a0 => ?_)⟩
    · exact ⟨_, rfl, _, rfl, _, rfl, t, rfl, hz, _, rfl, _, _, rfl, rfl, szl (by omega), _, rfl, _, rfl, _, rfl, t, rfl, hz, _, _, rfl, rfl, szl (by rw [app_len]; omega), k _ _ (by rw [app_len, app_len]; omega) kp3⟩
    refine ⟨_, rfl, rfl, _, rfl, iteD (fun a1 => ?_) (fun a1 => ?_)⟩
    · exact ⟨_, rfl, _, rfl, _, rfl, t, rfl, hz, _, rfl, _, _, rfl, rfl, szl (by omega), _, rfl, _, rfl, _, _, rfl, rfl, _, rfl, t, rfl, hz, _, _, rfl, rfl, szl (by rw [app_len]; omega), k _ _ (by rw [app_len, app_len]; omega) kp3⟩
    refine ⟨_, rfl, rfl, _, rfl, iteD (fun a2 => ?_) (fun a2 => ?_)⟩
    · exact ⟨_, rfl, _, rfl, _, rfl, t, rfl, hz, _, rfl, _, rfl, _, _, rfl, rfl, _, rfl, t, rfl, hz, _, _, rfl, rfl, szl (by omega), k _ _ (by rw [app_len]; omega) kp3⟩
    have b0 : nums[0] % 9 ≠ 0 := fun e => a0 (congrArg V.int e)
    have b1 : nums[0] % 9 ≠ 1 := fun e => a1 (congrArg V.int e)
    have b2 : nums[0] % 9 ≠ 2 := fun e => a2 (congrArg V.int e)
    clear a0 a1 a2
    have hmem : ∀ i : Nat, i < ps.length → ∃ y ∈ ps, atI (ps.map V.str) (i : Int) = some (.str y) := fun i hi => ⟨ps[i], List.getElem_mem _, atI_nat (by rw [List.getElem?_map, List.getElem?_eq_getElem hi]; rfl)⟩
    have ej' : nums[4] % ((ps.map V.str).length : Int) = (j : Int) := by rw [List.length_map]; exact ej
    have xj' : ixN (ps.map V.str).length (nums[4] % ((ps.map V.str).length : Int)) = some j := by rw [List.length_map]; exact xj
    have sj' : seqIndex? (nums[4] % ((ps.map V.str).length : Int)) (ps.map V.str).length = some j := by rw [List.length_map]; exact sj
    have x0 : ixN (ps.map V.str).length 0 = some 0 := by
      unfold ixN
      rw [List.length_map, if_pos (Int.le_refl 0), if_pos (by omega)]
      rfl
    -- insert
    refine ⟨_, rfl, rfl, _, rfl, iteD (fun a3 => ?_) (fun a3 => ?_)⟩
    · have b3 : nums[0] % 9 = 3 := V.int.inj a3
      obtain ⟨i, hi, ei, _⟩ := idx_of (n := ps.length) (m := nums[5]) hpl
      obtain ⟨y, hy, hat⟩ := hmem i hi
      rw [← ei] at hat
      have hat' : atI (ps.map V.str) (nums[5] % ((ps.map V.str).length : Int)) = some (.str y) := by rw [List.length_map]; exact hat
      have wy := wt_mem hy
      refine ⟨_, rfl, .inl ⟨rfl, _, SqL.of q_H3⟩, _, rfl, _, rfl, _, rfl, p1, _, _, _, rfl, rfl, .inl (.inl q13), at_int (j := 5) (by omega), _, rfl, p3, _, rfl, .inl (SqL.of q_H3), _, _, rfl, rfl, (by show (0 : Int) < ((ps.map V.str).length : Int); rw [List.length_map]; omega), p3, _, _, _, rfl, rfl, .inl (.inl q_H3), hat', p3, _, _, _, rfl, rfl, q_H3, szt (by rw [List.length_map]; unfold wt at hw; omega), by rw [ej']; omega, by rw [ej']; unfold wt at hw; omega, ?_⟩
      have wi := wt_ins ps (nums[4] % ((ps.map V.str).length : Int)).toNat y
      obtain ⟨g1, g2⟩ := join_ok (qs := ps.take (nums[4] % ((ps.map V.str).length : Int)).toNat ++ [y] ++ ps.drop (nums[4] % ((ps.map V.str).length : Int)).toNat) (B := 2 * t.length + 20) (by omega) (by omega)
      exact ⟨_, rfl, rfl, _, rfl, iteFo (ne _ (by omega)) ⟨_, rfl, rfl, _, rfl, iteFo (ne _ (by omega)) ⟨_, rfl, rfl, _, rfl, iteFo (ne _ (by omega)) ⟨_, rfl, rfl, _, rfl, iteFo (ne _ (by omega)) ⟨⟨_, rfl⟩, _, rfl, _, p3, _, rfl, rfl, .inl (.inl (.inl (by rw [upd_same, map_ins]))), g1, k _ _ g2 (kp3.mut n3')⟩⟩⟩⟩⟩
    -- pop
    have b3 : nums[0] % 9 ≠ 3 := fun e => a3 (congrArg V.int e)
    clear a3
    obtain ⟨y, hy, hat⟩ := hmem j hj
    rw [← ej'] at hat
    have wy := wt_mem hy
    have hgy : (ps.map V.str)[j]? = some (.str ps[j]) := by rw [List.getElem?_map, List.getElem?_eq_getElem hj]; rfl
    refine ⟨_, rfl, rfl, _, rfl, iteD (fun a4 => ?_) (fun a4 => ?_)⟩
    · have b4 : nums[0] % 9 = 4 := V.int.inj a4
      refine ⟨_, rfl, .inl ⟨rfl, _, SqL.of q_H3⟩, _, rfl, p3, _, _, j, _, rfl, rfl, q_H3, by rw [ej']; omega, by rw [ej']; unfold wt at hw; omega, sj', hgy, ?_⟩
      have we := wt_er ps j
      obtain ⟨g1, g2⟩ := join_ok (qs := ps.eraseIdx j) (B := 2 * t.length + 20) (by omega) (by omega)
      exact ⟨_, rfl, rfl, _, rfl, iteFo (ne _ (by omega)) ⟨_, rfl, rfl, _, rfl, iteFo (ne _ (by omega)) ⟨_, rfl, rfl, _, rfl, iteFo (ne _ (by omega)) ⟨⟨_, rfl⟩, _, rfl, _, p3, _, rfl, rfl, .inl (.inl (.inl (by rw [upd_same, map_er]))), g1, k _ _ g2 (kp3.mut n3')⟩⟩⟩⟩
    have b4 : nums[0] % 9 ≠ 4 := fun e => a4 (congrArg V.int e)
    clear a4
    -- a part replaced
    refine ⟨_, rfl, rfl, _, rfl, iteD (fun a5 => ?_) (fun a5 => ?_)⟩
    · have b5 : nums[0] % 9 = 5 := V.int.inj a5
      obtain ⟨u, hu, hau⟩ := at_of (l := W11) (n := 11) nums[5] rfl (by decide)
      have hul := w11_len u hu
      refine ⟨szl (by show 11 ≤ 100000; decide), fun p4 n4 => ?_⟩
      generalize h_H4 : upd H3 p4 _ = H4
      have k_H4 : Kp H3 H4 := by rw [← h_H4]; exact .new n4
      have q_H4 := (congrFun h_H4 p4).symm.trans upd_same
      clear h_H4
      have q4 := k_H4.same _ _ rfl q_H3
      refine ⟨_, rfl, p1, _, _, _, rfl, rfl, .inl (.inl (k_H4.same _ _ rfl q13)), at_int (j := 5) (by omega), _, _, rfl, rfl, (by show (0 : Int) < 11; decide), p4, _, _, _, rfl, rfl, .inl (.inl q_H4), hau, ?_⟩
      refine ⟨_, rfl, _, rfl, p3, _, _, j, rfl, rfl, q4, xj', ?_⟩
      have ws := wt_set ps j u
      obtain ⟨g1, g2⟩ := join_ok (qs := ps.set j u) (B := 2 * t.length + 20) (by omega) (by omega)
      exact ⟨_, rfl, rfl, _, rfl, iteFo (ne _ (by omega)) ⟨_, rfl, rfl, _, rfl, iteFo (ne _ (by omega)) ⟨⟨_, rfl⟩, _, rfl, _, p3, _, rfl, rfl, .inl (.inl (.inl (by rw [upd_same, map_set]))), g1, k _ _ g2 ((kp3.trans k_H4).mut n3')⟩⟩⟩
    have b5 : nums[0] % 9 ≠ 5 := fun e => a5 (congrArg V.int e)
    clear a5
    -- the name replaced
    refine ⟨_, rfl, rfl, _, rfl, iteD (fun a6 => ?_) (fun a6 => ?_)⟩
    · have b6 : nums[0] % 9 = 6 := V.int.inj a6
      obtain ⟨u, hu, hau⟩ := at_of (l := W9) (n := 9) nums[5] rfl (by decide)
      have hul := w9_len u hu
      refine ⟨szl (by show 9 ≤ 100000; decide), fun p4 n4 => ?_⟩
      generalize h_H4 : upd H3 p4 _ = H4
      have k_H4 : Kp H3 H4 := by rw [← h_H4]; exact .new n4
      have q_H4 := (congrFun h_H4 p4).symm.trans upd_same
      clear h_H4
      have q4 := k_H4.same _ _ rfl q_H3
      refine ⟨_, rfl, p1, _, _, _, rfl, rfl, .inl (.inl (k_H4.same _ _ rfl q13)), at_int (j := 5) (by omega), _, _, rfl, rfl, (by show (0 : Int) < 9; decide), p4, _, _, _, rfl, rfl, .inl (.inl q_H4), hau, ?_⟩
      refine ⟨_, rfl, p3, _, _, 0, rfl, rfl, q4, x0, ?_⟩
      have ws := wt_set ps 0 u
      obtain ⟨g1, g2⟩ := join_ok (qs := ps.set 0 u) (B := 2 * t.length + 20) (by omega) (by omega)
      exact ⟨_, rfl, rfl, _, rfl, iteFo (ne _ (by omega)) ⟨⟨_, rfl⟩, _, rfl, _, p3, _, rfl, rfl, .inl (.inl (.inl (by rw [upd_same, map_set]))), g1, k _ _ g2 ((kp3.trans k_H4).mut n3')⟩⟩
    have b6 : nums[0] % 9 ≠ 6 := fun e => a6 (congrArg V.int e)
    clear a6
    -- a nought ahead
    refine ⟨_, rfl, rfl, _, rfl, iteD (fun a7 => ?_) (fun a7 => ?_)⟩
    · have e1 : (Str.ofString "0").length = 1 := by decide +kernel
      have wy2 : y.length ≤ 401 := by omega
      refine ⟨_, rfl, _, rfl, p3, _, _, _, rfl, rfl, .inl (.inl q_H3), hat, _, _, rfl, rfl, szl (by rw [e1]; omega), ?_⟩
      refine ⟨_, rfl, _, rfl, p3, _, _, j, rfl, rfl, q_H3, xj', ?_⟩
      have hl7 : (Str.ofString "0" ++ y).length = 1 + y.length := by rw [app_len, e1]
      have ws := wt_set ps j (Str.ofString "0" ++ y)
      obtain ⟨g1, g2⟩ := join_ok (qs := ps.set j (Str.ofString "0" ++ y)) (B := 2 * t.length + 20) (by omega) (by omega)
      exact ⟨⟨_, rfl⟩, _, rfl, _, p3, _, rfl, rfl, .inl (.inl (.inl (by rw [upd_same, map_set]))), g1, k _ _ g2 (kp3.mut n3')⟩
    obtain ⟨g1, g2⟩ := join_ok (qs := ps) (B := 2 * t.length + 20) (by omega) (by omega)
    exact ⟨⟨_, rfl⟩, _, rfl, _, p3, _, rfl, rfl, .inl (.inl (.inl q_H3)), g1, k _ _ g2 (kp3)⟩
/-! ### what read_deed tells -/
def sp_l_told (P PN : Addr) : Sp := fun vs H Q _ => ∃ t : Str, vs = [.str t] ∧ t.length ≤ 900 ∧ GxR.TabG H P ∧ GxR.TabG H PN ∧
  (∀ nm xs, deedOf t = some (nm, xs) → ∀ (r : Addr) (H' : Hp), H r = none → Kp H H' → H' r = some (.tup (.str nm :: xs)) → Q (.ref r) H') ∧ (deedOf t = none → ∀ H', Kp H H' → Q .non H')
theorem ok_l_told (T : Txt K mg) (TB : GxR.TabB base mg T.c_tab T.P_tab) (TBN : GxR.TabB base mg T.c_tabN T.P_tabN) (D : KDict K w T.a_PARTS T.es_PARTS T.n_PARTS) : FnOk P w K mg base CX0 7 T.f_l_told T.d_l_told ["_law_text"] (sp_l_told T.P_tab T.P_tabN) := by
  refine T.F_l_told.ok sc_l_told (fun vs H Q E h => ?_) (fun cdv A outer s H vs Q E hr h => ?_)
  · obtain ⟨t, rfl, _⟩ := h
    rfl
  · obtain ⟨t, rfl, hl, hT, hN, k, kE⟩ := h
    refine ⟨_, (pss_cons (ps_set (i := 1) sc_l_told.nd rfl (by first | exact Or.inl rfl | exact Or.inr rfl) pe_str)
      (pss_cons (ps_try_as (i := 2) rfl rfl sc_l_told.nd rfl rfl ⟨rfl, by decide, Or.inl T.g_MastError⟩ takes0
      (fun W pn xe tk _ => (pss_one (ps_set (i := 1) sc_l_told.nd rfl (by first | exact Or.inl rfl | exact Or.inr rfl) (pe_callS (ok_p_read_deed T TB TBN D) (hr.mono (by decide)) rfl T.g_p_read_deed T.F_p_read_deed.kp T.b_p_read_deed (fun σ => passAt tk σ) (pa_cons (pv 0) pa_nil)))))
      (fun a oe cls d pn hz hf => (pss_one (ps_if (PW.pt (pw_and (pt_val (pe_callB (call_isX K rfl hz hf) (by rfl) T.m_isinstance (by decide +kernel) (pa_cons (pv 2) (pa_cons (pe_glob (v := .ref T.a_BadLine) rfl T.g_BadLine rfl) pa_nil)))) (pw_and1 (pt_val (pe_callB (call_isX K rfl hz hf) (by rfl) T.m_isinstance (by decide +kernel) (pa_cons (pv 2) (pa_cons (pe_bltn (v := .ty "ValueError") (by rfl) T.m_ValueError (by decide +kernel) rfl) pa_nil)))))))
      (pss_one (ps_set (i := 1) sc_l_told.nd rfl (by first | exact Or.inl rfl | exact Or.inr rfl) pe_non))
      pss_nil))))
      (pss_one (ps_ret (pv 1))))), ?_⟩
    refine ⟨_, rfl, t, rfl, hl, hT, hN, fun nm xs hd r H1 nr k1 q1 => ?_, fun hn H1 k1 => ?_⟩
    · exact ⟨_, rfl, k nm xs hd r H1 nr k1 q1⟩
    · have xc : ExcC K T.a_BadLine := ⟨T.ga_BadLine, T.gg_BadLine, T.b_BadLine, T.h_BadLine, T.cl_BadLine, T.oc_get, T.oc_tak, T.mo_BadLine⟩
      refine ⟨true, PySem.W.exm_ref T.b_MastError T.h_MastError T.t_MastError T.s_BadLine_MastError, fun _ e ne => ?_, fun q => Bool.noConfusion q⟩
      refine ⟨_, rfl, _, _, _, true, rfl, .inl rfl, xc, rfl, .own _, kit_sub T.i_BadLine T.t_BadLine T.s_BadLine_BadLine, _, rfl, iteTo rfl ?_⟩
      refine ⟨_, rfl, _, _, _, true, rfl, .inl rfl, xc, rfl, .ty _, kit_ve T.v_BadLine, _, rfl, iteTo rfl ?_⟩
      exact ⟨_, rfl, kE hn H1 k1⟩
/-! ### law -/
def pdv : V → PyData
  | .int i => .int i
  | .str t => .str t
  | _ => .none
theorem sum_parts : ∀ ys : List Str, (∀ y ∈ ys, y.length ≤ 12) → (ys.map (·.length)).sum ≤ 12 * ys.length
  | [], _ => by simp
  | y :: r, h => by
    have h1 := h y List.mem_cons_self
    have h2 := sum_parts r fun z hz => h z (List.mem_cons_of_mem _ hz)
    simp only [List.map_cons, List.sum_cons, List.length_cons]
    omega
theorem join_fits {xs : List V} (h : ∀ x ∈ xs, Part x) (hl : xs.length ≤ 20) : ((xs.map tx).map (·.length)).sum + (xs.map tx).length * (Str.ofString " ").length ≤ 16777216 := by
  have h1 := sum_parts (xs.map tx) fun y hy => by
    obtain ⟨x, hx, rfl⟩ := List.mem_map.mp hy
    exact (h x hx).len
  have e : (Str.ofString " ").length = 1 := by decide +kernel
  rw [e]
  rw [List.length_map] at *
  omega
def Flt (x : V) : Prop := (∃ i : Int, x = .int i) ∨ ∃ t : Str, x = .str t
theorem dp_flt {K : PySem.W.Frag} {H : Hp} : ∀ xs : List V, (∀ x ∈ xs, Flt x) → DpAll K H xs (xs.map pdv)
  | [], _ => .nil
  | x :: r, h => .cons (by
      rcases h x List.mem_cons_self with ⟨n, rfl⟩ | ⟨t, rfl⟩
      · exact .int _
      · exact .str _) (dp_flt r fun y hy => h y (List.mem_cons_of_mem _ hy))
theorem dn_flt {xs : List V} (h : ∀ x ∈ xs, Flt x) (hl : xs.length ≤ 2000) : Dn 4 (.tuple (xs.map pdv)) := by
  refine .tup (fun d hd => ?_) (by rw [List.length_map]; omega)
  obtain ⟨x, hx, rfl⟩ := List.mem_map.mp hd
  rcases h x hx with ⟨n, rfl⟩ | ⟨t, rfl⟩
  · exact .int _ _
  · exact .str _ _
theorem partV_flt {k t : Str} {x : V} (h : partV k t = some x) : Flt x := by
  unfold partV at h
  split at h
  · split at h
    · cases h; exact .inl ⟨_, rfl⟩
    · cases h
  · split at h
    · split at h
      · cases h; exact .inr ⟨_, rfl⟩
      · cases h
    · split at h
      · cases h; exact .inr ⟨_, rfl⟩
      · cases h
theorem partsV_flt : ∀ {ks ts : List Str} {xs : List V}, partsV ks ts = some xs → ∀ x ∈ xs, Flt x
  | [], [], xs, h => by cases Option.some.inj h; simp
  | k :: ks, t :: ts, xs, h => by
    unfold partsV at h
    cases e1 : partV k t with
    | none => rw [e1] at h; cases h
    | some x =>
      rw [e1] at h
      cases e2 : partsV ks ts with
      | none => rw [e2] at h; cases h
      | some ys =>
        rw [e2] at h
        cases Option.some.inj h
        intro y hy
        rcases List.mem_cons.mp hy with rfl | hy
        · exact partV_flt e1
        · exact partsV_flt e2 y hy
  | [], _ :: _, _, h => by cases h
  | _ :: _, [], _, h => by cases h
theorem deedOf_flt {t nm : Str} {xs : List V} (h : deedOf t = some (nm, xs)) : (∀ x ∈ V.str nm :: xs, Flt x) ∧ xs.length ≤ t.length := by
  obtain ⟨n, ts, hsp⟩ := split_cons t
  have hs := (split_small hsp).2
  unfold deedOf at h
  rw [hsp] at h
  obtain ⟨ks, _, h⟩ := Option.bind_eq_some_iff.mp h
  obtain ⟨ys, hy, e⟩ := Option.map_eq_some_iff.mp h
  cases e
  refine ⟨fun x hx => ?_, by rw [partsV_size hy]; exact hs⟩
  rcases List.mem_cons.mp hx with rfl | hx
  · exact .inr ⟨_, rfl⟩
  · exact partsV_flt hy x hx
def sp_law (K : PySem.W.Frag) (P PN : Addr) : Sp := fun vs H Q _ => ∃ (a : Addr) (ns : List Int), vs = [.ref a] ∧ SqL K H a (ns.map V.int) ∧ ns.length ≤ 63 ∧ GxR.TabG H P ∧ GxR.TabG H PN ∧ ∀ H', Q (.bl true) H'
theorem ok_law (T : Txt K mg) (TB : GxR.TabB base mg T.c_tab T.P_tab) (TBN : GxR.TabB base mg T.c_tabN T.P_tabN) (D : KDict K w T.a_PARTS T.es_PARTS T.n_PARTS) {f : Addr} {fd : FuncData} (F : Fun K "law" "law" s_law f fd) : FnOk P w K mg base CX0 8 f fd ["_law_script"] (sp_law K T.P_tab T.P_tabN) := by
  refine F.ok sc_law (fun vs H Q E h => ?_) (fun cdv A outer s H vs Q E hr h => ?_)
  · obtain ⟨a, ns, rfl, _⟩ := h
    rfl
  · obtain ⟨a, ns, rfl, hS, hlen, hT, hN, k⟩ := h
    refine ⟨_, (pss_cons (ps_set (i := 1) sc_law.nd rfl (by first | exact Or.inl rfl | exact Or.inr rfl) (pe_join pe_str (pe_lc (own := [("_law_part_here", 2)]) (g := gName 2) (tt := tYes) (by rfl) sc_law.nd (pi_tup (pe_call (ok_l_any_deed T) (hr.mono (by decide)) rfl T.g_l_any_deed T.F_l_any_deed.kp T.b_l_any_deed .nil pass0 (pa_cons (pe_call (ok_l_cell T) (hr.mono (by decide)) rfl T.g_l_cell T.F_l_cell.kp T.b_l_cell .nil pass0 (pa_cons (pv 0) (pa_cons pe_int pa_nil))) pa_nil))) (blkOk_by (own := [("_law_part_here", 2)]) (N := ["_law_script", "_law_text", "_law_part_here", "_law_one", "_law_other", "_law_line"]) (sc := defScope s_law) (by decide +kernel)) (fun _ _ _ _ _ => (pg_name (i := 2) sc_law.nd rfl (by first | exact Or.inl rfl | exact Or.inr rfl))) (fun _ _ _ _ _ => pts_nil) (fun _ _ _ _ _ => (pe_callTy call_strA (by rfl) T.m_str (by decide +kernel) (pa_cons (pv 2) pa_nil))))))
      (pss_cons (ps_set (i := 3) sc_law.nd rfl (by first | exact Or.inl rfl | exact Or.inr rfl) (pe_call (ok_l_spoilt T) (hr.mono (by decide)) rfl T.g_l_spoilt T.F_l_spoilt.kp T.b_l_spoilt .nil pass0 (pa_cons (pv 1) (pa_cons (pe_call (ok_l_cell T) (hr.mono (by decide)) rfl T.g_l_cell T.F_l_cell.kp T.b_l_cell .nil pass0 (pa_cons (pv 0) (pa_cons pe_int pa_nil))) pa_nil))))
      (pss_cons (ps_set (i := 4) sc_law.nd rfl (by first | exact Or.inl rfl | exact Or.inr rfl) (pv 3))
      (Evl.pss_cut (ps_if (pt_cmpR op_gt (pe_callB call_len_str (by rfl) T.m_len PySem.boot_len (pa_cons (pv 3) pa_nil)) pe_int (nomark _))
      (pss_one (ps_set (i := 4) sc_law.nd rfl (by first | exact Or.inl rfl | exact Or.inr rfl) (pe_call (ok_l_spoilt T) (hr.mono (by decide)) rfl T.g_l_spoilt T.F_l_spoilt.kp T.b_l_spoilt .nil pass0 (pa_cons (pv 3) (pa_cons (pe_call (ok_l_cell T) (hr.mono (by decide)) rfl T.g_l_cell T.F_l_cell.kp T.b_l_cell .nil pass0 (pa_cons (pv 0) (pa_cons pe_int pa_nil))) pa_nil)))))
      pss_nil)
      (pss_cons (ps_for PassesOwn.never rfl (pi_tup (pe_tup (pa_cons (pv 3) (pa_cons (pv 4) (pa_cons (pv 3) (pa_cons pe_str pa_nil)))))) (pg_name (i := 5) sc_law.nd rfl (by first | exact Or.inl rfl | exact Or.inr rfl))
      (pss_one (ps_if (pt_not (pt_val (pe_call (ok_l_like T 4) (hr.mono (by decide)) rfl T.g_l_like T.F_l_like.kp T.b_l_like .nil pass0 (pa_cons (pe_call (ok_l_told T TB TBN D) (hr.mono (by decide)) rfl T.g_l_told T.F_l_told.kp T.b_l_told .nil pass0 (pa_cons (pv 5) pa_nil)) (pa_cons (pe_call (ok_l_meant T) (hr.mono (by decide)) rfl T.g_l_meant T.F_l_meant.kp T.b_l_meant .nil pass0 (pa_cons (pv 5) pa_nil)) pa_nil)))))
      (pss_one (ps_ret pe_bl))
      pss_nil)))
      (pss_one (ps_ret pe_bl))))))), ?_⟩
    refine ⟨⟨_, rfl⟩, _, rfl, a, ns, 0, rfl, hS, by decide, _, rfl, fun m1 xs1 r1 H1 nr1 k1 q1 dd => ?_⟩
    have hpt : ∀ x ∈ V.str m1 :: xs1, Part x := fun x hx => (dd.parts x hx).1
    have hl13 : (V.str m1 :: xs1).length ≤ 13 := by
      obtain ⟨_, _, _, _, hl, _⟩ := dd
      rw [List.length_cons]
      omega
    refine ⟨r1, rfl, ⟨_, .inl (.inl q1)⟩, fun L hL => ?_⟩
    refine lc_tup (K := K) (a := r1) (xs := .str m1 :: xs1) (fun i G => Kp H1 G ∧ G L = some (.lst ((((V.str m1 :: xs1).take i).map tx).map V.str))) ⟨Kp.new hL, upd_same⟩ (fun i G _ ⟨kg, _⟩ => kg.sqT (.inl (.inl q1))) (fun i x G hi ⟨kg, hs⟩ => ?_) (fun G ⟨kg, hs⟩ => ?_)
    · have hil := (List.getElem?_eq_some_iff.mp hi).1
      have hx := hpt x (List.mem_of_getElem? hi)
      have acc : ∀ y : V, y = .str (tx x) → Kp H1 (upd G L (.lst ((((V.str m1 :: xs1).take i).map tx).map V.str ++ [y]))) ∧ upd G L (.lst ((((V.str m1 :: xs1).take i).map tx).map V.str ++ [y])) L = some (.lst ((((V.str m1 :: xs1).take (i + 1)).map tx).map V.str)) := by
        rintro y rfl
        refine ⟨kg.mut hL, ?_⟩
        rw [upd_same, List.take_add_one, hi]
        simp
      refine ⟨rfl, _, rfl, ?_⟩
      have hz : ((((V.str m1 :: xs1).take i).map tx).map V.str).length < sizeLine := szt (by rw [List.length_map, List.length_map, List.length_take]; omega)
      rcases hx with ⟨n, hn, rfl⟩ | ⟨t, rfl, ht⟩
      · exact .inl ⟨_, rfl, log_ok hn, _, hs, hz, acc _ rfl⟩
      · exact .inr ⟨_, rfl, _, hs, hz, acc _ rfl⟩
    · rw [List.take_length] at hs
      refine ⟨_, L, (V.str m1 :: xs1).map tx, rfl, rfl, .inl (.inl (.inl hs)), join_fits hpt (by omega), ?_⟩
      have hj : (Txt.join " " ((V.str m1 :: xs1).map tx)).length ≤ 180 := by
        have h1 := sum_parts ((V.str m1 :: xs1).map tx) fun y hy => by
          obtain ⟨x, hx, rfl⟩ := List.mem_map.mp hy
          exact (hpt x hx).len
        refine (join_ok (B := 180) ?_ (by decide)).2
        unfold wt
        rw [List.length_map] at h1 ⊢
        omega
      generalize hJ : Txt.join (Str.ofString " ") ((V.str m1 :: xs1).map tx) = tt at hj ⊢
      have kp0 : Kp H G := k1.trans kg
      refine ⟨_, rfl, _, rfl, a, ns, 1, rfl, kp0.sqL hS, by decide, tt, _, rfl, by omega, fun one G1 hone g1 => ?_⟩
      have kp1 := kp0.trans g1
      refine ⟨_, rfl, ?_⟩
      refine ⟨fun σ H' => ∃ other : Str, σ = [some (.ref a), some (.str tt), none, some (.str one), some (.str other), none] ∧ Kp H H' ∧ other.length ≤ 800, ?_, ?_⟩
      · refine ⟨_, rfl, one, rfl, szl (by omega), _, _, rfl, rfl, _, rfl, iteD (fun c => ?_) (fun c => ?_)⟩
        · exact ⟨_, rfl, _, rfl, a, ns, 2, rfl, kp1.sqL hS, by decide, one, _, rfl, by omega, fun other G2 ho g2 => ⟨other, rfl, kp1.trans g2, by omega⟩⟩
        · exact ⟨one, rfl, kp1, by omega⟩
      · rintro σ G2 ⟨other, rfl, kp2, ho⟩
        refine ⟨_, rfl, _, rfl, _, rfl, szl (by show 4 ≤ 100000; decide), fun p4 n4 => ?_⟩
        generalize h_G4 : upd G2 p4 _ = G4
        have k_G4 : Kp G2 G4 := by rw [← h_G4]; exact .new n4
        have q_G4 := (congrFun h_G4 p4).symm.trans upd_same
        clear h_G4
        have kp4 := kp2.trans k_G4
        refine ⟨p4, rfl, ⟨_, .inl (.inl q_G4)⟩, ?_⟩
        refine for_tup (K := K) (a := p4) (xs := [.str one, .str other, .str one, .str ""]) (fun i σ H' => Kp G4 H' ∧ ∃ y : Option V, σ = [some (.ref a), some (.str tt), none, some (.str one), some (.str other), y])
          ⟨.refl _, none, rfl⟩ (fun i σ H' _ ⟨kp, _⟩ => kp.sqT (.inl (.inl q_G4))) ?_ ?_
        · rintro i x σ H' hi ⟨kp, y, rfl⟩
          obtain ⟨u, rfl, hu⟩ : ∃ u : Str, x = .str u ∧ u.length ≤ 800 := by
            have hm := List.mem_of_getElem? hi
            simp only [List.mem_cons, List.not_mem_nil, or_false] at hm
            rcases hm with rfl | rfl | rfl | rfl
            · exact ⟨_, rfl, by omega⟩
            · exact ⟨_, rfl, ho⟩
            · exact ⟨_, rfl, by omega⟩
            · exact ⟨_, rfl, by decide +kernel⟩
          have kpx := kp4.trans kp
          refine ⟨_, rfl, u, rfl, by omega, kpx.tab _ hT, kpx.tab _ hN, fun nm xs hd r J1 nr j1 q => ?_, fun hd J1 j1 => ?_⟩
          · obtain ⟨hf, hxl⟩ := deedOf_flt hd
            refine ⟨_, rfl, u, rfl, by omega, fun nm2 xs2 hd2 r2 J2 nr2 j2 q2 => ?_, fun hn J2 j2 => ?_⟩
            · rw [hd] at hd2
              cases hd2
              exact ⟨_, _, .tuple ((V.str nm :: xs).map pdv), rfl, .tup (.inl (.inl (j2.same _ _ rfl q))) (dp_flt _ hf), .tup (.inl (.inl q2)) (dp_flt _ hf), dn_flt hf (by rw [List.length_cons]; omega), fun J3 j3 => ⟨_, rfl, iteFo rfl ⟨((kp.trans j1).trans j2).trans j3, _, rfl⟩⟩⟩
            · rw [hd] at hn
              cases hn
          · refine ⟨_, rfl, u, rfl, by omega, fun nm2 xs2 hd2 r2 J2 nr2 j2 q2 => ?_, fun hn J2 j2 => ?_⟩
            · rw [hd] at hd2
              cases hd2
            · exact ⟨_, _, .none, rfl, .non, .non, .non _, fun J3 j3 => ⟨_, rfl, iteFo rfl ⟨((kp.trans j1).trans j2).trans j3, _, rfl⟩⟩⟩
        · rintro σ H' ⟨kp, y, rfl⟩
          exact k _
end
theorem all_mk {l : PySem.W.OpenLaw} {w : World} {K : PySem.W.Frag} {h : Heap} {mg : Str → Option Value} {fa : Addr} (X : K.In h) (G : h.Ns mainGlobals mg) (hfa : mg "law" = some (.ref fa)) (own : ∀ y ∈ (["is_word", "is_number"] : List Str), ∀ f, mg y = some (.ref f) → LamX.OwnTab K f h)
    {C_MastError : Addr}
    {C_BadLine : Addr}
    {f1 : Addr} {od1 an1 : Option Addr} {sl1 : Array (Option Value)} {oc1 kV1 dc1 pm1 ct1 : Value}
    {c_tab P_tab : Addr} {dd_tab : Option Addr} {vs_tab : Array Value} {sl_tab : Array (Option Value)} {fl_tab : Str} {tf_tab tg_tab tt_tab : Tok} {fg_tab tx_tab : Int} {b_tab : Bool}
    {f2 : Addr} {od2 an2 : Option Addr} {sl2 : Array (Option Value)} {oc2 kV2 dc2 pm2 ct2 : Value}
    {c_tabN P_tabN : Addr} {dd_tabN : Option Addr} {vs_tabN : Array Value} {sl_tabN : Array (Option Value)} {fl_tabN : Str} {tf_tabN tg_tabN tt_tabN : Tok} {fg_tabN tx_tabN : Int} {b_tabN : Bool}
    {f3 : Addr} {od3 an3 : Option Addr} {sl3 : Array (Option Value)} {oc3 kV3 dc3 pm3 cd3 ct3 : Value}
    {f4 : Addr} {od4 an4 : Option Addr} {sl4 : Array (Option Value)} {oc4 kV4 dc4 pm4 cd4 ct4 : Value}
    {f5 : Addr} {od5 an5 : Option Addr} {sl5 : Array (Option Value)} {oc5 kV5 dc5 pm5 cd5 ct5 : Value}
    {f6 : Addr} {od6 an6 : Option Addr} {sl6 : Array (Option Value)} {oc6 kV6 dc6 pm6 cd6 ct6 : Value}
    {f7 : Addr} {od7 an7 : Option Addr} {sl7 : Array (Option Value)} {oc7 kV7 dc7 pm7 cd7 ct7 : Value}
    {f8 : Addr} {od8 an8 : Option Addr} {sl8 : Array (Option Value)} {oc8 kV8 dc8 pm8 cd8 ct8 : Value}
    {f9 : Addr} {od9 an9 : Option Addr} {sl9 : Array (Option Value)} {oc9 kV9 dc9 pm9 cd9 ct9 : Value}
    {f10 : Addr} {od10 an10 : Option Addr} {sl10 : Array (Option Value)} {oc10 kV10 dc10 pm10 cd10 ct10 : Value}
    {f11 : Addr} {od11 an11 : Option Addr} {sl11 : Array (Option Value)} {oc11 kV11 dc11 pm11 cd11 ct11 : Value}
    {f12 : Addr} {od12 an12 : Option Addr} {sl12 : Array (Option Value)} {oc12 kV12 dc12 pm12 cd12 ct12 : Value}
    {f13 : Addr} {od13 an13 : Option Addr} {sl13 : Array (Option Value)} {oc13 kV13 dc13 pm13 cd13 ct13 : Value}
    {f14 : Addr} {od14 an14 : Option Addr} {sl14 : Array (Option Value)} {oc14 kV14 dc14 pm14 cd14 ct14 : Value}
    {f15 : Addr} {od15 an15 : Option Addr} {sl15 : Array (Option Value)} {oc15 kV15 dc15 pm15 cd15 ct15 : Value}
    {f16 : Addr} {od16 an16 : Option Addr} {sl16 : Array (Option Value)} {oc16 kV16 dc16 pm16 cd16 ct16 : Value}
    {tk_LETTERS : Tok}
    {tk_LONGEST_WORD : Tok}
    {tk_UP : Tok}
    {tk_DOWN : Tok}
    {tk_FIGURES : Tok}
    {tk_MOST_FIGURES : Tok}
    {A_PARTS : Addr} {es_PARTS : Array DictEntry} {n_PARTS : Nat}
    {A_PARTS_send : Addr} {od_PARTS_send : Option Addr} {n_PARTS_send : Nat} {sl_PARTS_send : Array (Option Value)} {tk_PARTS_send_0 tk_PARTS_send_1 : Tok}
    {A_PARTS_express : Addr} {od_PARTS_express : Option Addr} {n_PARTS_express : Nat} {sl_PARTS_express : Array (Option Value)} {tk_PARTS_express_0 tk_PARTS_express_1 : Tok}
    {A_PARTS_say : Addr} {od_PARTS_say : Option Addr} {n_PARTS_say : Nat} {sl_PARTS_say : Array (Option Value)} {tk_PARTS_say_0 tk_PARTS_say_1 : Tok}
    {A_PARTS_recall : Addr} {od_PARTS_recall : Option Addr} {n_PARTS_recall : Nat} {sl_PARTS_recall : Array (Option Value)} {tk_PARTS_recall_0 : Tok}
    {A_PARTS_act : Addr} {od_PARTS_act : Option Addr} {n_PARTS_act : Nat} {sl_PARTS_act : Array (Option Value)} {tk_PARTS_act_0 : Tok}
    {A_PARTS_slip : Addr} {od_PARTS_slip : Option Addr} {n_PARTS_slip : Nat} {sl_PARTS_slip : Array (Option Value)} {tk_PARTS_slip_0 tk_PARTS_slip_1 tk_PARTS_slip_2 : Tok}
    {A_PARTS_doze : Addr} {od_PARTS_doze : Option Addr} {n_PARTS_doze : Nat} {sl_PARTS_doze : Array (Option Value)} {tk_PARTS_doze_0 : Tok}
    {A_PARTS_wake : Addr} {od_PARTS_wake : Option Addr} {n_PARTS_wake : Nat} {sl_PARTS_wake : Array (Option Value)} {tk_PARTS_wake_0 : Tok}
    {A_PARTS_fog : Addr} {od_PARTS_fog : Option Addr} {n_PARTS_fog : Nat} {sl_PARTS_fog : Array (Option Value)} {tk_PARTS_fog_0 : Tok}
    {A_PARTS_lift : Addr} {od_PARTS_lift : Option Addr} {n_PARTS_lift : Nat} {sl_PARTS_lift : Array (Option Value)} {tk_PARTS_lift_0 : Tok}
    {A_PARTS_beat : Addr} {od_PARTS_beat : Option Addr} {n_PARTS_beat : Nat} {sl_PARTS_beat : Array (Option Value)}
    {A_PARTS_settle : Addr} {od_PARTS_settle : Option Addr} {n_PARTS_settle : Nat} {sl_PARTS_settle : Array (Option Value)}
    {A_PARTS_turn : Addr} {od_PARTS_turn : Option Addr} {n_PARTS_turn : Nat} {sl_PARTS_turn : Array (Option Value)}
    {A_PARTS_lose : Addr} {od_PARTS_lose : Option Addr} {n_PARTS_lose : Nat} {sl_PARTS_lose : Array (Option Value)} {tk_PARTS_lose_0 tk_PARTS_lose_1 tk_PARTS_lose_2 : Tok}
    {A_PARTS_burn : Addr} {od_PARTS_burn : Option Addr} {n_PARTS_burn : Nat} {sl_PARTS_burn : Array (Option Value)} {tk_PARTS_burn_0 : Tok}
    {A_PARTS_ask : Addr} {od_PARTS_ask : Option Addr} {n_PARTS_ask : Nat} {sl_PARTS_ask : Array (Option Value)} {tk_PARTS_ask_0 tk_PARTS_ask_1 tk_PARTS_ask_2 : Tok}
    {A_PARTS_enter : Addr} {od_PARTS_enter : Option Addr} {n_PARTS_enter : Nat} {sl_PARTS_enter : Array (Option Value)} {tk_PARTS_enter_0 tk_PARTS_enter_1 tk_PARTS_enter_2 : Tok}
    {A_PARTS_strike : Addr} {od_PARTS_strike : Option Addr} {n_PARTS_strike : Nat} {sl_PARTS_strike : Array (Option Value)} {tk_PARTS_strike_0 tk_PARTS_strike_1 : Tok}
    {A_WITH_LISTS : Addr} {od_WITH_LISTS : Option Addr} {n_WITH_LISTS : Nat} {sl_WITH_LISTS : Array (Option Value)} {tk_WITH_LISTS_0 tk_WITH_LISTS_1 tk_WITH_LISTS_2 : Tok}
    (e_MastError : PySem.W.nsIn K mainGlobals "MastError" = some (some (.ref C_MastError)))
    (x_MastError : PySem.W.excIn K C_MastError [.type "ValueError", .type "Exception", .type "BaseException", .type "object"] "ValueError.__new__" = true)
    (k_MastError : PySem.W.keepIn K (.ref C_MastError) = true)
    (b_MastError : PySem.W.subIn K (.ref C_MastError) (.type "BaseException") = some true)
    (t_MastError : PySem.W.typeIn K (.ref C_MastError) = some (.type "type"))
    (i_MastError : PySem.W.isClsIn K C_MastError = true)
    (h_MastError : PySem.W.hasDictIn K C_MastError = true)
    (ga_MastError : PySem.W.findIn K (.ref C_MastError) "__getattribute__" = some (some (.builtin "BaseException.__getattribute__")))
    (gg_MastError : PySem.W.findIn K (.ref C_MastError) "__getattr__" = some none)
    (cl_MastError : PySem.W.findIn K (.ref C_MastError) "__class__" = some (some (.builtin "object.__class__")))
    (mo_MastError : PySem.W.mroIn K C_MastError (.type "object") = some true)
    (v_MastError : PySem.W.subIn K (.ref C_MastError) (.type "ValueError") = some true)
    (e_BadLine : PySem.W.nsIn K mainGlobals "BadLine" = some (some (.ref C_BadLine)))
    (x_BadLine : PySem.W.excIn K C_BadLine [.type "ValueError", .type "Exception", .type "BaseException", .type "object"] "ValueError.__new__" = true)
    (k_BadLine : PySem.W.keepIn K (.ref C_BadLine) = true)
    (b_BadLine : PySem.W.subIn K (.ref C_BadLine) (.type "BaseException") = some true)
    (t_BadLine : PySem.W.typeIn K (.ref C_BadLine) = some (.type "type"))
    (i_BadLine : PySem.W.isClsIn K C_BadLine = true)
    (h_BadLine : PySem.W.hasDictIn K C_BadLine = true)
    (ga_BadLine : PySem.W.findIn K (.ref C_BadLine) "__getattribute__" = some (some (.builtin "BaseException.__getattribute__")))
    (gg_BadLine : PySem.W.findIn K (.ref C_BadLine) "__getattr__" = some none)
    (cl_BadLine : PySem.W.findIn K (.ref C_BadLine) "__class__" = some (some (.builtin "object.__class__")))
    (mo_BadLine : PySem.W.mroIn K C_BadLine (.type "object") = some true)
    (v_BadLine : PySem.W.subIn K (.ref C_BadLine) (.type "ValueError") = some true)
    (s_MastError_MastError : PySem.W.subIn K (.ref C_MastError) (.ref C_MastError) = some true)
    (s_BadLine_MastError : PySem.W.subIn K (.ref C_BadLine) (.ref C_MastError) = some true)
    (s_BadLine_BadLine : PySem.W.subIn K (.ref C_BadLine) (.ref C_BadLine) = some true)
    (a1 : PySem.W.nsIn K mainGlobals "is_word" = some (some (.ref f1)))
    (l1 : K.lookup f1 = some ⟨oc1, od1, .func (PySem.W.fnOf "is_word" "is_word" (defArgs s_p_is_word) (defBody s_p_is_word) (defScope s_p_is_word) .none kV1 dc1 pm1 an1 (.ref c_tab) ct1), sl1⟩)
    (c1 : PySem.W.codeIn K (.ref c_tab) "is_word" = true)
    (y_l : K.lookup c_tab = some ⟨.type "code", dd_tab, .fields vs_tab, sl_tab⟩)
    (y_11 : vs_tab[11]? = some (.ref P_tab))
    (y_18 : vs_tab.getD 18 .none = .str fl_tab tf_tab)
    (y_7 : vs_tab.getD 7 .none = .int fg_tab tg_tab)
    (y_9 : vs_tab.getD 9 .none = .bool b_tab)
    (y_10 : vs_tab.getD 10 .none = .int tx_tab tt_tab)
    (y_ne : c_tab ≠ P_tab)
    (y_P : K.lookup P_tab = none)
    (k1 : PySem.W.keepIn K (.ref f1) = true)
    (a2 : PySem.W.nsIn K mainGlobals "is_number" = some (some (.ref f2)))
    (l2 : K.lookup f2 = some ⟨oc2, od2, .func (PySem.W.fnOf "is_number" "is_number" (defArgs s_p_is_number) (defBody s_p_is_number) (defScope s_p_is_number) .none kV2 dc2 pm2 an2 (.ref c_tabN) ct2), sl2⟩)
    (c2 : PySem.W.codeIn K (.ref c_tabN) "is_number" = true)
    (y_lN : K.lookup c_tabN = some ⟨.type "code", dd_tabN, .fields vs_tabN, sl_tabN⟩)
    (y_11N : vs_tabN[11]? = some (.ref P_tabN))
    (y_18N : vs_tabN.getD 18 .none = .str fl_tabN tf_tabN)
    (y_7N : vs_tabN.getD 7 .none = .int fg_tabN tg_tabN)
    (y_9N : vs_tabN.getD 9 .none = .bool b_tabN)
    (y_10N : vs_tabN.getD 10 .none = .int tx_tabN tt_tabN)
    (y_neN : c_tabN ≠ P_tabN)
    (y_PN : K.lookup P_tabN = none)
    (k2 : PySem.W.keepIn K (.ref f2) = true)
    (a3 : PySem.W.nsIn K mainGlobals "read_part" = some (some (.ref f3)))
    (l3 : K.lookup f3 = some ⟨oc3, od3, .func (PySem.W.fnOf "read_part" "read_part" (defArgs s_p_read_part) (defBody s_p_read_part) (defScope s_p_read_part) .none kV3 dc3 pm3 an3 cd3 ct3), sl3⟩)
    (c3 : PySem.W.codeIn K cd3 "read_part" = true)
    (k3 : PySem.W.keepIn K (.ref f3) = true)
    (a4 : PySem.W.nsIn K mainGlobals "read_parts" = some (some (.ref f4)))
    (l4 : K.lookup f4 = some ⟨oc4, od4, .func (PySem.W.fnOf "read_parts" "read_parts" (defArgs s_p_read_parts) (defBody s_p_read_parts) (defScope s_p_read_parts) .none kV4 dc4 pm4 an4 cd4 ct4), sl4⟩)
    (c4 : PySem.W.codeIn K cd4 "read_parts" = true)
    (k4 : PySem.W.keepIn K (.ref f4) = true)
    (a5 : PySem.W.nsIn K mainGlobals "read_deed" = some (some (.ref f5)))
    (l5 : K.lookup f5 = some ⟨oc5, od5, .func (PySem.W.fnOf "read_deed" "read_deed" (defArgs s_p_read_deed) (defBody s_p_read_deed) (defScope s_p_read_deed) .none kV5 dc5 pm5 an5 cd5 ct5), sl5⟩)
    (c5 : PySem.W.codeIn K cd5 "read_deed" = true)
    (k5 : PySem.W.keepIn K (.ref f5) = true)
    (a6 : PySem.W.nsIn K mainGlobals "_law_cell" = some (some (.ref f6)))
    (l6 : K.lookup f6 = some ⟨oc6, od6, .func (PySem.W.fnOf "_law_cell" "_law_cell" (defArgs s_l_cell) (defBody s_l_cell) (defScope s_l_cell) .none kV6 dc6 pm6 an6 cd6 ct6), sl6⟩)
    (c6 : PySem.W.codeIn K cd6 "_law_cell" = true)
    (k6 : PySem.W.keepIn K (.ref f6) = true)
    (a7 : PySem.W.nsIn K mainGlobals "_law_row" = some (some (.ref f7)))
    (l7 : K.lookup f7 = some ⟨oc7, od7, .func (PySem.W.fnOf "_law_row" "_law_row" (defArgs s_l_row) (defBody s_l_row) (defScope s_l_row) .none kV7 dc7 pm7 an7 cd7 ct7), sl7⟩)
    (c7 : PySem.W.codeIn K cd7 "_law_row" = true)
    (k7 : PySem.W.keepIn K (.ref f7) = true)
    (a8 : PySem.W.nsIn K mainGlobals "_law_like" = some (some (.ref f8)))
    (l8 : K.lookup f8 = some ⟨oc8, od8, .func (PySem.W.fnOf "_law_like" "_law_like" (defArgs s_l_like) (defBody s_l_like) (defScope s_l_like) .none kV8 dc8 pm8 an8 cd8 ct8), sl8⟩)
    (c8 : PySem.W.codeIn K cd8 "_law_like" = true)
    (k8 : PySem.W.keepIn K (.ref f8) = true)
    (a9 : PySem.W.nsIn K mainGlobals "_law_word" = some (some (.ref f9)))
    (l9 : K.lookup f9 = some ⟨oc9, od9, .func (PySem.W.fnOf "_law_word" "_law_word" (defArgs s_l_word) (defBody s_l_word) (defScope s_l_word) .none kV9 dc9 pm9 an9 cd9 ct9), sl9⟩)
    (c9 : PySem.W.codeIn K cd9 "_law_word" = true)
    (k9 : PySem.W.keepIn K (.ref f9) = true)
    (a10 : PySem.W.nsIn K mainGlobals "_law_is_word" = some (some (.ref f10)))
    (l10 : K.lookup f10 = some ⟨oc10, od10, .func (PySem.W.fnOf "_law_is_word" "_law_is_word" (defArgs s_l_is_word) (defBody s_l_is_word) (defScope s_l_is_word) .none kV10 dc10 pm10 an10 cd10 ct10), sl10⟩)
    (c10 : PySem.W.codeIn K cd10 "_law_is_word" = true)
    (k10 : PySem.W.keepIn K (.ref f10) = true)
    (a11 : PySem.W.nsIn K mainGlobals "_law_any_deed" = some (some (.ref f11)))
    (l11 : K.lookup f11 = some ⟨oc11, od11, .func (PySem.W.fnOf "_law_any_deed" "_law_any_deed" (defArgs s_l_any_deed) (defBody s_l_any_deed) (defScope s_l_any_deed) .none kV11 dc11 pm11 an11 cd11 ct11), sl11⟩)
    (c11 : PySem.W.codeIn K cd11 "_law_any_deed" = true)
    (k11 : PySem.W.keepIn K (.ref f11) = true)
    (a12 : PySem.W.nsIn K mainGlobals "_law_part" = some (some (.ref f12)))
    (l12 : K.lookup f12 = some ⟨oc12, od12, .func (PySem.W.fnOf "_law_part" "_law_part" (defArgs s_l_part) (defBody s_l_part) (defScope s_l_part) .none kV12 dc12 pm12 an12 cd12 ct12), sl12⟩)
    (c12 : PySem.W.codeIn K cd12 "_law_part" = true)
    (k12 : PySem.W.keepIn K (.ref f12) = true)
    (a13 : PySem.W.nsIn K mainGlobals "_law_meant" = some (some (.ref f13)))
    (l13 : K.lookup f13 = some ⟨oc13, od13, .func (PySem.W.fnOf "_law_meant" "_law_meant" (defArgs s_l_meant) (defBody s_l_meant) (defScope s_l_meant) .none kV13 dc13 pm13 an13 cd13 ct13), sl13⟩)
    (c13 : PySem.W.codeIn K cd13 "_law_meant" = true)
    (k13 : PySem.W.keepIn K (.ref f13) = true)
    (a14 : PySem.W.nsIn K mainGlobals "_law_spoilt" = some (some (.ref f14)))
    (l14 : K.lookup f14 = some ⟨oc14, od14, .func (PySem.W.fnOf "_law_spoilt" "_law_spoilt" (defArgs s_l_spoilt) (defBody s_l_spoilt) (defScope s_l_spoilt) .none kV14 dc14 pm14 an14 cd14 ct14), sl14⟩)
    (c14 : PySem.W.codeIn K cd14 "_law_spoilt" = true)
    (k14 : PySem.W.keepIn K (.ref f14) = true)
    (a15 : PySem.W.nsIn K mainGlobals "_law_told" = some (some (.ref f15)))
    (l15 : K.lookup f15 = some ⟨oc15, od15, .func (PySem.W.fnOf "_law_told" "_law_told" (defArgs s_l_told) (defBody s_l_told) (defScope s_l_told) .none kV15 dc15 pm15 an15 cd15 ct15), sl15⟩)
    (c15 : PySem.W.codeIn K cd15 "_law_told" = true)
    (k15 : PySem.W.keepIn K (.ref f15) = true)
    (a16 : PySem.W.nsIn K mainGlobals "law" = some (some (.ref f16)))
    (l16 : K.lookup f16 = some ⟨oc16, od16, .func (PySem.W.fnOf "law" "law" (defArgs s_law) (defBody s_law) (defScope s_law) .none kV16 dc16 pm16 an16 cd16 ct16), sl16⟩)
    (c16 : PySem.W.codeIn K cd16 "law" = true)
    (k16 : PySem.W.keepIn K (.ref f16) = true)
    (q_LETTERS : PySem.W.nsIn K mainGlobals "LETTERS" = some (some (.str "abcdefghijklmnopqrstuvwxyz" tk_LETTERS)))
    (q_LONGEST_WORD : PySem.W.nsIn K mainGlobals "LONGEST_WORD" = some (some (.int 12 tk_LONGEST_WORD)))
    (q_UP : PySem.W.nsIn K mainGlobals "UP" = some (some (.str "up" tk_UP)))
    (q_DOWN : PySem.W.nsIn K mainGlobals "DOWN" = some (some (.str "down" tk_DOWN)))
    (q_FIGURES : PySem.W.nsIn K mainGlobals "FIGURES" = some (some (.str "0123456789" tk_FIGURES)))
    (q_MOST_FIGURES : PySem.W.nsIn K mainGlobals "MOST_FIGURES" = some (some (.int 6 tk_MOST_FIGURES)))
    (q_PARTS : PySem.W.nsIn K mainGlobals "PARTS" = some (some (.ref A_PARTS)))
    (dl_PARTS : K.lookup A_PARTS = some ⟨.type "dict", none, .dict es_PARTS n_PARTS, #[]⟩)
    (lo_PARTS : (A_PARTS == sysModules) = false)
    (kl_PARTS : PySem.W.KeysLit w.params es_PARTS.toList)
    (ka_PARTS : KeysAre es_PARTS.toList ["send", "express", "say", "recall", "act", "slip", "doze", "wake", "fog", "lift", "beat", "settle", "turn", "lose", "burn", "ask", "enter", "strike"])
    (pn_PARTS_send : PySem.W.nsIn K A_PARTS "send" = some (some (.ref A_PARTS_send)))
    (pl_PARTS_send : K.lookup A_PARTS_send = some ⟨.type "tuple", od_PARTS_send, .seq #[.str "way" tk_PARTS_send_0, .str "number" tk_PARTS_send_1] n_PARTS_send, sl_PARTS_send⟩)
    (pn_PARTS_express : PySem.W.nsIn K A_PARTS "express" = some (some (.ref A_PARTS_express)))
    (pl_PARTS_express : K.lookup A_PARTS_express = some ⟨.type "tuple", od_PARTS_express, .seq #[.str "way" tk_PARTS_express_0, .str "number" tk_PARTS_express_1] n_PARTS_express, sl_PARTS_express⟩)
    (pn_PARTS_say : PySem.W.nsIn K A_PARTS "say" = some (some (.ref A_PARTS_say)))
    (pl_PARTS_say : K.lookup A_PARTS_say = some ⟨.type "tuple", od_PARTS_say, .seq #[.str "way" tk_PARTS_say_0, .str "word" tk_PARTS_say_1] n_PARTS_say, sl_PARTS_say⟩)
    (pn_PARTS_recall : PySem.W.nsIn K A_PARTS "recall" = some (some (.ref A_PARTS_recall)))
    (pl_PARTS_recall : K.lookup A_PARTS_recall = some ⟨.type "tuple", od_PARTS_recall, .seq #[.str "way" tk_PARTS_recall_0] n_PARTS_recall, sl_PARTS_recall⟩)
    (pn_PARTS_act : PySem.W.nsIn K A_PARTS "act" = some (some (.ref A_PARTS_act)))
    (pl_PARTS_act : K.lookup A_PARTS_act = some ⟨.type "tuple", od_PARTS_act, .seq #[.str "number" tk_PARTS_act_0] n_PARTS_act, sl_PARTS_act⟩)
    (pn_PARTS_slip : PySem.W.nsIn K A_PARTS "slip" = some (some (.ref A_PARTS_slip)))
    (pl_PARTS_slip : K.lookup A_PARTS_slip = some ⟨.type "tuple", od_PARTS_slip, .seq #[.str "number" tk_PARTS_slip_0, .str "number" tk_PARTS_slip_1, .str "number" tk_PARTS_slip_2] n_PARTS_slip, sl_PARTS_slip⟩)
    (pn_PARTS_doze : PySem.W.nsIn K A_PARTS "doze" = some (some (.ref A_PARTS_doze)))
    (pl_PARTS_doze : K.lookup A_PARTS_doze = some ⟨.type "tuple", od_PARTS_doze, .seq #[.str "number" tk_PARTS_doze_0] n_PARTS_doze, sl_PARTS_doze⟩)
    (pn_PARTS_wake : PySem.W.nsIn K A_PARTS "wake" = some (some (.ref A_PARTS_wake)))
    (pl_PARTS_wake : K.lookup A_PARTS_wake = some ⟨.type "tuple", od_PARTS_wake, .seq #[.str "number" tk_PARTS_wake_0] n_PARTS_wake, sl_PARTS_wake⟩)
    (pn_PARTS_fog : PySem.W.nsIn K A_PARTS "fog" = some (some (.ref A_PARTS_fog)))
    (pl_PARTS_fog : K.lookup A_PARTS_fog = some ⟨.type "tuple", od_PARTS_fog, .seq #[.str "number" tk_PARTS_fog_0] n_PARTS_fog, sl_PARTS_fog⟩)
    (pn_PARTS_lift : PySem.W.nsIn K A_PARTS "lift" = some (some (.ref A_PARTS_lift)))
    (pl_PARTS_lift : K.lookup A_PARTS_lift = some ⟨.type "tuple", od_PARTS_lift, .seq #[.str "number" tk_PARTS_lift_0] n_PARTS_lift, sl_PARTS_lift⟩)
    (pn_PARTS_beat : PySem.W.nsIn K A_PARTS "beat" = some (some (.ref A_PARTS_beat)))
    (pl_PARTS_beat : K.lookup A_PARTS_beat = some ⟨.type "tuple", od_PARTS_beat, .seq #[] n_PARTS_beat, sl_PARTS_beat⟩)
    (pn_PARTS_settle : PySem.W.nsIn K A_PARTS "settle" = some (some (.ref A_PARTS_settle)))
    (pl_PARTS_settle : K.lookup A_PARTS_settle = some ⟨.type "tuple", od_PARTS_settle, .seq #[] n_PARTS_settle, sl_PARTS_settle⟩)
    (pn_PARTS_turn : PySem.W.nsIn K A_PARTS "turn" = some (some (.ref A_PARTS_turn)))
    (pl_PARTS_turn : K.lookup A_PARTS_turn = some ⟨.type "tuple", od_PARTS_turn, .seq #[] n_PARTS_turn, sl_PARTS_turn⟩)
    (pn_PARTS_lose : PySem.W.nsIn K A_PARTS "lose" = some (some (.ref A_PARTS_lose)))
    (pl_PARTS_lose : K.lookup A_PARTS_lose = some ⟨.type "tuple", od_PARTS_lose, .seq #[.str "way" tk_PARTS_lose_0, .str "number" tk_PARTS_lose_1, .str "number" tk_PARTS_lose_2] n_PARTS_lose, sl_PARTS_lose⟩)
    (pn_PARTS_burn : PySem.W.nsIn K A_PARTS "burn" = some (some (.ref A_PARTS_burn)))
    (pl_PARTS_burn : K.lookup A_PARTS_burn = some ⟨.type "tuple", od_PARTS_burn, .seq #[.str "number" tk_PARTS_burn_0] n_PARTS_burn, sl_PARTS_burn⟩)
    (pn_PARTS_ask : PySem.W.nsIn K A_PARTS "ask" = some (some (.ref A_PARTS_ask)))
    (pl_PARTS_ask : K.lookup A_PARTS_ask = some ⟨.type "tuple", od_PARTS_ask, .seq #[.str "way" tk_PARTS_ask_0, .str "number" tk_PARTS_ask_1, .str "number" tk_PARTS_ask_2] n_PARTS_ask, sl_PARTS_ask⟩)
    (pn_PARTS_enter : PySem.W.nsIn K A_PARTS "enter" = some (some (.ref A_PARTS_enter)))
    (pl_PARTS_enter : K.lookup A_PARTS_enter = some ⟨.type "tuple", od_PARTS_enter, .seq #[.str "number" tk_PARTS_enter_0, .str "number" tk_PARTS_enter_1, .str "word" tk_PARTS_enter_2] n_PARTS_enter, sl_PARTS_enter⟩)
    (pn_PARTS_strike : PySem.W.nsIn K A_PARTS "strike" = some (some (.ref A_PARTS_strike)))
    (pl_PARTS_strike : K.lookup A_PARTS_strike = some ⟨.type "tuple", od_PARTS_strike, .seq #[.str "number" tk_PARTS_strike_0, .str "number" tk_PARTS_strike_1] n_PARTS_strike, sl_PARTS_strike⟩)
    (q_WITH_LISTS : PySem.W.nsIn K mainGlobals "WITH_LISTS" = some (some (.ref A_WITH_LISTS)))
    (tl_WITH_LISTS : K.lookup A_WITH_LISTS = some ⟨.type "tuple", od_WITH_LISTS, .seq #[.str "send" tk_WITH_LISTS_0, .str "express" tk_WITH_LISTS_1, .str "say" tk_WITH_LISTS_2] n_WITH_LISTS, sl_WITH_LISTS⟩)
    (z_all : PySem.W.nsIn K mainGlobals "all" = some none)
    (z_len : PySem.W.nsIn K mainGlobals "len" = some none)
    (z_int : PySem.W.nsIn K mainGlobals "int" = some none)
    (z_zip : PySem.W.nsIn K mainGlobals "zip" = some none)
    (z_range : PySem.W.nsIn K mainGlobals "range" = some none)
    (z_isinstance : PySem.W.nsIn K mainGlobals "isinstance" = some none)
    (z_bool : PySem.W.nsIn K mainGlobals "bool" = some none)
    (z_str : PySem.W.nsIn K mainGlobals "str" = some none)
    (z_list : PySem.W.nsIn K mainGlobals "list" = some none)
    (z_tuple : PySem.W.nsIn K mainGlobals "tuple" = some none)
    (z_max : PySem.W.nsIn K mainGlobals "max" = some none)
    (z_ValueError : PySem.W.nsIn K mainGlobals "ValueError" = some none)
    (oc_get : PySem.W.specialIn K (.builtin "object.__class__") "__get__" = some (some (.builtin "getset_descriptor.__get__")))
    (oc_tak : PySem.W.takesIn K (.builtin "object.__class__") = some true) :
    LamX.LawAtS l w K CX0 8 63 "_law_script" mg fa h := by
  have e := hfa.symm.trans (PySem.W.mg_of X G a16)
  cases e
  let T : Txt K mg :=
    { a_MastError := C_MastError,
      g_MastError := PySem.W.mg_of X G e_MastError,
      x_MastError := x_MastError,
      k_MastError := k_MastError,
      b_MastError := b_MastError,
      t_MastError := t_MastError,
      i_MastError := i_MastError,
      h_MastError := h_MastError,
      ga_MastError := ga_MastError,
      gg_MastError := gg_MastError,
      cl_MastError := cl_MastError,
      mo_MastError := mo_MastError,
      v_MastError := v_MastError,
      a_BadLine := C_BadLine,
      g_BadLine := PySem.W.mg_of X G e_BadLine,
      x_BadLine := x_BadLine,
      k_BadLine := k_BadLine,
      b_BadLine := b_BadLine,
      t_BadLine := t_BadLine,
      i_BadLine := i_BadLine,
      h_BadLine := h_BadLine,
      ga_BadLine := ga_BadLine,
      gg_BadLine := gg_BadLine,
      cl_BadLine := cl_BadLine,
      mo_BadLine := mo_BadLine,
      v_BadLine := v_BadLine,
      s_MastError_MastError := s_MastError_MastError,
      s_BadLine_MastError := s_BadLine_MastError,
      s_BadLine_BadLine := s_BadLine_BadLine,
      c_tab := c_tab,
      P_tab := P_tab,
      W_p_is_word := ⟨_, _, _, _, _, _, _, _, rfl, l1, c1⟩,
      f_p_is_word := f1,
      d_p_is_word := _,
      F_p_is_word := fun_mk (st := s_p_is_word) l1 c1 k1,
      b_p_is_word := (fun_mk (st := s_p_is_word) l1 c1 k1).binds (ps := ["text"]) fun _ _ _ _ _ _ us hl => match us, hl with | [_], _ => rfl,
      g_p_is_word := PySem.W.mg_of X G a1,
      c_tabN := c_tabN,
      P_tabN := P_tabN,
      W_p_is_number := ⟨_, _, _, _, _, _, _, _, rfl, l2, c2⟩,
      f_p_is_number := f2,
      d_p_is_number := _,
      F_p_is_number := fun_mk (st := s_p_is_number) l2 c2 k2,
      b_p_is_number := (fun_mk (st := s_p_is_number) l2 c2 k2).binds (ps := ["text"]) fun _ _ _ _ _ _ us hl => match us, hl with | [_], _ => rfl,
      g_p_is_number := PySem.W.mg_of X G a2,
      f_p_read_part := f3,
      d_p_read_part := _,
      F_p_read_part := fun_mk (st := s_p_read_part) l3 c3 k3,
      b_p_read_part := (fun_mk (st := s_p_read_part) l3 c3 k3).binds (ps := ["kind", "text"]) fun _ _ _ _ _ _ us hl => match us, hl with | [_, _], _ => rfl,
      g_p_read_part := PySem.W.mg_of X G a3,
      f_p_read_parts := f4,
      d_p_read_parts := _,
      F_p_read_parts := fun_mk (st := s_p_read_parts) l4 c4 k4,
      b_p_read_parts := (fun_mk (st := s_p_read_parts) l4 c4 k4).binds (ps := ["kinds", "texts"]) fun _ _ _ _ _ _ us hl => match us, hl with | [_, _], _ => rfl,
      g_p_read_parts := PySem.W.mg_of X G a4,
      f_p_read_deed := f5,
      d_p_read_deed := _,
      F_p_read_deed := fun_mk (st := s_p_read_deed) l5 c5 k5,
      b_p_read_deed := (fun_mk (st := s_p_read_deed) l5 c5 k5).binds (ps := ["text"]) fun _ _ _ _ _ _ us hl => match us, hl with | [_], _ => rfl,
      g_p_read_deed := PySem.W.mg_of X G a5,
      f_l_cell := f6,
      d_l_cell := _,
      F_l_cell := fun_mk (st := s_l_cell) l6 c6 k6,
      b_l_cell := (fun_mk (st := s_l_cell) l6 c6 k6).binds (ps := ["_law_script", "_law_at"]) fun _ _ _ _ _ _ us hl => match us, hl with | [_, _], _ => rfl,
      g_l_cell := PySem.W.mg_of X G a6,
      f_l_row := f7,
      d_l_row := _,
      F_l_row := fun_mk (st := s_l_row) l7 c7 k7,
      b_l_row := (fun_mk (st := s_l_row) l7 c7 k7).binds (ps := ["_law_cell_here", "_law_many", "_law_size"]) fun _ _ _ _ _ _ us hl => match us, hl with | [_, _, _], _ => rfl,
      g_l_row := PySem.W.mg_of X G a7,
      f_l_like := f8,
      d_l_like := _,
      F_l_like := fun_mk (st := s_l_like) l8 c8 k8,
      b_l_like := (fun_mk (st := s_l_like) l8 c8 k8).binds (ps := ["_law_found", "_law_due"]) fun _ _ _ _ _ _ us hl => match us, hl with | [_, _], _ => rfl,
      g_l_like := PySem.W.mg_of X G a8,
      f_l_word := f9,
      d_l_word := _,
      F_l_word := fun_mk (st := s_l_word) l9 c9 k9,
      b_l_word := (fun_mk (st := s_l_word) l9 c9 k9).binds (ps := ["_law_cell_here"]) fun _ _ _ _ _ _ us hl => match us, hl with | [_], _ => rfl,
      g_l_word := PySem.W.mg_of X G a9,
      f_l_is_word := f10,
      d_l_is_word := _,
      F_l_is_word := fun_mk (st := s_l_is_word) l10 c10 k10,
      b_l_is_word := (fun_mk (st := s_l_is_word) l10 c10 k10).binds (ps := ["_law_text"]) fun _ _ _ _ _ _ us hl => match us, hl with | [_], _ => rfl,
      g_l_is_word := PySem.W.mg_of X G a10,
      f_l_any_deed := f11,
      d_l_any_deed := _,
      F_l_any_deed := fun_mk (st := s_l_any_deed) l11 c11 k11,
      b_l_any_deed := (fun_mk (st := s_l_any_deed) l11 c11 k11).binds (ps := ["_law_cell_here"]) fun _ _ _ _ _ _ us hl => match us, hl with | [_], _ => rfl,
      g_l_any_deed := PySem.W.mg_of X G a11,
      f_l_part := f12,
      d_l_part := _,
      F_l_part := fun_mk (st := s_l_part) l12 c12 k12,
      b_l_part := (fun_mk (st := s_l_part) l12 c12 k12).binds (ps := ["_law_kind", "_law_text"]) fun _ _ _ _ _ _ us hl => match us, hl with | [_, _], _ => rfl,
      g_l_part := PySem.W.mg_of X G a12,
      f_l_meant := f13,
      d_l_meant := _,
      F_l_meant := fun_mk (st := s_l_meant) l13 c13 k13,
      b_l_meant := (fun_mk (st := s_l_meant) l13 c13 k13).binds (ps := ["_law_text"]) fun _ _ _ _ _ _ us hl => match us, hl with | [_], _ => rfl,
      g_l_meant := PySem.W.mg_of X G a13,
      f_l_spoilt := f14,
      d_l_spoilt := _,
      F_l_spoilt := fun_mk (st := s_l_spoilt) l14 c14 k14,
      b_l_spoilt := (fun_mk (st := s_l_spoilt) l14 c14 k14).binds (ps := ["_law_text", "_law_cell_here"]) fun _ _ _ _ _ _ us hl => match us, hl with | [_, _], _ => rfl,
      g_l_spoilt := PySem.W.mg_of X G a14,
      f_l_told := f15,
      d_l_told := _,
      F_l_told := fun_mk (st := s_l_told) l15 c15 k15,
      b_l_told := (fun_mk (st := s_l_told) l15 c15 k15).binds (ps := ["_law_text"]) fun _ _ _ _ _ _ us hl => match us, hl with | [_], _ => rfl,
      g_l_told := PySem.W.mg_of X G a15,
      u_LETTERS := _,
      c_LETTERS := PySem.W.mg_of X G q_LETTERS,
      r_LETTERS := ⟨_, rfl⟩,
      u_LONGEST_WORD := _,
      c_LONGEST_WORD := PySem.W.mg_of X G q_LONGEST_WORD,
      r_LONGEST_WORD := ⟨_, rfl⟩,
      u_UP := _,
      c_UP := PySem.W.mg_of X G q_UP,
      r_UP := ⟨_, rfl⟩,
      u_DOWN := _,
      c_DOWN := PySem.W.mg_of X G q_DOWN,
      r_DOWN := ⟨_, rfl⟩,
      u_FIGURES := _,
      c_FIGURES := PySem.W.mg_of X G q_FIGURES,
      r_FIGURES := ⟨_, rfl⟩,
      u_MOST_FIGURES := _,
      c_MOST_FIGURES := PySem.W.mg_of X G q_MOST_FIGURES,
      r_MOST_FIGURES := ⟨_, rfl⟩,
      ka_PARTS := ka_PARTS,
      a_PARTS := A_PARTS,
      c_PARTS := PySem.W.mg_of X G q_PARTS,
      es_PARTS := es_PARTS,
      n_PARTS := n_PARTS,
      at_PARTS := dl_PARTS,
      pk_PARTS_send := ⟨_, pn_PARTS_send, _, _, _, pl_PARTS_send, rfl, rfl, szl (by simp), (.cons ⟨_, rfl⟩ (.cons ⟨_, rfl⟩ .nil))⟩,
      pk_PARTS_express := ⟨_, pn_PARTS_express, _, _, _, pl_PARTS_express, rfl, rfl, szl (by simp), (.cons ⟨_, rfl⟩ (.cons ⟨_, rfl⟩ .nil))⟩,
      pk_PARTS_say := ⟨_, pn_PARTS_say, _, _, _, pl_PARTS_say, rfl, rfl, szl (by simp), (.cons ⟨_, rfl⟩ (.cons ⟨_, rfl⟩ .nil))⟩,
      pk_PARTS_recall := ⟨_, pn_PARTS_recall, _, _, _, pl_PARTS_recall, rfl, rfl, szl (by simp), (.cons ⟨_, rfl⟩ .nil)⟩,
      pk_PARTS_act := ⟨_, pn_PARTS_act, _, _, _, pl_PARTS_act, rfl, rfl, szl (by simp), (.cons ⟨_, rfl⟩ .nil)⟩,
      pk_PARTS_slip := ⟨_, pn_PARTS_slip, _, _, _, pl_PARTS_slip, rfl, rfl, szl (by simp), (.cons ⟨_, rfl⟩ (.cons ⟨_, rfl⟩ (.cons ⟨_, rfl⟩ .nil)))⟩,
      pk_PARTS_doze := ⟨_, pn_PARTS_doze, _, _, _, pl_PARTS_doze, rfl, rfl, szl (by simp), (.cons ⟨_, rfl⟩ .nil)⟩,
      pk_PARTS_wake := ⟨_, pn_PARTS_wake, _, _, _, pl_PARTS_wake, rfl, rfl, szl (by simp), (.cons ⟨_, rfl⟩ .nil)⟩,
      pk_PARTS_fog := ⟨_, pn_PARTS_fog, _, _, _, pl_PARTS_fog, rfl, rfl, szl (by simp), (.cons ⟨_, rfl⟩ .nil)⟩,
      pk_PARTS_lift := ⟨_, pn_PARTS_lift, _, _, _, pl_PARTS_lift, rfl, rfl, szl (by simp), (.cons ⟨_, rfl⟩ .nil)⟩,
      pk_PARTS_beat := ⟨_, pn_PARTS_beat, _, _, _, pl_PARTS_beat, rfl, rfl, szl (by simp), .nil⟩,
      pk_PARTS_settle := ⟨_, pn_PARTS_settle, _, _, _, pl_PARTS_settle, rfl, rfl, szl (by simp), .nil⟩,
      pk_PARTS_turn := ⟨_, pn_PARTS_turn, _, _, _, pl_PARTS_turn, rfl, rfl, szl (by simp), .nil⟩,
      pk_PARTS_lose := ⟨_, pn_PARTS_lose, _, _, _, pl_PARTS_lose, rfl, rfl, szl (by simp), (.cons ⟨_, rfl⟩ (.cons ⟨_, rfl⟩ (.cons ⟨_, rfl⟩ .nil)))⟩,
      pk_PARTS_burn := ⟨_, pn_PARTS_burn, _, _, _, pl_PARTS_burn, rfl, rfl, szl (by simp), (.cons ⟨_, rfl⟩ .nil)⟩,
      pk_PARTS_ask := ⟨_, pn_PARTS_ask, _, _, _, pl_PARTS_ask, rfl, rfl, szl (by simp), (.cons ⟨_, rfl⟩ (.cons ⟨_, rfl⟩ (.cons ⟨_, rfl⟩ .nil)))⟩,
      pk_PARTS_enter := ⟨_, pn_PARTS_enter, _, _, _, pl_PARTS_enter, rfl, rfl, szl (by simp), (.cons ⟨_, rfl⟩ (.cons ⟨_, rfl⟩ (.cons ⟨_, rfl⟩ .nil)))⟩,
      pk_PARTS_strike := ⟨_, pn_PARTS_strike, _, _, _, pl_PARTS_strike, rfl, rfl, szl (by simp), (.cons ⟨_, rfl⟩ (.cons ⟨_, rfl⟩ .nil))⟩,
      a_WITH_LISTS := A_WITH_LISTS,
      c_WITH_LISTS := PySem.W.mg_of X G q_WITH_LISTS,
      t_WITH_LISTS := ⟨_, _, _, tl_WITH_LISTS, rfl, rfl, szl (by simp), (.cons ⟨_, rfl⟩ (.cons ⟨_, rfl⟩ (.cons ⟨_, rfl⟩ .nil)))⟩,
      m_all := PySem.W.mg_none_of X G z_all,
      m_len := PySem.W.mg_none_of X G z_len,
      m_int := PySem.W.mg_none_of X G z_int,
      m_zip := PySem.W.mg_none_of X G z_zip,
      m_range := PySem.W.mg_none_of X G z_range,
      m_isinstance := PySem.W.mg_none_of X G z_isinstance,
      m_bool := PySem.W.mg_none_of X G z_bool,
      m_str := PySem.W.mg_none_of X G z_str,
      m_list := PySem.W.mg_none_of X G z_list,
      m_tuple := PySem.W.mg_none_of X G z_tuple,
      m_max := PySem.W.mg_none_of X G z_max,
      m_ValueError := PySem.W.mg_none_of X G z_ValueError,
      oc_get := oc_get,
      oc_tak := oc_tak }
  have hP : h.get? P_tab = some { cls := .none, data := .fields #[] } := own "is_word" (by simp) f1 (PySem.W.mg_of X G a1) c_tab P_tab _ _ _ _ _ _ l1 rfl rfl y_l y_11
  have hc : PySem.W.CodeHd h c_tab P_tab := codeHd_mk X y_l y_11 y_18 y_7 y_9 y_10 y_ne
  have hPN : h.get? P_tabN = some { cls := .none, data := .fields #[] } := own "is_number" (by simp) f2 (PySem.W.mg_of X G a2) c_tabN P_tabN _ _ _ _ _ _ l2 rfl rfl y_lN y_11N
  have hcN : PySem.W.CodeHd h c_tabN P_tabN := codeHd_mk X y_lN y_11N y_18N y_7N y_9N y_10N y_neN
  refine ⟨PySem.W.fnOf "law" "law" (defArgs s_law) (defBody s_law) (defScope s_law) .none kV16 dc16 pm16 an16 cd16 ct16, [(c_tab, P_tab), (c_tabN, P_tabN)], sp_law K P_tab P_tabN, ?_, ?_, ?_, fun s v => .of_eq rfl, fun H a ns hl _ hT hS => ⟨a, ns, rfl, hS, hl, ⟨#[], hT (c_tab, P_tab) (by simp), trivial⟩, ⟨#[], hT (c_tabN, P_tabN) (by simp), trivial⟩, fun _ => rfl⟩, fun base _ _ TB => ok_law T (let tb := TB (c_tab, P_tab) (by simp); ⟨tb.code, tb.bm, tb.gP⟩) (let tb := TB (c_tabN, P_tabN) (by simp); ⟨tb.code, tb.bm, tb.gP⟩) ⟨dl_PARTS, kl_PARTS, lo_PARTS⟩ (fun_mk (st := s_law) l16 c16 k16)⟩
  all_goals (intro p hp; simp only [List.mem_cons, List.not_mem_nil, or_false] at hp)
  · rcases hp with rfl | rfl
    · exact hP
    · exact hPN
  · rcases hp with rfl | rfl
    · exact y_P
    · exact y_PN
  · rcases hp with rfl | rfl
    · exact hc
    · exact hcN
end Mw
open PySem PySem.W PyProof.Rows
set_option maxRecDepth 100000 in
set_option maxHeartbeats 0 in
theorem PySem.Challenge.cw_mastword_k45_texts_that_are_no_deeds_holds : PySem.Challenge.rw_mastword_k45_texts_that_are_no_deeds.Holds := by
  w_on; o_law; k_head; (case hw => w_witness2)
  k_fill
  refine Mw.walk_tab (l := PySem.Challenge.rw_mastword_k45_texts_that_are_no_deeds) (n := 63) (k := 8) (x := "_law_script") (CX := fun _ => L2.CX0) ["is_word", "is_number"] rfl (by decide) rfl ⟨rfl, by decide, by decide⟩ (by decide +kernel) (fun w h Y => PySem.W.kIn_of Y) ?F (fun _ _ _ _ _ h => h)
  case F =>
    intro w mg fa h KX G hmg own
    refine' Mw.all_mk KX G hmg own ?e_MastError ?x_MastError ?k_MastError ?b_MastError ?t_MastError ?i_MastError ?h_MastError ?ga_MastError ?gg_MastError ?cl_MastError ?mo_MastError ?v_MastError ?e_BadLine ?x_BadLine ?k_BadLine ?b_BadLine ?t_BadLine ?i_BadLine ?h_BadLine ?ga_BadLine ?gg_BadLine ?cl_BadLine ?mo_BadLine ?v_BadLine ?s_MastError_MastError ?s_BadLine_MastError ?s_BadLine_BadLine ?a1 ?l1 ?c1 ?y_l ?y_11 ?y_18 ?y_7 ?y_9 ?y_10 ?y_ne ?y_P ?k1 ?a2 ?l2 ?c2 ?y_lN ?y_11N ?y_18N ?y_7N ?y_9N ?y_10N ?y_neN ?y_PN ?k2 ?a3 ?l3 ?c3 ?k3 ?a4 ?l4 ?c4 ?k4 ?a5 ?l5 ?c5 ?k5 ?a6 ?l6 ?c6 ?k6 ?a7 ?l7 ?c7 ?k7 ?a8 ?l8 ?c8 ?k8 ?a9 ?l9 ?c9 ?k9 ?a10 ?l10 ?c10 ?k10 ?a11 ?l11 ?c11 ?k11 ?a12 ?l12 ?c12 ?k12 ?a13 ?l13 ?c13 ?k13 ?a14 ?l14 ?c14 ?k14 ?a15 ?l15 ?c15 ?k15 ?a16 ?l16 ?c16 ?k16 ?q_LETTERS ?q_LONGEST_WORD ?q_UP ?q_DOWN ?q_FIGURES ?q_MOST_FIGURES ?q_PARTS ?dl_PARTS ?lo_PARTS ?kl_PARTS ?ka_PARTS ?pn_PARTS_send ?pl_PARTS_send ?pn_PARTS_express ?pl_PARTS_express ?pn_PARTS_say ?pl_PARTS_say ?pn_PARTS_recall ?pl_PARTS_recall ?pn_PARTS_act ?pl_PARTS_act ?pn_PARTS_slip ?pl_PARTS_slip ?pn_PARTS_doze ?pl_PARTS_doze ?pn_PARTS_wake ?pl_PARTS_wake ?pn_PARTS_fog ?pl_PARTS_fog ?pn_PARTS_lift ?pl_PARTS_lift ?pn_PARTS_beat ?pl_PARTS_beat ?pn_PARTS_settle ?pl_PARTS_settle ?pn_PARTS_turn ?pl_PARTS_turn ?pn_PARTS_lose ?pl_PARTS_lose ?pn_PARTS_burn ?pl_PARTS_burn ?pn_PARTS_ask ?pl_PARTS_ask ?pn_PARTS_enter ?pl_PARTS_enter ?pn_PARTS_strike ?pl_PARTS_strike ?q_WITH_LISTS ?tl_WITH_LISTS ?z_all ?z_len ?z_int ?z_zip ?z_range ?z_isinstance ?z_bool ?z_str ?z_list ?z_tuple ?z_max ?z_ValueError ?oc_get ?oc_tak
    (case e_MastError => k_is)
    (case x_MastError => k_exc)
    (case k_MastError => k_is)
    (case b_MastError => k_is)
    (case t_MastError => k_is)
    (case i_MastError => k_is)
    (case h_MastError => k_is)
    (case ga_MastError => k_is)
    (case gg_MastError => k_is)
    (case cl_MastError => k_is)
    (case mo_MastError => k_is)
    (case v_MastError => k_is)
    (case e_BadLine => k_is)
    (case x_BadLine => k_exc)
    (case k_BadLine => k_is)
    (case b_BadLine => k_is)
    (case t_BadLine => k_is)
    (case i_BadLine => k_is)
    (case h_BadLine => k_is)
    (case ga_BadLine => k_is)
    (case gg_BadLine => k_is)
    (case cl_BadLine => k_is)
    (case mo_BadLine => k_is)
    (case v_BadLine => k_is)
    (case s_MastError_MastError => (first | rfl | k_is))
    (case s_BadLine_MastError => (first | rfl | k_is))
    (case s_BadLine_BadLine => (first | rfl | k_is))
    (case a1 => k_is)
    (case l1 => k_is)
    (case c1 => k_is)
    (case y_l => k_is)
    (case y_11 => rfl)
    (case y_18 => rfl)
    (case y_7 => rfl)
    (case y_9 => rfl)
    (case y_10 => rfl)
    (case y_ne => (intro z; cases z))
    (case y_P => rfl)
    (case k1 => k_is)
    (case a2 => k_is)
    (case l2 => k_is)
    (case c2 => k_is)
    (case y_lN => k_is)
    (case y_11N => rfl)
    (case y_18N => rfl)
    (case y_7N => rfl)
    (case y_9N => rfl)
    (case y_10N => rfl)
    (case y_neN => (intro z; cases z))
    (case y_PN => rfl)
    (case k2 => k_is)
    (case a3 => k_is)
    (case l3 => k_is)
    (case c3 => k_is)
    (case k3 => k_is)
    (case a4 => k_is)
    (case l4 => k_is)
    (case c4 => k_is)
    (case k4 => k_is)
    (case a5 => k_is)
    (case l5 => k_is)
    (case c5 => k_is)
    (case k5 => k_is)
    (case a6 => k_is)
    (case l6 => k_is)
    (case c6 => k_is)
    (case k6 => k_is)
    (case a7 => k_is)
    (case l7 => k_is)
    (case c7 => k_is)
    (case k7 => k_is)
    (case a8 => k_is)
    (case l8 => k_is)
    (case c8 => k_is)
    (case k8 => k_is)
    (case a9 => k_is)
    (case l9 => k_is)
    (case c9 => k_is)
    (case k9 => k_is)
    (case a10 => k_is)
    (case l10 => k_is)
    (case c10 => k_is)
    (case k10 => k_is)
    (case a11 => k_is)
    (case l11 => k_is)
    (case c11 => k_is)
    (case k11 => k_is)
    (case a12 => k_is)
    (case l12 => k_is)
    (case c12 => k_is)
    (case k12 => k_is)
    (case a13 => k_is)
    (case l13 => k_is)
    (case c13 => k_is)
    (case k13 => k_is)
    (case a14 => k_is)
    (case l14 => k_is)
    (case c14 => k_is)
    (case k14 => k_is)
    (case a15 => k_is)
    (case l15 => k_is)
    (case c15 => k_is)
    (case k15 => k_is)
    (case a16 => k_is)
    (case l16 => k_is)
    (case c16 => k_is)
    (case k16 => k_is)
    (case q_LETTERS => k_is)
    (case q_LONGEST_WORD => k_is)
    (case q_UP => k_is)
    (case q_DOWN => k_is)
    (case q_FIGURES => k_is)
    (case q_MOST_FIGURES => k_is)
    (case q_PARTS => k_is)
    (case dl_PARTS => k_is)
    (case lo_PARTS => (first | rfl | decide))
    (case kl_PARTS => k_keys)
    (case ka_PARTS => (repeat (first | exact True.intro | refine And.intro ⟨_, rfl⟩ ?_)))
    (case pn_PARTS_send => k_is)
    (case pl_PARTS_send => k_is)
    (case pn_PARTS_express => k_is)
    (case pl_PARTS_express => k_is)
    (case pn_PARTS_say => k_is)
    (case pl_PARTS_say => k_is)
    (case pn_PARTS_recall => k_is)
    (case pl_PARTS_recall => k_is)
    (case pn_PARTS_act => k_is)
    (case pl_PARTS_act => k_is)
    (case pn_PARTS_slip => k_is)
    (case pl_PARTS_slip => k_is)
    (case pn_PARTS_doze => k_is)
    (case pl_PARTS_doze => k_is)
    (case pn_PARTS_wake => k_is)
    (case pl_PARTS_wake => k_is)
    (case pn_PARTS_fog => k_is)
    (case pl_PARTS_fog => k_is)
    (case pn_PARTS_lift => k_is)
    (case pl_PARTS_lift => k_is)
    (case pn_PARTS_beat => k_is)
    (case pl_PARTS_beat => k_is)
    (case pn_PARTS_settle => k_is)
    (case pl_PARTS_settle => k_is)
    (case pn_PARTS_turn => k_is)
    (case pl_PARTS_turn => k_is)
    (case pn_PARTS_lose => k_is)
    (case pl_PARTS_lose => k_is)
    (case pn_PARTS_burn => k_is)
    (case pl_PARTS_burn => k_is)
    (case pn_PARTS_ask => k_is)
    (case pl_PARTS_ask => k_is)
    (case pn_PARTS_enter => k_is)
    (case pl_PARTS_enter => k_is)
    (case pn_PARTS_strike => k_is)
    (case pl_PARTS_strike => k_is)
    (case q_WITH_LISTS => k_is)
    (case tl_WITH_LISTS => k_is)
    (case z_all => k_is)
    (case z_len => k_is)
    (case z_int => k_is)
    (case z_zip => k_is)
    (case z_range => k_is)
    (case z_isinstance => k_is)
    (case z_bool => k_is)
    (case z_str => k_is)
    (case z_list => k_is)
    (case z_tuple => k_is)
    (case z_max => k_is)
    (case z_ValueError => k_is)
    (case oc_get => k_is)
    (case oc_tak => k_is)
