import PyProof.Rows.All
import Wide.All
import OpenK.AllK
import Wide.FinOn
import HandS.ForMost
import HandS.ForExc
import HandS.AnyAll
import HandS.EndTab
import HandS.ExcIs
import HandS.ExcField
import HandS.ExcInit
import HandS.IsInst
import HandS.Conv
import HandS.Replace
import HandS.Flow
import HandS.Walk
import HandS.Evl
import KE.KExcIs
import HandS.EndOwn
import HandS.CallRecv
import HandS.SetFor
import HandS.Deep
import HandS.More
import HandS.HotCalls
import KE.DataMinMax
import HandS.SortInts
import KE.SortData
import KE.KDictWalk
import HandS.Style
import HandS.Star
import HandS.Defaults
import HandS.HeadEnd
import HandS.HeadHook1
import HandS.HeadHook2
import HandS.Head0
import HandS.Head1
import HandS.Head2
import KE.KStateDown
import HandS.HeadHook4
import HandS.HeadWalk
import KE.KNestM
import HandS.EndTab
import PySem.Challenge.RW_mastword_k22_signs_that_wait
set_option Elab.async false
set_option linter.all false
set_option maxRecDepth 100000
set_option maxHeartbeats 2000000
namespace Mw
open PySem PySem.Spec PyProof.Rows L2
/-! ### what is kept: every tracked thing but the tables of code objects, which stay tables -/
def isT : HO → Bool
  | .tbl _ => true
  | _ => false
structure Kp (H H' : Hp) : Prop where
  same : ∀ a o, isT o = false → H a = some o → H' a = some o
  tab : ∀ a, GxR.TabG H a → GxR.TabG H' a
  free : ∀ a, H' a = none → H a = none
theorem Kp.refl (H : Hp) : Kp H H := ⟨fun _ _ _ h => h, fun _ h => h, fun _ h => h⟩
theorem Kp.trans {H H1 H2 : Hp} (a : Kp H H1) (b : Kp H1 H2) : Kp H H2 :=
  ⟨fun x o t h => b.same x o t (a.same x o t h), fun x h => b.tab x (a.tab x h), fun x h => a.free x (b.free x h)⟩
theorem Kp.mut {H H' : Hp} {p : Addr} {o : HO} (e : Kp H H') (h : H p = none) : Kp H (upd H' p o) := by
  refine ⟨fun a u t ha => ?_, fun a ⟨ps, ha, ht⟩ => ?_, fun a ha => ?_⟩
  · rw [upd_ne (ne_of_none ha h)]
    exact e.same a u t ha
  · obtain ⟨ps', h1, h2⟩ := e.tab a ⟨ps, ha, ht⟩
    exact ⟨ps', by rw [upd_ne (ne_of_none ha h)]; exact h1, h2⟩
  · by_cases q : a = p
    · rw [q]
      exact h
    · rw [upd_ne q] at ha
      exact e.free a ha
theorem Kp.new {H : Hp} {p : Addr} {o : HO} (h : H p = none) : Kp H (upd H p o) := (Kp.refl H).mut h
theorem Kp.rd {H H' : Hp} {a : Addr} {u : HO} (e : Kp H H') (t : isT u = false) (h : Rd H a u) : Rd H' a u := by
  rcases h with h | ⟨o, h⟩
  · exact Or.inl (e.same a _ t h)
  · exact Or.inr ⟨o, e.same a _ rfl h⟩
theorem Kp.sqL {K : PySem.W.Frag} {H H' : Hp} {a : Addr} {xs : List V} (e : Kp H H') (h : SqL K H a xs) : SqL K H' a xs := by
  rcases h with h | h
  · exact Or.inl (e.rd rfl h)
  · exact Or.inr h
theorem Kp.sqT {K : PySem.W.Frag} {H H' : Hp} {a : Addr} {xs : List V} (e : Kp H H') (h : SqT K H a xs) : SqT K H' a xs := by
  rcases h with h | h
  · exact Or.inl (e.rd rfl h)
  · exact Or.inr h
mutual
theorem Kp.dp {K : PySem.W.Frag} {H H' : Hp} (e : Kp H H') : ∀ {d : PyData} {v : V}, Dp K H v d → Dp K H' v d
  | _, _, .non => .non
  | _, _, .bl b => .bl b
  | _, _, .int i => .int i
  | _, _, .str x => .str x
  | _, _, .lst h a => .lst (e.sqL h) (Kp.dpAll e a)
  | _, _, .tup h a => .tup (e.sqT h) (Kp.dpAll e a)
theorem Kp.dpAll {K : PySem.W.Frag} {H H' : Hp} (e : Kp H H') : ∀ {ds : List PyData} {vs : List V}, DpAll K H vs ds → DpAll K H' vs ds
  | _, _, .nil => .nil
  | _, _, .cons h t => .cons (Kp.dp e h) (Kp.dpAll e t)
end
theorem DpAll.len {K : PySem.W.Frag} {H : Hp} : ∀ {vs : List V} {ds : List PyData}, DpAll K H vs ds → vs.length = ds.length
  | _, _, .nil => rfl
  | _, _, .cons _ t => congrArg (· + 1) (DpAll.len t)
theorem DpAll.get {K : PySem.W.Frag} {H : Hp} : ∀ {vs : List V} {ds : List PyData} {i : Nat} {d : PyData}, DpAll K H vs ds → ds[i]? = some d → ∃ v, vs[i]? = some v ∧ Dp K H v d
  | _, _, i, d, .nil, h => by simp at h
  | _, _, 0, d, .cons a _, h => by
    have e := Option.some.inj h
    subst e
    exact ⟨_, rfl, a⟩
  | _, _, i + 1, d, .cons _ t, h => DpAll.get (i := i) t h
theorem DpAll.app {K : PySem.W.Frag} {H : Hp} : ∀ {vs ws : List V} {ds es : List PyData}, DpAll K H vs ds → DpAll K H ws es → DpAll K H (vs ++ ws) (ds ++ es)
  | _, _, _, _, .nil, b => b
  | _, _, _, _, .cons a t, b => .cons a (DpAll.app t b)
/-- data without lists -/
inductive Nl : PyData → Prop
  | non : Nl .none
  | bl (b : Bool) : Nl (.bool b)
  | int (i : Int) : Nl (.int i)
  | str (x : Str) : Nl (.str x)
  | tup {ds : List PyData} : (∀ d ∈ ds, Nl d) → Nl (.tuple ds)
/-! a list may change: what has no list in it stays -/
mutual
theorem Dp.mut {K : PySem.W.Frag} {H : Hp} {p : Addr} {o : HO} {zs : List V} (hp : H p = some (.lst zs)) : ∀ {d : PyData} {v : V}, Nl d → Dp K H v d → Dp K (upd H p o) v d
  | _, _, _, .non => .non
  | _, _, _, .bl b => .bl b
  | _, _, _, .int i => .int i
  | _, _, _, .str x => .str x
  | _, _, n, .lst _ _ => nomatch n
  | _, _, n, .tup h a => by
    cases n with
    | tup n =>
      refine .tup ?_ (DpAll.mut hp n a)
      rcases h with (h | ⟨ob, h⟩) | h
      · exact .inl (.inl (by rw [upd_ne (ne_of h hp (by intro z; cases z))]; exact h))
      · exact .inl (.inr ⟨ob, by rw [upd_ne (ne_of h hp (by intro z; cases z))]; exact h⟩)
      · exact .inr h
theorem DpAll.mut {K : PySem.W.Frag} {H : Hp} {p : Addr} {o : HO} {zs : List V} (hp : H p = some (.lst zs)) : ∀ {ds : List PyData} {vs : List V}, (∀ d ∈ ds, Nl d) → DpAll K H vs ds → DpAll K (upd H p o) vs ds
  | _, _, _, .nil => .nil
  | _, _, n, .cons h t => .cons (Dp.mut hp (n _ List.mem_cons_self) h) (DpAll.mut hp (fun d hd => n d (List.mem_cons_of_mem _ hd)) t)
end
theorem DpAll.snoc {K : PySem.W.Frag} {H : Hp} {vs : List V} {ds : List PyData} {v : V} {d : PyData} (a : DpAll K H vs ds) (h : Dp K H v d) : DpAll K H (vs ++ [v]) (ds ++ [d]) := DpAll.app a (.cons h .nil)
theorem DpAll.dropLast {K : PySem.W.Frag} {H : Hp} : ∀ {vs : List V} {ds : List PyData}, DpAll K H vs ds → DpAll K H vs.dropLast ds.dropLast
  | _, _, .nil => .nil
  | _, _, .cons _ .nil => .nil
  | _, _, .cons h (.cons h2 t) => .cons h (DpAll.dropLast (.cons h2 t))
theorem dp_ints {K : PySem.W.Frag} {H : Hp} : ∀ ns : List Int, DpAll K H (ns.map V.int) (ns.map PyData.int)
  | [] => .nil
  | n :: r => .cons (.int n) (dp_ints r)
theorem dp_strs {K : PySem.W.Frag} {H : Hp} : ∀ ns : List Str, DpAll K H (ns.map V.str) (ns.map PyData.str)
  | [] => .nil
  | n :: r => .cons (.str n) (dp_strs r)
/-- a list of ints, a list of texts as data -/
def dI (ns : List Int) : PyData := .list (ns.map PyData.int)
def dS (ns : List Str) : PyData := .list (ns.map PyData.str)
theorem dp_dI {K : PySem.W.Frag} {H : Hp} {a : Addr} {ns : List Int} (h : SqL K H a (ns.map V.int)) : Dp K H (.ref a) (dI ns) := .lst h (dp_ints ns)
theorem dpAll_ints {K : PySem.W.Frag} {H : Hp} : ∀ {ns : List Int} {vs : List V}, DpAll K H vs (ns.map PyData.int) → vs = ns.map V.int
  | [], _, .nil => rfl
  | n :: r, _, .cons h t => by
    cases h
    rw [dpAll_ints t]
    rfl
theorem dp_of_dI {K : PySem.W.Frag} {H : Hp} {v : V} {ns : List Int} (h : Dp K H v (dI ns)) : ∃ a, v = .ref a ∧ SqL K H a (ns.map V.int) := by
  cases h with
  | lst h t =>
    rw [dpAll_ints t] at h
    exact ⟨_, rfl, h⟩
/-! ### small words -/
theorem at_int {ns : List Int} {j : Nat} (h : j < ns.length) : atI (ns.map V.int) (j : Int) = some (.int ns[j]) := atI_nat (by rw [List.getElem?_map, List.getElem?_eq_getElem h]; rfl)
theorem at_intZ {ns : List Int} {z : Int} (h0 : 0 ≤ z) (h : z.toNat < ns.length) : atI (ns.map V.int) z = some (.int ns[z.toNat]) := by
  have e := at_int h
  rw [Int.toNat_of_nonneg h0] at e
  exact e
theorem szl {n : Nat} (h : n ≤ 100000) : n ≤ sizeLine := Nat.le_trans h (by decide)
theorem szt {n : Nat} (h : n < 100000) : n < sizeLine := Nat.lt_of_lt_of_le h (by decide)
theorem iteB {b : Bool} {A B : Prop} (h1 : b = true → A) (h2 : b = false → B) : if b = true then A else B := by
  cases b with
  | true => rw [if_pos rfl]; exact h1 rfl
  | false => rw [if_neg Bool.false_ne_true]; exact h2 rfl
theorem iteD {c : Prop} [Decidable c] {A B : Prop} (h1 : c → A) (h2 : ¬ c → B) : if decide c = true then A else B :=
  iteB (fun h => h1 (of_decide_eq_true h)) (fun h => h2 (of_decide_eq_false h))
theorem iteN {c : Prop} [Decidable c] {A B : Prop} (h1 : ¬ c → A) (h2 : c → B) : if (!decide c) = true then A else B :=
  iteB (fun h => h1 (fun z => by rw [decide_eq_true z] at h; cases h)) (fun h => h2 (by
    by_cases z : c
    · exact z
    · rw [decide_eq_false z] at h; cases h))
theorem iteTo {b : Bool} {A B : Prop} (e : b = true) (h : A) : if b = true then A else B := by rw [if_pos e]; exact h
theorem iteFo {b : Bool} {A B : Prop} (e : b = false) (h : B) : if b = true then A else B := by rw [e, if_neg Bool.false_ne_true]; exact h
/-! ### rules with the written part by its own name (inside a comprehension) -/
section
variable {X : Cx} (K : PySem.W.Frag)
theorem ix_listK (h : X.K = K) : IxR X (rIxL K) := h ▸ ix_list
theorem ix_tupK (h : X.K = K) : IxR X (rIxT K) := h ▸ ix_tup
theorem ix_seqK (h : X.K = K) : IxR X (rIx K) := h ▸ ix_seq
def rLenSq : List V → Hp → VK → Prop := fun xs H Q => ∃ p ys, xs = [.ref p] ∧ (SqL K H p ys ∨ SqT K H p ys) ∧ Q (.int ys.length) H
theorem call_lenSK (h : X.K = K) : CallR X (.builtin "len") (rLenSq K) := h ▸ call_len_seq
def rLenV : List V → Hp → VK → Prop := fun xs H Q => ∃ x n, xs = [x] ∧ LenV K x H n ∧ Q (.int n) H
theorem call_lenK (h : X.K = K) : CallR X (.builtin "len") (rLenV K) := h ▸ call_len
theorem op_inK (h : X.K = K) : OpR X (compareOp .In) (rIn K false) := h ▸ op_in_seq
theorem op_notInK (h : X.K = K) : OpR X (compareOp .NotIn) (rIn K true) := h ▸ op_notIn_seq
theorem op_eqDK (h : X.K = K) (hu : X.A.units + 64 < cLine) : OpR X (compareOp .Eq) (rEqD K) := h ▸ op_eqD hu
theorem op_neDK (h : X.K = K) (hu : X.A.units + 64 < cLine) : OpR X (compareOp .NotEq) (rNeD K) := h ▸ op_neD hu
theorem call_isiKK (h : X.K = K) : CallR X (.builtin "isinstance") (rIsi K) := h ▸ call_isi
end
section
variable {X : Cx} (K : PySem.W.Frag)
theorem pgK {e : Expr} {n : Nat} {t : TGs} (h : X.K = K) (p : PG X e (gTup X.K n t)) : PG X e (gTup K n t) := h ▸ p
/-- isinstance(e, C), e what the suite has caught (without or with a dict of its own) -/
def rIsX (cls : Value) (d : Option Addr) (a : Addr) : List V → Hp → VK → Prop := fun xs H Q => ∃ (D : Addr) (c : V) (cv : Value) (b : Bool), cls = .ref D ∧ (d = none ∨ ∃ dd fs, d = some dd ∧ H dd = some (.xd fs)) ∧ ExcC K D ∧ xs = [.ref a, c] ∧ ClsV c cv ∧ PySem.W.kitOne K (.ref D) cv = some b ∧ Q (.bl b) H
theorem call_isX {a : Addr} {oe : Obj} {pn : List (Addr × Obj)} {cls : Value} {d : Option Addr} (h : X.K = K) (hz : Zc cls d oe) (hf : ∃ vs, oe.data = .fields vs) : CallR (X.suite a ((a, oe) :: pn)) (.builtin "isinstance") (rIsX K cls d a) := by
  subst h
  intro pins s σ H xs us Q I r h'
  obtain ⟨D, c, cv, b, rfl, hd, C, rfl, hc, hk, q⟩ := h'
  cases r with | cons rx rr =>
  cases rr with | cons rt rr =>
  cases rr
  cases rx
  have ec := hc.eq rt
  subst ec
  obtain ⟨hget, _⟩ := I.pin (a, oe) (List.mem_append_left _ List.mem_cons_self)
  obtain ⟨vs, hv⟩ := hf
  have hcl : (PySem.W.clsIn X.K D).isSome = true := by
    obtain ⟨cd, hc, _⟩ := PySem.W.any_some C.hd
    rw [hc]
    first | rfl | done
  have nc : PySem.W.notCls oe = true := by
    unfold PySem.W.notCls
    rw [hv]
  rcases hd with rfl | ⟨dd, fs, rfl, hdd⟩
  · have J : PySem.W.InstAt s.heap a oe D none := ⟨hget, hz.1, nc, by rw [hz.2]; trivial⟩
    exact PySem.W.kia_one (PySem.W.kitx_exc hcl C.hg C.hk C.hs C.ha C.hn C.ht C.hm) I.kIn J hk (fun z => nomatch z) fun tk => ⟨.bl b, H, I.kept (t' := tk) fun _ _ z => z, rfl, q⟩
  · obtain ⟨mA, hns, hr⟩ := I.hok dd _ hdd
    obtain ⟨od, ho, hl⟩ := lookIn_ns hns
    have J : PySem.W.InstAt s.heap a oe D (some od) := ⟨hget, hz.1, nc, by rw [hz.2]; exact ho⟩
    exact PySem.W.kia_one (PySem.W.kitx_exc hcl C.hg C.hk C.hs C.ha C.hn C.ht C.hm) I.kIn J hk (fun z => nomatch z) fun tk => ⟨.bl b, H, I.kept (t' := tk) fun _ _ z => z, rfl, q⟩
end
/-! ### isinstance of an own error, by what the written part says of its class -/
theorem kit_sub {K : PySem.W.Frag} {t : Value} {C : Addr} (ic : PySem.W.isClsIn K C = true) (tC : PySem.W.typeIn K (.ref C) = some (.type "type")) (h : PySem.W.subIn K t (.ref C) = some true) : PySem.W.kitOne K t (.ref C) = some true := by
  unfold PySem.W.kitOne
  by_cases e : (t == .ref C) = true
  · rw [if_pos e]
  · rw [if_neg e]
    have h2 : ((PySem.W.clsIn K C).isSome && PySem.W.typeIn K (.ref C) == some (.type "type")) = true := by
      have q : (PySem.W.clsIn K C).isSome = true := ic
      rw [q, tC]
      rfl
    show (if ((PySem.W.clsIn K C).isSome && PySem.W.typeIn K (.ref C) == some (.type "type")) = true then PySem.W.subIn K t (.ref C) else none) = some true
    rw [if_pos h2]
    exact h
theorem kit_not {K : PySem.W.Frag} {t : Value} {C : Addr} (ic : PySem.W.isClsIn K C = true) (tC : PySem.W.typeIn K (.ref C) = some (.type "type")) (h : PySem.W.subIn K t (.ref C) = some false) (hs : PySem.W.subIn K t t = some true) : PySem.W.kitOne K t (.ref C) = some false := by
  unfold PySem.W.kitOne
  have e : ¬ (t == .ref C) = true := fun e => by
    have z : t = .ref C := by simpa using e
    rw [z] at h hs
    rw [h] at hs
    cases hs
  rw [if_neg e]
  have h2 : ((PySem.W.clsIn K C).isSome && PySem.W.typeIn K (.ref C) == some (.type "type")) = true := by
    have q : (PySem.W.clsIn K C).isSome = true := ic
    rw [q, tC]
    rfl
  show (if ((PySem.W.clsIn K C).isSome && PySem.W.typeIn K (.ref C) == some (.type "type")) = true then PySem.W.subIn K t (.ref C) else none) = some false
  rw [if_pos h2]
  exact h
theorem meta_ve : PySem.W.kitMeta "ValueError" = true := by decide +kernel
theorem kit_ve {K : PySem.W.Frag} {C : Addr} (h : PySem.W.subIn K (.ref C) (.type "ValueError") = some true) : PySem.W.kitOne K (.ref C) (.type "ValueError") = some true := by
  unfold PySem.W.kitOne
  rw [if_neg (by intro z; cases z)]
  show (if PySem.W.kitMeta "ValueError" = true then PySem.W.subIn K (.ref C) (.type "ValueError") else none) = some true
  rw [if_pos meta_ve]
  exact h
theorem at_mod (z : Str) {m : Int} {n : Nat} (hn : 0 < n) (hl : z.cps.toList.length = n) : ∃ c, atI z.cps.toList (m % (n : Int)) = some c := by
  have h0 : 0 ≤ m % (n : Int) := Int.emod_nonneg _ (by omega)
  have h1 : m % (n : Int) < (n : Int) := Int.emod_lt_of_pos _ (by omega)
  have hj : (m % (n : Int)).toNat < z.cps.toList.length := by omega
  refine ⟨z.cps.toList[(m % (n : Int)).toNat], ?_⟩
  have e := atI_nat (List.getElem?_eq_getElem hj)
  rw [Int.toNat_of_nonneg h0] at e
  exact e
theorem cutV_map {lo hi : Option Int} {ns : List Int} : ∃ ms : List Int, cutV (ns.map V.int) lo hi = ms.map V.int ∧ (∀ m ∈ ms, m ∈ ns) ∧ ms.length ≤ ns.length := by
  unfold cutV
  rw [List.length_map]
  refine ⟨(ns.drop _).take _, by rw [List.map_take, List.map_drop], fun m h => List.mem_of_mem_drop (List.mem_of_mem_take h), ?_⟩
  rw [List.length_take, List.length_drop]
  omega
theorem mem_ints {ns : List Int} {i : Nat} {x : V} (h : (ns.map V.int)[i]? = some x) : ∃ z, z ∈ ns ∧ x = .int z ∧ ns[i]? = some z := by
  rw [List.getElem?_map] at h
  cases e : ns[i]? with
  | none =>
    rw [e] at h
    cases h
  | some z =>
    rw [e] at h
    exact ⟨z, List.mem_of_getElem? e, (Option.some.inj h).symm, rfl⟩
theorem mem_strs {ns : List Str} {i : Nat} {x : V} (h : (ns.map V.str)[i]? = some x) : ∃ z, z ∈ ns ∧ x = .str z ∧ ns[i]? = some z := by
  rw [List.getElem?_map] at h
  cases e : ns[i]? with
  | none =>
    rw [e] at h
    cases h
  | some z =>
    rw [e] at h
    exact ⟨z, List.mem_of_getElem? e, (Option.some.inj h).symm, rfl⟩
theorem take_snoc {α : Type} {l : List α} {i : Nat} {z : α} (h : l[i]? = some z) : l.take (i + 1) = l.take i ++ [z] := by
  rw [List.take_succ, h]
  rfl
/-! ### for x in a list or a tuple, whichever it is -/
def iSeq (K : PySem.W.Frag) (tl : TE) : TI := fun σ H R => tl σ H fun x H1 => ∃ a, x = .ref a ∧ ((∃ xs, SqL K H1 a xs) ∧ R (Itl K a) H1 ∨ (∃ xs, SqT K H1 a xs) ∧ R (Itt K a) H1)
theorem pi_seq {X : Cx} {tg l : Expr} {tl : TE} (hl : PE X l tl) : PI X tg l (iSeq X.K tl) := by
  refine ⟨fun pins s σ H R I h => ?_⟩
  refine thn (hl.run pins s σ H _ I h) fun v s1 ⟨x, H1, I1, r1, q1⟩ => ?_
  obtain ⟨a, e, q1⟩ := q1
  subst e
  cases r1
  rcases q1 with ⟨⟨xs, hq⟩, q⟩ | ⟨⟨xs, hq⟩, q⟩
  · obtain ⟨its, rv, p, hz⟩ := I1.list hq
    refine wpAny_pyIter_list p.isList ?_
    refine ⟨s1.heap.objs.size, [s1.heap.objs.size], _, _, H1, rfl, I1.kept (t' := s1.toks) fun b o e => Heap.get?_push_of_some _ e, turn_list a _, ⟨_, Heap.get?_push_size _ rfl, rfl, rfl⟩, fun b hb => ?_, q⟩
    have e : b = s1.heap.objs.size := by simpa using hb
    subst e
    exact I1.fpOk (Nat.le_refl _) (I1.hok.fresh (Nat.le_refl _))
  · obtain ⟨its, rv, p, hz⟩ := I1.tuple hq
    refine wpAny_pyIter_tuple (show s1.heap.IsTuple a its.toArray from p) ?_
    refine ⟨s1.heap.objs.size, [s1.heap.objs.size], _, _, H1, rfl, I1.kept (t' := s1.toks) fun b o e => Heap.get?_push_of_some _ e, turn_tuple a _, ⟨_, Heap.get?_push_size _ rfl, rfl, rfl⟩, fun b hb => ?_, q⟩
    have e : b = s1.heap.objs.size := by simpa using hb
    subst e
    exact I1.fpOk (Nat.le_refl _) (I1.hok.fresh (Nat.le_refl _))

/-! ### a large top: its facts by names, checked in one run -/
def exObj (K : PySem.W.Frag) : Bool := He.eqO (PySem.W.specialIn K (.builtin "object.__class__") "__get__") (some (some (.builtin "getset_descriptor.__get__"))) && decide (PySem.W.takesIn K (.builtin "object.__class__") = some true)
def excB (K : PySem.W.Frag) (x : Str) : Bool := He.eqO (PySem.W.nsIn K mainGlobals x) (some (some (.ref (He.ga K x)))) && (PySem.W.excIn K (He.ga K x) He.veBase "ValueError.__new__" && (PySem.W.keepIn K (.ref (He.ga K x)) &&
  (decide (PySem.W.subIn K (.ref (He.ga K x)) (.type "BaseException") = some true) && (decide (PySem.W.typeIn K (.ref (He.ga K x)) = some (.type "type")) && (PySem.W.isClsIn K (He.ga K x) && (PySem.W.hasDictIn K (He.ga K x) &&
  (He.eqO (PySem.W.findIn K (.ref (He.ga K x)) "__getattribute__") (some (some (.builtin "BaseException.__getattribute__"))) && (He.eqO (PySem.W.findIn K (.ref (He.ga K x)) "__getattr__") (some none) &&
  (He.eqO (PySem.W.findIn K (.ref (He.ga K x)) "__class__") (some (some (.builtin "object.__class__"))) && (decide (PySem.W.mroIn K (He.ga K x) (.type "object") = some true) && (decide (PySem.W.subIn K (.ref (He.ga K x)) (.type "ValueError") = some true) &&
  decide (PySem.W.subIn K (.ref (He.ga K x)) (.ref (He.ga K "MastError")) = some true))))))))))))
structure ExcT (K : PySem.W.Frag) (mg : Str → Option Value) (nm : Str) : Prop where
  g : mg nm = some (.ref (He.ga K nm))
  x : PySem.W.excIn K (He.ga K nm) He.veBase "ValueError.__new__" = true
  k : PySem.W.keepIn K (.ref (He.ga K nm)) = true
  b : PySem.W.subIn K (.ref (He.ga K nm)) (.type "BaseException") = some true
  t : PySem.W.typeIn K (.ref (He.ga K nm)) = some (.type "type")
  i : PySem.W.isClsIn K (He.ga K nm) = true
  h : PySem.W.hasDictIn K (He.ga K nm) = true
  ga : PySem.W.findIn K (.ref (He.ga K nm)) "__getattribute__" = some (some (.builtin "BaseException.__getattribute__"))
  gg : PySem.W.findIn K (.ref (He.ga K nm)) "__getattr__" = some none
  cl : PySem.W.findIn K (.ref (He.ga K nm)) "__class__" = some (some (.builtin "object.__class__"))
  mo : PySem.W.mroIn K (He.ga K nm) (.type "object") = some true
  v : PySem.W.subIn K (.ref (He.ga K nm)) (.type "ValueError") = some true
  s : PySem.W.subIn K (.ref (He.ga K nm)) (.ref (He.ga K "MastError")) = some true
theorem excB_ok {K : PySem.W.Frag} {h : Heap} {mg : Str → Option Value} (X : K.In h) (G : h.Ns mainGlobals mg) {x : Str} (c : excB K x = true) : ExcT K mg x := by
  obtain ⟨c1, c⟩ := He.ba c
  obtain ⟨c2, c⟩ := He.ba c
  obtain ⟨c3, c⟩ := He.ba c
  obtain ⟨c4, c⟩ := He.ba c
  obtain ⟨c5, c⟩ := He.ba c
  obtain ⟨c6, c⟩ := He.ba c
  obtain ⟨c7, c⟩ := He.ba c
  obtain ⟨c8, c⟩ := He.ba c
  obtain ⟨c9, c⟩ := He.ba c
  obtain ⟨c10, c⟩ := He.ba c
  obtain ⟨c11, c⟩ := He.ba c
  obtain ⟨c12, c13⟩ := He.ba c
  exact ⟨PySem.W.mg_of X G (He.eqO_ok c1), c2, c3, of_decide_eq_true c4, of_decide_eq_true c5, c6, c7, He.eqO_ok c8, He.eqO_ok c9, He.eqO_ok c10, of_decide_eq_true c11, of_decide_eq_true c12, of_decide_eq_true c13⟩
/-- of some classes none is over another -/
def kindB (K : PySem.W.Frag) (xs : List Str) : Bool := xs.all fun x => xs.all fun y => decide (PySem.W.subIn K (.ref (He.ga K x)) (.ref (He.ga K y)) = some (decide (x = y)))
theorem kindB_ok {K : PySem.W.Frag} {xs : List Str} (c : kindB K xs = true) {x y : Str} (hx : x ∈ xs) (hy : y ∈ xs) : PySem.W.subIn K (.ref (He.ga K x)) (.ref (He.ga K y)) = some (decide (x = y)) :=
  of_decide_eq_true (List.all_eq_true.mp (List.all_eq_true.mp c x hx) y hy)
def aliasB (K : PySem.W.Frag) (p : Str × Str) : Bool := He.eqO (PySem.W.nsIn K mainGlobals p.1) (some (some (.ref (He.ga K p.2))))
/-- all that is checked, but for the defs -/
structure FactsB where
  fa : List He.Fa
  exc : List Str
  kind : List Str
  al : List (Str × Str)
def FactsB.ok (F : FactsB) (K : PySem.W.Frag) : Bool := (F.fa.all fun f => f.ok K) && (F.exc.all (excB K) && (kindB K F.kind && (F.al.all (aliasB K) && exObj K)))
def obsB (as : List Addr) (F : FactsB) (fn : List He.DefD) (g : Addr → Option Obj) : Bool × List He.FnW := (F.ok (He.frG g as) && fn.all (fun d => d.ok (He.frG g as)), fn.map fun d => He.fnW (He.frG g as) d.at_)
structure SaysB (F : FactsB) (fn : List He.DefD) (K : PySem.W.Frag) : Prop where
  ok : F.ok K = true
  fn : ∀ d ∈ fn, d.ok K = true ∧ He.fnW K d.at_ = d.val
theorem map_eq_of {α β : Type} {f g : α → β} : ∀ {l : List α}, l.map f = l.map g → ∀ x ∈ l, f x = g x
  | [], _, x, h => nomatch h
  | y :: r, e, x, h => by
    rw [List.map_cons, List.map_cons] at e
    injection e with e1 e2
    rcases List.mem_cons.mp h with rfl | h
    · exact e1
    · exact map_eq_of e2 x h
theorem saysB_of {as : List Addr} {F : FactsB} {fn : List He.DefD} {g : Addr → Option Obj} (e : obsB as F fn g = (true, fn.map He.DefD.val)) : SaysB F fn (He.frG g as) := by
  have e1 : (F.ok (He.frG g as) && fn.all (fun d => d.ok (He.frG g as))) = true := congrArg (fun z : Bool × List He.FnW => z.1) e
  have e2 : fn.map (fun d => He.fnW (He.frG g as) d.at_) = fn.map He.DefD.val := congrArg (fun z : Bool × List He.FnW => z.2) e
  obtain ⟨h1, h2⟩ := He.ba e1
  exact ⟨h1, fun d hd => ⟨List.all_eq_true.mp h2 d hd, map_eq_of e2 d hd⟩⟩
def hookB (as : List Addr) (F : FactsB) (fn : List He.DefD) : PySem.W.Hook where
  α := Bool × List He.FnW
  obs := fun s => obsB as F fn s.heap.get?
  val := fun _ => (true, fn.map He.DefD.val)
  says := fun _ h => ∃ K : PySem.W.Frag, K.In h ∧ SaysB F fn K
  of := fun _ _ e => ⟨_, He.frG_in, saysB_of e⟩
  keeps := fun _ _ _ ⟨K, hK, c⟩ k => ⟨K, PySem.W.Frag.In.keeps hK k, c⟩
theorem obsB_eq {as : List Addr} {F : FactsB} {fn : List He.DefD} {g : Addr → Option Obj} {s : Shared} (h : ∀ a, g a = s.heap.get? a) : obsB as F fn g = (hookB as F fn).obs s := by
  have e : g = s.heap.get? := funext h
  rw [e] <;> rfl
theorem fun_ofD {K : PySem.W.Frag} {x q : Str} {st : Stmt} {kws : List (Str × V)} {f : Addr} {fd : FuncData} (F : FunD K x q (defArgs st) (defBody st) (defScope st) [] kws f fd) : Fun K x q st f fd := by
  obtain ⟨oc, od, dV, kV, doc, pm, an, cdv, ct, osl, rfl, lk, hcd, hD, hK⟩ := F.ex
  rcases hD with ⟨_, rfl⟩ | ⟨e, _⟩
  · exact ⟨⟨oc, od, kV, doc, pm, an, cdv, ct, osl, rfl, lk, hcd⟩, F.kp⟩
  · exact absurd rfl e
def fdOf (K : PySem.W.Frag) (f : Addr) : FuncData := match K.lookup f with
  | some ⟨_, _, .func fd, _⟩ => fd
  | _ => default
theorem fun_fd {K : PySem.W.Frag} {x q : Str} {st : Stmt} {f : Addr} {fd : FuncData} (F : Fun K x q st f fd) : fd = fdOf K f := by
  obtain ⟨oc, od, kV, doc, pm, an, cdv, ct, osl, rfl, lk, hcd⟩ := F.ex
  unfold fdOf
  rw [lk]
/-- what a law over a large top leans on -/
structure TopB (F : FactsB) (fn : List He.DefD) (K : PySem.W.Frag) (mg : Str → Option Value) : Prop where
  base : ∃ h : Heap, K.In h ∧ h.Ns mainGlobals mg
  says : SaysB F fn K
section
variable {F : FactsB} {fn : List He.DefD} {K : PySem.W.Frag} {mg : Str → Option Value}
theorem TopB.one (T : TopB F fn K mg) {f : He.Fa} (i : Nat) (h : F.fa[i]? = some f) : f.ok K = true :=
  List.all_eq_true.mp (He.ba T.says.ok).1 f (List.mem_of_getElem? h)
theorem TopB.glo (T : TopB F fn K mg) {x : Str} (i : Nat) (h : F.fa[i]? = some (.glo x)) : mg x = some (.ref (He.ga K x)) := by
  obtain ⟨h0, X, G⟩ := T.base
  exact He.glo_ok X G (T.one i h)
theorem TopB.free (T : TopB F fn K mg) {x : Str} (i : Nat) (h : F.fa[i]? = some (.free x)) : mg x = none := by
  obtain ⟨h0, X, G⟩ := T.base
  exact He.free_ok X G (T.one i h)
theorem TopB.int (T : TopB F fn K mg) {x : Str} {z : Int} (i : Nat) (h : F.fa[i]? = some (.int x z)) : mg x = some ((mg x).getD .none) ∧ RelV (.int z) ((mg x).getD .none) := by
  obtain ⟨h0, X, G⟩ := T.base
  obtain ⟨t, e⟩ := He.int_ok X G (T.one i h)
  rw [e]
  exact ⟨rfl, t, rfl⟩
theorem TopB.str (T : TopB F fn K mg) {x z : Str} (i : Nat) (h : F.fa[i]? = some (.str x z)) : mg x = some ((mg x).getD .none) ∧ RelV (.str z) ((mg x).getD .none) := by
  obtain ⟨h0, X, G⟩ := T.base
  obtain ⟨t, e⟩ := He.str_ok X G (T.one i h)
  rw [e]
  exact ⟨rfl, t, rfl⟩
theorem TopB.exc (T : TopB F fn K mg) {x : Str} (i : Nat) (h : F.exc[i]? = some x) : ExcT K mg x := by
  obtain ⟨h0, X, G⟩ := T.base
  exact excB_ok X G (List.all_eq_true.mp (He.ba (He.ba T.says.ok).2).1 x (List.mem_of_getElem? h))
theorem TopB.kinds (T : TopB F fn K mg) : kindB K F.kind = true := (He.ba (He.ba (He.ba T.says.ok).2).2).1
theorem TopB.ali (T : TopB F fn K mg) {p : Str × Str} (i : Nat) (h : F.al[i]? = some p) : mg p.1 = some (.ref (He.ga K p.2)) := by
  obtain ⟨h0, X, G⟩ := T.base
  have c := (He.ba (He.ba (He.ba (He.ba T.says.ok).2).2).2).1
  exact PySem.W.mg_of X G (He.eqO_ok (List.all_eq_true.mp c p (List.mem_of_getElem? h)))
theorem TopB.oget (T : TopB F fn K mg) : PySem.W.specialIn K (.builtin "object.__class__") "__get__" = some (some (.builtin "getset_descriptor.__get__")) := He.eqO_ok (He.ba (He.ba (He.ba (He.ba (He.ba T.says.ok).2).2).2).2).1
theorem TopB.otak (T : TopB F fn K mg) : PySem.W.takesIn K (.builtin "object.__class__") = some true := of_decide_eq_true (He.ba (He.ba (He.ba (He.ba (He.ba T.says.ok).2).2).2).2).2
theorem TopB.fun_ (T : TopB F fn K mg) {a : Str × Option Str} {x q : Str} {st : Stmt} (i : Nat) (h : fn[i]? = some ⟨a, x, q, defArgs st, defBody st, defScope st, [], []⟩) : Fun K x q st (He.fAd K a) (fdOf K (He.fAd K a)) := by
  obtain ⟨h1, h2⟩ := T.says.fn _ (List.mem_of_getElem? h)
  obtain ⟨fd, D⟩ := He.DefD.funD h2 h1
  have D2 := fun_ofD (K := K) (x := x) (q := q) (st := st) D
  rw [← fun_fd D2]
  exact D2
end

/-! ### list.count of flat values -/
theorem tbmK {X : Cx} (K : PySem.W.Frag) {e : Expr} {to : TE} {t : TA} {T : String} {r : V → List V → Hp → VK → Prop} (h : X.K = K) (p : PE X e (tBM X.K T r to t)) : PE X e (tBM K T r to t) := h ▸ p
theorem count_eqU {y : V} : ∀ {ys : List V} {us : List Value}, Vals ys us → ys.all flatV = true → us.countP (eqU y) = ys.countP (fun z => eqV z y)
  | [], _, r, _ => by
    cases r
    rfl
  | z :: ys, _, r, f => by
    cases r with
    | cons r1 r2 =>
      rw [List.all_cons, Bool.and_eq_true] at f
      rw [List.countP_cons, List.countP_cons, count_eqU r2 f.2, eqU_of r1 f.1]
def rCntF (K : PySem.W.Frag) : V → List V → Hp → VK → Prop := fun x xs H Q => ∃ (p : Addr) (ys : List V) (y : V), x = .ref p ∧ xs = [y] ∧ SqL K H p ys ∧ flatV y = true ∧ ys.all flatV = true ∧ Q (.int (ys.countP (fun z => eqV z y) : Nat)) H
theorem mt_fcount {X : Cx} : MtR X "list.count" (rCntF X.K) := by
  intro pins s σ H x xs v us Q I rx rxs h
  obtain ⟨p, ys, y, rfl, rfl, hs, fy, fys, q⟩ := h
  cases rx
  obtain ⟨uy, rfl, ry⟩ := rxs.one
  obtain ⟨its, rv, ⟨⟨cls, dd, data, sl⟩, n, ho, hc, hdn, hd⟩, hlen⟩ := I.list hs
  simp only at hc hd
  subst hc hd
  refine call_meets PySem.F.slot_list_count ⟨_, ho, rfl⟩ PySem.F.entry_list_count (PySem.F.args_list_count_2 _ _)
    (SeqAt.list_countAt p its.toArray n dd sl uy (eqU y)) ⟨ho, fun u' hu' => mem_eqAt ry fy rv fys u' (by simpa using hu'), ?_⟩
  have ec : its.toArray.toList.countP (eqU y) = ys.countP (fun z => eqV z y) := count_eqU rv fys
  refine ⟨.int (ys.countP (fun z => eqV z y) : Nat), H, I.tok _, ⟨s.toks, ?_⟩, q⟩
  show Value.int ((its.toArray.toList.countP (eqU y) : Nat) : Int) s.toks = _
  rw [ec]
theorem mt_indexK {X : Cx} (K : PySem.W.Frag) (h : X.K = K) : MtR X "list.index" (rIndex K) := h ▸ mt_index
theorem mt_fcountK {X : Cx} (K : PySem.W.Frag) (h : X.K = K) : MtR X "list.count" (rCntF K) := h ▸ mt_fcount

/-! ### a def that is handed the error which the suite has caught -/
abbrev SpE := Addr → Value → Option Addr → Sp
structure FnE (P : Program) (w : World) (K : PySem.W.Frag) (mg : Str → Option Value) (base : Heap) (k : Nat) (f : Addr) (fd : FuncData) (ps : List Str) (sp : SpE) : Prop where
  len : ∀ a c d vs H Q E, sp a c d vs H Q E → vs.length = ps.length
  run : ∀ (A : Around) (outer : List Env) (s : Shared) (H : Hp) (args : Args) (us : List Value) (vs : List V) (Q : VK) (E : XK) (a : Addr) (oe : Obj) (c : Value) (d : Option Addr), L2H.RoomH k A → L2H.PinOk outer H s (a, oe) → Zc c d oe → (∃ vs, oe.data = .fields vs) → Env0 P w K mg base A outer s H → BindsTo s fd args (ps.zip us) → Vals vs us → sp a c d vs H Q E →
    codeAny (model P w) A (.call (.ref f) args) (CR CX0 outer P w H s Q E) s
theorem fn_ofE {P : Program} {w : World} {K : PySem.W.Frag} {mg : Str → Option Value} {base : Heap} {k : Nat} {f : Addr} {name qual : Str} {params : Arguments} {body : List Stmt} {scope : Scope} {dV kV doc pm cdv ct oc : Value} {an od : Option Addr}
    {osl : Array (Option Value)} {N ps : List Str} {sp : SpE} (lk : K.lookup f = some ⟨oc, od, .func (PySem.W.fnOf name qual params body scope dV kV doc pm an cdv ct), osl⟩) (hcd : PySem.W.codeIn K cdv qual = true) (S : FnScope N ps scope)
    (len : ∀ a c d vs H Q E, sp a c d vs H Q E → vs.length = ps.length)
    (hbody : ∀ (A : Around) (outer : List Env) (s : Shared) (H : Hp) (vs : List V) (Q : VK) (E : XK) (a : Addr) (oe : Obj) (c : Value) (d : Option Addr), Zc c d oe → (∃ vs, oe.data = .fields vs) → L2H.RoomH k (A.deeper (envOfC qual scope s.heap.objs.size f cdv)) → sp a c d vs H Q E →
      ∃ t, PSs (L2H.cxH CX0 P w K mg base N qual scope f cdv A outer s H E (a, oe)) body t ∧ t { nx := fun _ H' => Q .non H', rt := Q } (L2.start N vs) H) :
    FnE P w K mg base (k + 1) f (PySem.W.fnOf name qual params body scope dV kV doc pm an cdv ct) ps sp := by
  refine ⟨len, fun A outer s H args us vs Q E a oe c d hr hpin hz hf e0 hb r hsp => ?_⟩
  have hl := len _ _ _ _ _ _ _ hsp
  have KX : K.In s.heap := e0.mod.kin.keeps fun b o e => (e0.bs b o e).1
  have lim : s.heap.NoLimit := e0.mod.nolimit.keeps fun b o e => (e0.bs b o e).1
  have hkind : ∀ y ∈ ps.zip us, scope.names.lookup y.1 = some .local ∨ (scope.names.lookup y.1 = some .cell ∧ ((cellsFrom (s.heap.objs.size + 1) scope.names []).lookup y.1).isSome = true) := fun ⟨n, v⟩ hy => by
    rcases S.par n (List.of_mem_zip hy).1 with q | q
    · exact .inl q
    · exact .inr ⟨q, PySem.W.cellsFrom_some _ _ _ (.inl q)⟩
  refine codeAny_call_function hr.depth (KX _ _ lk) rfl S.co S.gen rfl (PySem.W.codeRec_of KX hcd) (hb _ _ _ _ ?_)
  refine wpAny_newFunctionEnv_cells S.kind hkind fun env he s1 x => ?_
  subst he
  refine ⟨lim.keeps x.toInCall.keep, codeAny_func ?_⟩
  obtain ⟨t, ht, hq⟩ := hbody A outer s H vs Q E a oe c d hz hf (hr.deeper _) hsp
  have I : Inv (L2H.cxH CX0 P w K mg base N qual scope f cdv A outer s H E (a, oe)) [] (L2.start N vs) H s1 := L2H.inv_startH S hpin e0 hl r x
  refine wpAny_mono (ht.run [] s1 (L2.start N vs) H _ I hq) (fun fl s' hs => ?_) fun e s' hs => hs
  have fin : ∀ {σ' : L2.St} {H' : Hp} {v : V} {u : Value}, Inv (L2H.cxH CX0 P w K mg base N qual scope f cdv A outer s H E (a, oe)) [] σ' H' s' → RelV v u → Q v H' → CE outer P w H s Q u s' :=
    fun {σ' H' v u} J rv q => ⟨v, H', J.os, J.bare, J.base, J.hok, rv, q⟩
  cases fl with
  | ret u =>
    obtain ⟨v, σ', H', J, rv, q⟩ := hs
    exact fin J rv q
  | next =>
    obtain ⟨σ', H', J, q⟩ := hs
    exact fin (v := V.non) (u := Value.none) J rfl q
  | brk =>
    obtain ⟨_, _, _, q⟩ := hs
    exact False.elim q
  | cont =>
    obtain ⟨_, _, _, q⟩ := hs
    exact False.elim q
theorem Fun.okE {P : Program} {w : World} {K : PySem.W.Frag} {mg : Str → Option Value} {base : Heap} {x qual : Str} {st : Stmt} {f : Addr} {fd : FuncData} {N ps : List Str} {k : Nat} {sp : SpE} (F : Fun K x qual st f fd) (S : FnScope N ps (defScope st))
    (len : ∀ a c d vs H Q E, sp a c d vs H Q E → vs.length = ps.length)
    (hbody : ∀ (cdv : Value) (A : Around) (outer : List Env) (s : Shared) (H : Hp) (vs : List V) (Q : VK) (E : XK) (a : Addr) (oe : Obj) (c : Value) (d : Option Addr), Zc c d oe → (∃ vs, oe.data = .fields vs) → L2H.RoomH k (A.deeper (envOfC qual (defScope st) s.heap.objs.size f cdv)) → sp a c d vs H Q E →
      ∃ t, PSs (L2H.cxH CX0 P w K mg base N qual (defScope st) f cdv A outer s H E (a, oe)) (defBody st) t ∧ t { nx := fun _ H' => Q .non H', rt := Q } (L2.start N vs) H) :
    FnE P w K mg base (k + 1) f fd ps sp := by
  obtain ⟨oc, od, kV, doc, pm, an, cdv, ct, osl, rfl, lk, hcd⟩ := F.ex
  exact fn_ofE lk hcd S len (hbody cdv)
/-- the call f(e) in the suite -/
def tCallE (sp : SpE) (a : Addr) (c : Value) (d : Option Addr) (t : TA) : TE := fun σ H Q => t σ H fun vs H1 => sp a c d vs H1 Q fun _ _ _ => False
theorem pe_callE {X : Cx} {k : Nat} {f : Addr} {fd : FuncData} {ps : List Str} {sp : SpE} {x : Str} {q pos : Pos} {e : Expr} {es : List Expr} {t : TA} {a : Addr} {oe : Obj} {pn : List (Addr × Obj)} {c : Value} {d : Option Addr}
    (F : FnE X.prog X.w X.K X.mg X.base k f fd ps sp) (hr : Room k X.A) (hz : Zc c d oe) (hf : ∃ vs, oe.data = .fields vs) (hg : Gl (X.suite a ((a, oe) :: pn)) x) (hm : X.mg x = some (.ref f)) (hk : PySem.W.keepIn X.K (.ref f) = true) (hb : Binds X.K fd ps [])
    (ha : PA (X.suite a ((a, oe) :: pn)) (e :: es) t) (hdb : (x == ("__debug__" : Str)) = false := by decide) (he : starEach (e :: es) X.env = (false, eval e X.env) :: starEach es X.env := by rfl) (hpl : (backTo pos (starEach es X.env)).any (·.1) = false := by rfl) :
    PE (X.suite a ((a, oe) :: pn)) (.Call (.Name x q) (e :: es) [] pos) (tCallE sp a c d t) := by
  refine ⟨fun pins s σ H Q I h => ?_⟩
  refine wpAny_Call_Name_kw (ld_glob I hg hm ?_ hdb)
  refine PySem.W.callWith_K (h₀ := X.base) I.ok.mod.kin hk (thn (ha.run pos pins s σ H _ I h) fun us s1 ⟨vs, H1, I1, r, q⟩ => ⟨I1.kIn, ?_⟩) he hpl
  have hl : us.length = ps.length := by rw [← r.length]; exact F.len _ _ _ _ _ _ _ q
  have b := hb s1 us I1.kIn (by rw [List.append_nil]; exact hl)
  rw [List.append_nil] at b
  have P1 := I1.pin (a, oe) (List.mem_append_left _ List.mem_cons_self)
  have hpin : L2H.PinOk X.stack H1 s1 (a, oe) := ⟨P1.1, P1.2.1, fun hm => (List.mem_cons.mp (I1.stkSub a hm)).elim P1.2.2.1 P1.2.2.2.1, P1.2.2.2.2⟩
  have hr2 : L2H.RoomH k (X.suite a ((a, oe) :: pn)).A := ⟨hr.dp, hr.un⟩
  refine wpAny_call (codeAny_mono (F.run _ X.stack s1 H1 ⟨us, []⟩ us vs Q _ a oe c d hr2 hpin hz hf I1.env0 b r q) fun r s' hq => ?_)
  cases r with
  | error e => exact False.elim hq
  | ok fl =>
    cases fl with
    | ret u => exact I1.after hq
    | next => exact False.elim hq
    | brk => exact False.elim hq
    | cont => exact False.elim hq
/-- isinstance(e, C) in the def that was handed e -/
theorem call_isP {X : Cx} (K : PySem.W.Frag) {a : Addr} {oe : Obj} {cls : Value} {d : Option Addr} (h : X.K = K) (hp : (a, oe) ∈ X.pn) (hz : Zc cls d oe) (hf : ∃ vs, oe.data = .fields vs) : CallR X (.builtin "isinstance") (rIsX K cls d a) := by
  subst h
  intro pins s σ H xs us Q I r h'
  obtain ⟨D, c, cv, b, rfl, hd, C, rfl, hc, hk, q⟩ := h'
  cases r with | cons rx rr =>
  cases rr with | cons rt rr =>
  cases rr
  cases rx
  have ec := hc.eq rt
  subst ec
  obtain ⟨hget, _⟩ := I.pin (a, oe) (List.mem_append_left _ hp)
  obtain ⟨vs, hv⟩ := hf
  have hcl : (PySem.W.clsIn X.K D).isSome = true := by
    obtain ⟨cd, hc, _⟩ := PySem.W.any_some C.hd
    rw [hc]
    first | rfl | done
  have nc : PySem.W.notCls oe = true := by
    unfold PySem.W.notCls
    rw [hv]
  rcases hd with rfl | ⟨dd, fs, rfl, hdd⟩
  · have J : PySem.W.InstAt s.heap a oe D none := ⟨hget, hz.1, nc, by rw [hz.2]; trivial⟩
    exact PySem.W.kia_one (PySem.W.kitx_exc hcl C.hg C.hk C.hs C.ha C.hn C.ht C.hm) I.kIn J hk (fun z => nomatch z) fun tk => ⟨.bl b, H, I.kept (t' := tk) fun _ _ z => z, rfl, q⟩
  · obtain ⟨mA, hns, hr⟩ := I.hok dd _ hdd
    obtain ⟨od, ho, hl⟩ := lookIn_ns hns
    have J : PySem.W.InstAt s.heap a oe D (some od) := ⟨hget, hz.1, nc, by rw [hz.2]; exact ho⟩
    exact PySem.W.kia_one (PySem.W.kitx_exc hcl C.hg C.hk C.hs C.ha C.hn C.ht C.hm) I.kIn J hk (fun z => nomatch z) fun tk => ⟨.bl b, H, I.kept (t' := tk) fun _ _ z => z, rfl, q⟩

/-! ### min, max of a tuple of ints -/
def rMinT (K : PySem.W.Frag) : List V → Hp → VK → Prop := fun vs H Q => ∃ (a : Addr) (n : Int) (ns : List Int), vs = [V.ref a] ∧ SqT K H a ((n :: ns).map V.int) ∧ Q (.int (ns.foldl min n)) H
def rMaxT (K : PySem.W.Frag) : List V → Hp → VK → Prop := fun vs H Q => ∃ (a : Addr) (n : Int) (ns : List Int), vs = [V.ref a] ∧ SqT K H a ((n :: ns).map V.int) ∧ Q (.int (ns.foldl max n)) H
section
variable {X : Cx}
theorem alikeT_ints (ns : List Int) : PySem.W.AlikeAll (ns.map PyData.int) := by
  refine ⟨fun x hx y hy => ?_, fun x hx => ?_⟩
  · obtain ⟨a, _, rfl⟩ := List.mem_map.mp hx
    obtain ⟨b, _, rfl⟩ := List.mem_map.mp hy
    rfl
  · obtain ⟨a, _, rfl⟩ := List.mem_map.mp hx
    intro z
    cases z
theorem dep_intsT : ∀ ns : List Int, PyData.depthAll (ns.map PyData.int) ≤ 1
  | [] => by simp [PyData.depthAll]
  | n :: r => by
    have h := dep_intsT r
    simp only [List.map_cons, PyData.depthAll, PyData.depth]
    omega
theorem cr_minT (hc : X.calm = true) (hu : X.A.units + 64 < cLine) : CallR X (.builtin "min") (rMinT X.K) := by
  intro pins s σ H xs us Q I r h
  obtain ⟨a, n, ns, rfl, hs, q⟩ := h
  obtain ⟨its, rv, hl, _⟩ := I.tuple hs
  rw [Vals.ref1 r]
  refine PySem.W.min_tuple_data (I.ok.hd hc) hl (IntsAre.reads _ rv.ints) (alikeT_ints (n :: ns)) (by have := dep_intsT (n :: ns); rw [List.map_cons] at this; omega) fun i v h' tk bs hv hr hk => ?_
  rw [PySem.W.minD_ints] at hr
  cases hr
  exact ⟨.int _, H, I.kept hk, ⟨_, rfl⟩, q⟩
theorem cr_maxT (hc : X.calm = true) (hu : X.A.units + 64 < cLine) : CallR X (.builtin "max") (rMaxT X.K) := by
  intro pins s σ H xs us Q I r h
  obtain ⟨a, n, ns, rfl, hs, q⟩ := h
  obtain ⟨its, rv, hl, _⟩ := I.tuple hs
  rw [Vals.ref1 r]
  refine PySem.W.max_tuple_data (I.ok.hd hc) hl (IntsAre.reads _ rv.ints) (alikeT_ints (n :: ns)) (by have := dep_intsT (n :: ns); rw [List.map_cons] at this; omega) fun i v h' tk bs hv hr hk => ?_
  rw [PySem.W.maxD_ints] at hr
  cases hr
  exact ⟨.int _, H, I.kept hk, ⟨_, rfl⟩, q⟩
end
theorem sl_tupK {X : Cx} (K : PySem.W.Frag) (h : X.K = K) : SlR X (rSlT K) := h ▸ sl_tup
theorem sl_listK {X : Cx} (K : PySem.W.Frag) (h : X.K = K) : SlR X (rSlL K) := h ▸ sl_list

/-! ### dicts whose keys are texts and tuples -/
inductive MK where
  | t (x : Str)
  | u (ks : List Key)
  deriving DecidableEq
def mkIs (P : Program) (w : World) (h : Heap) : MK → Value → Prop
  | .t x, v => ∃ t, v = Value.str x t
  | .u ks, v => ∃ a, v = Value.ref a ∧ (tupleKind (mixKind P w)).is h ks a
def mkHash (P : Program) (w : World) : MK → Int
  | .t x => hashStr w x
  | .u ks => (tupleKind (mixKind P w)).hash ks
def mkDraws : MK → Nat
  | .t _ => 1
  | .u ks => ks.length + 1
def entryM (P : Program) (w : World) (x : MK × Value × Value) : DictEntry := ⟨mkHash P w x.1, x.2.1, x.2.2⟩
def DictM (P : Program) (w : World) (h : Heap) (d : Addr) (xs : List (MK × Value × Value)) : Prop :=
  ∃ o es ep, h.get? d = some o ∧ o.ExactDict ∧ o.data = .dict es ep ∧ es.toList = xs.map (entryM P w) ∧ (∀ x ∈ xs, mkIs P w h x.1 x.2.1) ∧ (xs.map (·.1)).Nodup
section
variable {prog : Program} {w : World} {A : Around} {E : Value → Shared → Prop} {s : Shared}
theorem mkIs.inj {h : Heap} {v : Value} : ∀ {x y : MK}, mkIs prog w h x v → mkIs prog w h y v → x = y
  | .t x, .t y, ⟨_, e⟩, ⟨_, e'⟩ => by rw [e] at e'; cases e'; rfl
  | .t x, .u y, ⟨_, e⟩, ⟨_, e', _⟩ => by rw [e] at e'; cases e'
  | .u x, .t y, ⟨_, e, _⟩, ⟨_, e'⟩ => by rw [e] at e'; cases e'
  | .u x, .u y, ⟨_, e, h1⟩, ⟨_, e', h2⟩ => by rw [e] at e'; cases e'; rw [(tupleKind (mixKind prog w)).inj h1 h2]
theorem mkIs.keeps {h h' : Heap} {d : Addr} {o : Obj} {es ep} {v : Value} (ho : h.get? d = some o) (hd : o.data = .dict es ep) (hs : Heap.SameBut d h h') : ∀ {k : MK}, mkIs prog w h k v → mkIs prog w h' k v
  | .t _, x => x
  | .u _, ⟨a, e, x⟩ => ⟨a, e, (tupleKind (mixKind prog w)).keeps x ho hd hs⟩
theorem mkIs.pyHash {v : Value} {Q : Int → Shared → Prop} (hu : A.units < cLine) : ∀ {k : MK}, mkIs prog w s.heap k v → Q (mkHash prog w k) { s with toks := s.toks + mkDraws k } → wpAny (model prog w) A (PySem.pyHash v) Q E s
  | .t x, ⟨t, e⟩, h => by rw [e]; exact wpAny_pyHash_str h
  | .u ks, ⟨a, e, x⟩, h => by rw [e]; exact (tupleKind (mixKind prog w)).pyHash hu x h
theorem mkIs.tup {h : Heap} {ks : List Key} {a : Addr} (x : (tupleKind (mixKind prog w)).is h ks a) : ∃ items, h.IsTuple a items := by
  obtain ⟨o, items, n, h1, h2, h3, _⟩ := x
  exact ⟨items, o, h1, h2, n, h3⟩
theorem mkIs.eqBool {u v : Value} {Q : Bool → Shared → Prop} (hu : A.units < cLine) : ∀ {x y : MK}, mkIs prog w s.heap x u → mkIs prog w s.heap y v → Q (decide (x = y)) s → wpAny (model prog w) A (PySem.eqBool u v) Q E s
  | .t x, .t y, ⟨t, e⟩, ⟨t', e'⟩, h => by
    rw [e, e']
    refine wpAny_eqBool_str ?_
    have q : decide (MK.t x = MK.t y) = decide (x = y) := by
      by_cases z : x = y
      · subst z; simp
      · rw [decide_eq_false z, decide_eq_false fun c => z (by cases c; rfl)]
    rw [q] at h
    exact h
  | .t x, .u y, ⟨t, e⟩, ⟨a, e', z⟩, h => by
    rw [e, e']
    obtain ⟨items, hi⟩ := mkIs.tup z
    rw [decide_eq_false (fun c => nomatch c)] at h
    exact SeqAt.EqAt.str_tuple x t hi hu _ _ _ _ h
  | .u x, .t y, ⟨a, e, z⟩, ⟨t', e'⟩, h => by
    rw [e, e']
    obtain ⟨items, hi⟩ := mkIs.tup z
    rw [decide_eq_false (fun c => nomatch c)] at h
    exact SeqAt.EqAt.tuple_str y t' hi hu _ _ _ _ h
  | .u x, .u y, ⟨a, e, z⟩, ⟨b, e', z'⟩, h => by
    rw [e, e']
    have q : decide (MK.u x = MK.u y) = decide (x = y) := by
      by_cases z : x = y
      · subst z; simp
      · rw [decide_eq_false z, decide_eq_false fun c => z (by cases c; rfl)]
    rw [q] at h
    exact (tupleKind (mixKind prog w)).eqBool hu z z' h
theorem mkIs.quiet {v : Value} {Q : Bool → Shared → Prop} : ∀ {k : MK}, mkIs prog w s.heap k v → Q true s → wpAny (model prog w) A (eqIsQuiet 8 v) Q E s
  | .t x, ⟨t, e⟩, h => by
    rw [e, eqIsQuiet_byValue 8 (show carriedByValue (Value.str x t) = true from rfl)]
    exact wpAny_pure h
  | .u ks, ⟨a, e, x⟩, h => by rw [e]; exact (tupleKind (mixKind prog w)).quiet x h
theorem entryM_at {es : Array DictEntry} {xs : List (MK × Value × Value)} (he : es.toList = xs.map (entryM prog w)) (j : Nat) : es[j]? = (xs[j]?).map (entryM prog w) := by
  rw [← Array.getElem?_toList, he, List.getElem?_map]
theorem sizeM {es : Array DictEntry} {xs : List (MK × Value × Value)} (he : es.toList = xs.map (entryM prog w)) : es.size = xs.length := by
  rw [← Array.length_toList, he, List.length_map]
theorem idxM {xs : List (MK × Value × Value)} (hn : (xs.map (·.1)).Nodup) {i j : Nat} {k : MK} {p q : Value × Value} (hi : xs[i]? = some (k, p)) (hj : xs[j]? = some (k, q)) : i = j := by
  have hi' : (xs.map (·.1))[i]? = some k := by rw [List.getElem?_map, hi]; rfl
  have hj' : (xs.map (·.1))[j]? = some k := by rw [List.getElem?_map, hj]; rfl
  exact (List.getElem?_inj (List.getElem?_eq_some_iff.mp hi').1 hn).mp (hi'.trans hj'.symm)
theorem tellM {key : Value} {k : MK} {stored : List Value} {Q : Bool → Shared → Prop} (hkey : mkIs prog w s.heap k key) (hst : ∀ v ∈ stored, ∃ k', mkIs prog w s.heap k' v) (h : Q false s) :
    wpAny (model prog w) A (tableMayTell key stored) Q E s := by
  unfold tableMayTell
  split
  · exact wpAny_pure h
  · refine wpAny_bind (mkIs.quiet hkey ?_)
    simp only [Bool.not_true, Bool.false_eq_true, if_false]
    refine wpAny_bind ?_
    refine wpAny_forIn_list _ (fun rest r s' => s' = s ∧ r = (none, ()) ∧ ∀ v ∈ rest, ∃ k', mkIs prog w s.heap k' v) _ ?_ ?_ _ _ ⟨rfl, rfl, hst⟩
    · rintro x rest r s' ⟨rfl, rfl, hr⟩
      obtain ⟨k', hb⟩ := hr x List.mem_cons_self
      refine wpAny_bind (mkIs.quiet hb ?_)
      simp only [Bool.not_true, Bool.false_eq_true, if_false]
      exact wpAny_pure ⟨rfl, rfl, fun v hv => hr v (List.mem_cons_of_mem _ hv)⟩
    · rintro r s' ⟨rfl, rfl, _⟩
      exact wpAny_pure h
theorem findM {d : Addr} {key : Value} {o : Obj} {es ep} {xs : List (MK × Value × Value)} {k : MK} {Q : Option Nat → Shared → Prop} (hu : A.units < cLine) (hkey : mkIs prog w s.heap k key)
    (ho : s.heap.get? d = some o) (hd : o.data = .dict es ep) (he : es.toList = xs.map (entryM prog w)) (his : ∀ x ∈ xs, mkIs prog w s.heap x.1 x.2.1) (hn : (xs.map (·.1)).Nodup)
    (hnone : (∀ (j : Nat) (p : Value × Value), xs[j]? ≠ some (k, p)) → Q none s) (hsome : ∀ (j : Nat) (p : Value × Value), xs[j]? = some (k, p) → Q (some j) s) :
    wpAny (model prog w) A (dictFind d key (mkHash prog w k)) Q E s := by
  have hsz : es.size = xs.length := sizeM he
  have haskey : ∀ (j : Nat) (p : Value × Value), xs[j]? = some (k, p) → ((es[j]?.map (·.hash)) == some (mkHash prog w k)) = true := by
    intro j p hj
    rw [entryM_at he j, hj]
    simp [entryM]
  have hmem : ∀ e ∈ es, ∃ x ∈ xs, e = entryM prog w x := by
    intro e hin
    have : e ∈ xs.map (entryM prog w) := he ▸ Array.mem_toList_iff.mpr hin
    obtain ⟨x, hx, rfl⟩ := List.mem_map.mp this
    exact ⟨x, hx, rfl⟩
  have hany : ¬ (es.any fun e => e.key == key && e.hash != mkHash prog w k) = true := by
    rw [← Array.any_toList, List.any_eq_true]
    rintro ⟨e, hin, hc⟩
    obtain ⟨x, hx, rfl⟩ := hmem e (Array.mem_toList_iff.mp hin)
    simp only [entryM, Bool.and_eq_true, beq_iff_eq, bne_iff_ne, ne_eq] at hc
    obtain ⟨hxa, hne⟩ := hc
    have := his x hx
    rw [hxa] at this
    exact hne (by rw [mkIs.inj this hkey])
  have hst : ∀ v ∈ (placesWithHash es.size (fun i => es[i]?.map (·.hash)) (mkHash prog w k)).filterMap (fun i => es[i]?.map (·.key)), ∃ k', mkIs prog w s.heap k' v := by
    intro v hv
    obtain ⟨i, _, hi⟩ := List.mem_filterMap.mp hv
    cases hei : es[i]? with
    | none => rw [hei] at hi; cases hi
    | some e =>
      rw [hei] at hi
      obtain rfl : e.key = v := by simpa using hi
      obtain ⟨x, hx, rfl⟩ := hmem e (Array.mem_of_getElem? hei)
      exact ⟨x.1, his x hx⟩
  -- the walk where all is carried by value
  have plain : wpAny (model prog w) A (dictWalkPlain d key (mkHash prog w k) es (placesWithHash es.size (fun i => es[i]?.map (·.hash)) (mkHash prog w k))) Q E s := by
    refine wpAny_bind ?_
    refine wpAny_forIn_list _
      (fun rest b s' => s' = s ∧ b = (none, ()) ∧ ∃ i, rest = (List.range' i (es.size - i)).filter (fun i => (es[i]?.map (·.hash)) == some (mkHash prog w k)) ∧ i ≤ es.size ∧ ∀ j p, j < i → xs[j]? ≠ some (k, p)) _ ?_ ?_ _ _
      ⟨rfl, rfl, 0, by rw [placesWithHash, List.range_eq_range', Nat.sub_zero], Nat.zero_le _, fun _ _ h => absurd h (Nat.not_lt_zero _)⟩
    · rintro x rest b s' ⟨rfl, rfl, i, hr, hi, hno⟩
      obtain ⟨hix, hxn, hpx, hskip, hrest⟩ := filter_range'_cons _ _ _ _ _ hr.symm
      have hlt : x < es.size := by omega
      obtain ⟨⟨k', b, v'⟩, hkv⟩ : ∃ y, xs[x]? = some y := ⟨xs[x]'(by rw [← hsz]; exact hlt), List.getElem?_eq_getElem _⟩
      have hib : mkIs prog w s'.heap k' b := his _ (List.mem_of_getElem? hkv)
      have hex : es[x]? = some ⟨mkHash prog w k', b, v'⟩ := by rw [entryM_at he x, hkv]; rfl
      have hnext : ¬ k' = k → ∃ i, rest = (List.range' i (es.size - i)).filter (fun i => (es[i]?.map (·.hash)) == some (mkHash prog w k)) ∧ i ≤ es.size ∧ ∀ j p, j < i → xs[j]? ≠ some (k, p) := fun hne =>
        ⟨x + 1, by rw [hrest]; congr 2; omega, hlt, fun j p hji hj => by
          rcases Nat.lt_or_ge j i with h | h
          · exact hno j p h hj
          · rcases Nat.lt_or_ge j x with h' | h'
            · have := hskip j h h'
              rw [haskey j p hj] at this
              exact absurd this (by decide)
            · have e : j = x := by omega
              subst e
              rw [hkv] at hj
              injection hj with hj
              injection hj with hj
              exact hne hj⟩
      simp only [hex]
      by_cases hh : (mkHash prog w k' == mkHash prog w k) = true
      · rw [if_pos hh]
        refine wpAny_bind (wpAny_dictEpoch ho hd (wpAny_bind (mkIs.eqBool (x := k') (y := k) hu hib hkey (wpAny_bind (wpAny_dictEpoch ho hd ?_)))))
        show wpAny _ _ (if (ep != ep) = true then _ else _) _ E _
        rw [if_neg (by simp)]
        by_cases hkk : k' = k
        · rw [decide_eq_true hkk]
          subst hkk
          exact wpAny_bind (wpAny_rule (wpAny_pure (wpAny_pure (hsome x _ hkv))))
        · rw [decide_eq_false hkk]
          exact wpAny_bind (wpAny_rule (wpAny_pure ⟨rfl, rfl, hnext hkk⟩))
      · rw [if_neg hh]
        refine wpAny_pure ⟨rfl, rfl, hnext ?_⟩
        intro hkk
        rw [hkk] at hh; simp at hh
    · rintro b s' ⟨rfl, rfl, i, hr, hi, hno⟩
      have hall : ∀ j, i ≤ j → j < es.size → ((es[j]?.map (·.hash)) == some (mkHash prog w k)) = false := by
        intro j h1 h2
        have := List.filter_eq_nil_iff.mp hr.symm j (List.mem_range'_1.mpr ⟨h1, by omega⟩)
        simpa using this
      refine wpAny_pure (hnone fun j p hj => ?_)
      rcases Nat.lt_or_ge j i with h | h
      · exact hno j p h hj
      · have hjl : j < es.size := by
          rw [hsz]
          rcases Nat.lt_or_ge j xs.length with h' | h'
          · exact h'
          · rw [List.getElem?_eq_none h'] at hj; exact nomatch hj
        have := hall j h hjl
        rw [haskey j p hj] at this
        exact absurd this (by decide)
  unfold dictFind
  try with_reducible refine wpAny_holding ?_
  refine wpAny_bind (wpAny_dictEntries ho hd ?_)
  dsimp only
  -- the rest behind the look for texts alone
  generalize hrest0 : (if ((key :: (placesWithHash es.size (fun i => es[i]?.map (·.hash)) (mkHash prog w k)).filterMap (fun i => es[i]?.map (·.key))).all carriedByValue) = true then _ else _ : Sem (Option Nat)) = REST
  have hREST : wpAny (model prog w) A REST Q E s := by
    subst hrest0
    by_cases hall : ((key :: (placesWithHash es.size (fun i => es[i]?.map (·.hash)) (mkHash prog w k)).filterMap (fun i => es[i]?.map (·.key))).all carriedByValue) = true
    · rw [if_pos hall]
      exact plain
    · rw [if_neg hall]
      have hk0 : (∃ x tk, key = Value.str x tk) ∨ ∃ a, key = Value.ref a := by
        cases k with
        | t x => obtain ⟨tk, e⟩ := hkey; exact .inl ⟨x, tk, e⟩
        | u ks => obtain ⟨a, e, _⟩ := hkey; exact .inr ⟨a, e⟩
      rcases hk0 with ⟨x0, tk0, rfl⟩ | ⟨a0, rfl⟩
      · dsimp only
        by_cases hone : (((placesWithHash es.size (fun i => es[i]?.map (·.hash)) (mkHash prog w k)).filterMap (fun i => es[i]?.map (·.key))) == [Value.str x0 tk0]) = true <;>
        (first | rw [if_pos hone] | rw [if_neg hone]) <;> (first | refine wpAny_bind (wpAny_pure ?_) | refine wpAny_bind (tellM hkey hst ?_)) <;> (
          rw [if_neg (by simp)]
          refine wpAny_bind ?_
          refine wpAny_forIn_list _
            (fun rest b s' => s' = s ∧ ∃ i hit, b = (none, hit) ∧ rest = (List.range' i (es.size - i)).filter (fun i => (es[i]?.map (·.hash)) == some (mkHash prog w k)) ∧ i ≤ es.size ∧
              ((hit = none ∧ ∀ j p, j < i → xs[j]? ≠ some (k, p)) ∨ ∃ j p, hit = some j ∧ j < i ∧ xs[j]? = some (k, p))) _ ?_ ?_ _ _
            ⟨rfl, 0, none, rfl, by rw [placesWithHash, List.range_eq_range', Nat.sub_zero], Nat.zero_le _, .inl ⟨rfl, fun _ _ h => absurd h (Nat.not_lt_zero _)⟩⟩
          · rintro x rest b s' ⟨rfl, i, hit, rfl, hr, hi, hH⟩
            obtain ⟨hix, hxn, hpx, hskip, hrest⟩ := filter_range'_cons _ _ _ _ _ hr.symm
            have hlt : x < es.size := by omega
            have hrest' : rest = (List.range' (x + 1) (es.size - (x + 1))).filter (fun i => (es[i]?.map (·.hash)) == some (mkHash prog w k)) := by rw [hrest]; congr 2; omega
            obtain ⟨⟨k', b, v'⟩, hkv⟩ : ∃ y, xs[x]? = some y := ⟨xs[x]'(by rw [← hsz]; exact hlt), List.getElem?_eq_getElem _⟩
            have hib : mkIs prog w s'.heap k' b := his _ (List.mem_of_getElem? hkv)
            have hex : es[x]? = some ⟨mkHash prog w k', b, v'⟩ := by rw [entryM_at he x, hkv]; rfl
            have hHx : (hit = none ∧ ∀ j p, j < x → xs[j]? ≠ some (k, p)) ∨ ∃ j p, hit = some j ∧ j < x ∧ xs[j]? = some (k, p) := by
              rcases hH with ⟨h0, hno⟩ | ⟨j, p, h1, hji, hj⟩
              · refine .inl ⟨h0, fun j p hjx hj => ?_⟩
                rcases Nat.lt_or_ge j i with h | h
                · exact hno j p h hj
                · have := hskip j h hjx
                  rw [haskey j p hj] at this
                  exact absurd this (by decide)
              · exact .inr ⟨j, p, h1, by omega, hj⟩
            have hstay : ¬ k' = k → ((hit = none ∧ ∀ j p, j < x + 1 → xs[j]? ≠ some (k, p)) ∨ ∃ j p, hit = some j ∧ j < x + 1 ∧ xs[j]? = some (k, p)) := by
              intro hne
              rcases hHx with ⟨h0, hno⟩ | ⟨j, p, h1, hjx, hj⟩
              · refine .inl ⟨h0, fun j p hjx hj => ?_⟩
                rcases Nat.lt_or_ge j x with h | h
                · exact hno j p h hj
                · have hjx' : j = x := by omega
                  subst hjx'
                  rw [hkv] at hj
                  injection hj with hj
                  injection hj with hj
                  exact hne hj
              · exact .inr ⟨j, p, h1, by omega, hj⟩
            rw [hex]
            dsimp only
            by_cases hh : (mkHash prog w k' == mkHash prog w k) = true
            · rw [if_pos hh]
              refine wpAny_bind (wpAny_dictEpoch ho hd (wpAny_bind (mkIs.eqBool (x := k') (y := k) hu hib hkey (wpAny_bind (wpAny_dictEpoch ho hd ?_)))))
              show wpAny _ _ (if (ep != ep) = true then _ else _) _ E _
              rw [if_neg (by simp)]
              by_cases hkk : k' = k
              · rw [decide_eq_true hkk]
                subst hkk
                rcases hHx with ⟨rfl, _⟩ | ⟨j, p, _, hjx, hj⟩
                · first | rw [if_pos rfl] | skip
                  simp only [Option.isSome_none, Bool.false_eq_true, if_false]
                  first | refine wpAny_bind (wpAny_pure ?_) | skip
                  refine wpAny_bind (wpAny_rule ?_)
                  split
                  · exact wpAny_pure (wpAny_pure (hsome x _ hkv))
                  · exact wpAny_pure ⟨rfl, x + 1, some x, rfl, hrest', hlt, .inr ⟨x, _, rfl, Nat.lt_succ_self x, hkv⟩⟩
                · exact absurd (idxM hn hj hkv) (by omega)
              · rw [decide_eq_false hkk]
                simp only [Bool.false_eq_true, if_false]
                refine wpAny_bind (wpAny_rule ?_)
                first | rw [if_neg (by simp)] | skip
                first
                  | exact wpAny_pure ⟨rfl, x + 1, hit, rfl, hrest', hlt, hstay hkk⟩
                  | exact wpAny_bind (wpAny_pure (wpAny_pure ⟨rfl, x + 1, hit, rfl, hrest', hlt, hstay hkk⟩))
            · rw [if_neg hh]
              refine wpAny_pure ⟨rfl, x + 1, hit, rfl, hrest', hlt, hstay ?_⟩
              intro hkk
              rw [hkk] at hh; simp at hh
          · rintro b s' ⟨rfl, i, hit, rfl, hr, hi, hH⟩
            have hall : ∀ j, i ≤ j → j < es.size → ((es[j]?.map (·.hash)) == some (mkHash prog w k)) = false := by
              intro j h1 h2
              have := List.filter_eq_nil_iff.mp hr.symm j (List.mem_range'_1.mpr ⟨h1, by omega⟩)
              simpa using this
            rcases hH with ⟨rfl, hno⟩ | ⟨j, p, rfl, _, hj⟩
            · refine wpAny_pure (hnone fun j p hj => ?_)
              rcases Nat.lt_or_ge j i with h | h
              · exact hno j p h hj
              · have hjl : j < es.size := by
                  rw [hsz]
                  rcases Nat.lt_or_ge j xs.length with h' | h'
                  · exact h'
                  · rw [List.getElem?_eq_none h'] at hj; exact nomatch hj
                have := hall j h hjl
                rw [haskey j p hj] at this
                exact absurd this (by decide)
            · exact wpAny_pure (hsome j p hj))
      · dsimp only
        rw [if_neg hany]
        by_cases hone : (((placesWithHash es.size (fun i => es[i]?.map (·.hash)) (mkHash prog w k)).filterMap (fun i => es[i]?.map (·.key))) == [Value.ref a0]) = true <;>
        (first | rw [if_pos hone] | rw [if_neg hone]) <;> (first | refine wpAny_bind (wpAny_pure ?_) | refine wpAny_bind (tellM hkey hst ?_)) <;> (
          rw [if_neg (by simp)]
          refine wpAny_bind ?_
          refine wpAny_forIn_list _
            (fun rest b s' => s' = s ∧ ∃ i hit, b = (none, hit) ∧ rest = (List.range' i (es.size - i)).filter (fun i => (es[i]?.map (·.hash)) == some (mkHash prog w k)) ∧ i ≤ es.size ∧
              ((hit = none ∧ ∀ j p, j < i → xs[j]? ≠ some (k, p)) ∨ ∃ j p, hit = some j ∧ j < i ∧ xs[j]? = some (k, p))) _ ?_ ?_ _ _
            ⟨rfl, 0, none, rfl, by rw [placesWithHash, List.range_eq_range', Nat.sub_zero], Nat.zero_le _, .inl ⟨rfl, fun _ _ h => absurd h (Nat.not_lt_zero _)⟩⟩
          · rintro x rest b s' ⟨rfl, i, hit, rfl, hr, hi, hH⟩
            obtain ⟨hix, hxn, hpx, hskip, hrest⟩ := filter_range'_cons _ _ _ _ _ hr.symm
            have hlt : x < es.size := by omega
            have hrest' : rest = (List.range' (x + 1) (es.size - (x + 1))).filter (fun i => (es[i]?.map (·.hash)) == some (mkHash prog w k)) := by rw [hrest]; congr 2; omega
            obtain ⟨⟨k', b, v'⟩, hkv⟩ : ∃ y, xs[x]? = some y := ⟨xs[x]'(by rw [← hsz]; exact hlt), List.getElem?_eq_getElem _⟩
            have hib : mkIs prog w s'.heap k' b := his _ (List.mem_of_getElem? hkv)
            have hex : es[x]? = some ⟨mkHash prog w k', b, v'⟩ := by rw [entryM_at he x, hkv]; rfl
            have hHx : (hit = none ∧ ∀ j p, j < x → xs[j]? ≠ some (k, p)) ∨ ∃ j p, hit = some j ∧ j < x ∧ xs[j]? = some (k, p) := by
              rcases hH with ⟨h0, hno⟩ | ⟨j, p, h1, hji, hj⟩
              · refine .inl ⟨h0, fun j p hjx hj => ?_⟩
                rcases Nat.lt_or_ge j i with h | h
                · exact hno j p h hj
                · have := hskip j h hjx
                  rw [haskey j p hj] at this
                  exact absurd this (by decide)
              · exact .inr ⟨j, p, h1, by omega, hj⟩
            have hstay : ¬ k' = k → ((hit = none ∧ ∀ j p, j < x + 1 → xs[j]? ≠ some (k, p)) ∨ ∃ j p, hit = some j ∧ j < x + 1 ∧ xs[j]? = some (k, p)) := by
              intro hne
              rcases hHx with ⟨h0, hno⟩ | ⟨j, p, h1, hjx, hj⟩
              · refine .inl ⟨h0, fun j p hjx hj => ?_⟩
                rcases Nat.lt_or_ge j x with h | h
                · exact hno j p h hj
                · have hjx' : j = x := by omega
                  subst hjx'
                  rw [hkv] at hj
                  injection hj with hj
                  injection hj with hj
                  exact hne hj
              · exact .inr ⟨j, p, h1, by omega, hj⟩
            rw [hex]
            dsimp only
            by_cases hh : (mkHash prog w k' == mkHash prog w k) = true
            · rw [if_pos hh]
              refine wpAny_bind (wpAny_dictEpoch ho hd (wpAny_bind (mkIs.eqBool (x := k') (y := k) hu hib hkey (wpAny_bind (wpAny_dictEpoch ho hd ?_)))))
              show wpAny _ _ (if (ep != ep) = true then _ else _) _ E _
              rw [if_neg (by simp)]
              by_cases hkk : k' = k
              · rw [decide_eq_true hkk]
                subst hkk
                rcases hHx with ⟨rfl, _⟩ | ⟨j, p, _, hjx, hj⟩
                · first | rw [if_pos rfl] | skip
                  simp only [Option.isSome_none, Bool.false_eq_true, if_false]
                  first | refine wpAny_bind (wpAny_pure ?_) | skip
                  refine wpAny_bind (wpAny_rule ?_)
                  split
                  · exact wpAny_pure (wpAny_pure (hsome x _ hkv))
                  · exact wpAny_pure ⟨rfl, x + 1, some x, rfl, hrest', hlt, .inr ⟨x, _, rfl, Nat.lt_succ_self x, hkv⟩⟩
                · exact absurd (idxM hn hj hkv) (by omega)
              · rw [decide_eq_false hkk]
                simp only [Bool.false_eq_true, if_false]
                refine wpAny_bind (wpAny_rule ?_)
                first | rw [if_neg (by simp)] | skip
                first
                  | exact wpAny_pure ⟨rfl, x + 1, hit, rfl, hrest', hlt, hstay hkk⟩
                  | exact wpAny_bind (wpAny_pure (wpAny_pure ⟨rfl, x + 1, hit, rfl, hrest', hlt, hstay hkk⟩))
            · rw [if_neg hh]
              refine wpAny_pure ⟨rfl, x + 1, hit, rfl, hrest', hlt, hstay ?_⟩
              intro hkk
              rw [hkk] at hh; simp at hh
          · rintro b s' ⟨rfl, i, hit, rfl, hr, hi, hH⟩
            have hall : ∀ j, i ≤ j → j < es.size → ((es[j]?.map (·.hash)) == some (mkHash prog w k)) = false := by
              intro j h1 h2
              have := List.filter_eq_nil_iff.mp hr.symm j (List.mem_range'_1.mpr ⟨h1, by omega⟩)
              simpa using this
            rcases hH with ⟨rfl, hno⟩ | ⟨j, p, rfl, _, hj⟩
            · refine wpAny_pure (hnone fun j p hj => ?_)
              rcases Nat.lt_or_ge j i with h | h
              · exact hno j p h hj
              · have hjl : j < es.size := by
                  rw [hsz]
                  rcases Nat.lt_or_ge j xs.length with h' | h'
                  · exact h'
                  · rw [List.getElem?_eq_none h'] at hj; exact nomatch hj
                have := hall j h hjl
                rw [haskey j p hj] at this
                exact absurd this (by decide)
            · exact wpAny_pure (hsome j p hj))
  cases k with
  | t x =>
    obtain ⟨tk, rfl⟩ := hkey
    dsimp only
    by_cases hstrs : (es.all fun e => isExactStrKey e.key) = true
    · rw [if_pos hstrs]
      unfold foundByValue
      cases hf : es.findIdx? (fun e => e.key.isStr x) with
      | none =>
        refine wpAny_pure (hnone fun j p hj => ?_)
        have hex : es[j]? = some (entryM prog w (.t x, p)) := by rw [entryM_at he j, hj]; rfl
        have hq := Array.findIdx?_eq_none_iff.mp hf _ (Array.mem_of_getElem? hex)
        obtain ⟨t', e'⟩ := (show mkIs prog w s.heap (.t x) p.1 from his _ (List.mem_of_getElem? hj))
        have e2 : (entryM prog w (.t x, p)).key = Value.str x t' := e'
        rw [e2] at hq
        simp [Value.isStr] at hq
      | some i =>
        obtain ⟨hlt, hi, _⟩ := Array.findIdx?_eq_some_iff_getElem.mp hf
        obtain ⟨⟨k', b, v'⟩, hkv⟩ : ∃ y, xs[i]? = some y := ⟨xs[i]'(by rw [← hsz]; exact hlt), List.getElem?_eq_getElem _⟩
        have hib : mkIs prog w s.heap k' b := his _ (List.mem_of_getElem? hkv)
        have hex : es[i]? = some ⟨mkHash prog w k', b, v'⟩ := by rw [entryM_at he i, hkv]; rfl
        have hei : es[i] = ⟨mkHash prog w k', b, v'⟩ := by
          have := Array.getElem?_eq_getElem hlt
          rw [hex] at this
          exact (Option.some.inj this).symm
        rw [hei] at hi
        have hkk : k' = .t x := by
          cases b <;> simp [Value.isStr] at hi
          subst hi
          exact mkIs.inj hib ⟨_, rfl⟩
        subst hkk
        simp only [hex]
        refine wpAny_bind (wpAny_dictEpoch ho hd (wpAny_bind (mkIs.eqBool (x := .t x) (y := .t x) hu hib ⟨_, rfl⟩ (wpAny_bind (wpAny_dictEpoch ho hd ?_)))))
        show wpAny _ _ (if (ep != ep) = true then _ else _) _ E _
        rw [if_neg (by simp), decide_eq_true rfl]
        exact wpAny_bind (wpAny_rule (wpAny_pure (hsome i _ hkv)))
    · rw [if_neg hstrs]
      exact hREST
  | u ks =>
    obtain ⟨a, rfl, hz⟩ := hkey
    exact hREST
theorem DictM.typeIs {d : Addr} {xs : List (MK × Value × Value)} (hm : DictM prog w s.heap d xs) : s.TypeIs (.ref d) "dict" :=
  let ⟨o, _, _, ho, hc, _⟩ := hm; ⟨o, ho, hc.1⟩
theorem dictGetM {d : Addr} {key : Value} {xs : List (MK × Value × Value)} {k : MK} {j : Nat} {p : Value × Value} {Q : Option Value → Shared → Prop} (hu : A.units < cLine) (hkey : mkIs prog w s.heap k key) (hm : DictM prog w s.heap d xs)
    (hj : xs[j]? = some (k, p)) (h : Q (some p.2) { s with toks := s.toks + mkDraws k }) : wpAny (model prog w) A (dictGet d key) Q E s := by
  obtain ⟨o, es, ep, ho, _, hd, he, his, hn⟩ := hm
  unfold dictGet
  try with_reducible refine wpAny_holding ?_
  refine wpAny_bind (mkIs.pyHash hu hkey (wpAny_bind (findM (s := { s with toks := s.toks + mkDraws k }) hu hkey ho hd he his hn ?_ ?_)))
  · intro hno
    exact absurd hj (hno j p)
  · intro i q hi
    obtain rfl := idxM hn hj hi
    rw [hj] at hi
    cases hi
    refine wpAny_bind (wpAny_dictEntries (s := { s with toks := s.toks + mkDraws k }) ho hd ?_)
    rw [entryM_at he j, hj]
    exact wpAny_pure h
theorem getItemM {d : Addr} {key : Value} {xs : List (MK × Value × Value)} {k : MK} {j : Nat} {p : Value × Value} {Q : Value → Shared → Prop} (hu : A.units + 1 < cLine) (hkey : mkIs prog w s.heap k key) (hm : DictM prog w s.heap d xs)
    (hj : xs[j]? = some (k, p)) (h : Q p.2 { s with toks := s.toks + mkDraws k }) : wpAny (model prog w) A (getItem (.ref d) key) Q E s := by
  unfold getItem
  try with_reducible refine wpAny_holding ?_
  refine wpAny_bind (wpAny_sequenceKey hm.typeIs (by decide) ?_)
  refine wpAny_bind (wpAny_callSpecial?_slot (name := Str.ofString "__getitem__") hm.typeIs slot_dict_getitem
    (wpAny_call_entry slot_dict_getitem hm.typeIs entry_dict_getitem ?_ (args_dict_getitem _ _)))
  show wpAny _ _ (dictGet d key >>= _) _ _ s
  refine wpAny_bind (dictGetM (A := A.in1) hu hkey hm hj ?_)
  exact wpAny_pure ⟨p.2, rfl, wpAny_pure h⟩
theorem dictSetM {d : Addr} {key v : Value} {xs : List (MK × Value × Value)} {k : MK} {Q : Unit → Shared → Prop} (hu : A.units < cLine) (hkey : mkIs prog w s.heap k key) (hm : DictM prog w s.heap d xs)
    (hno : ∀ (j : Nat) (p : Value × Value), xs[j]? ≠ some (k, p)) (hQ : ∀ h', DictM prog w h' d (xs ++ [(k, key, v)]) → Heap.SameBut d s.heap h' → Q () { s with heap := h', toks := s.toks + mkDraws k })
    (hsz : xs.length ≤ sizeLine) : wpAny (model prog w) A (dictSet d key v) Q E s := by
  obtain ⟨o, es, ep, ho, hc, hd, he, his, hn⟩ := hm
  unfold dictSet
  try with_reducible refine wpAny_holding ?_
  refine wpAny_bind (mkIs.pyHash hu hkey ?_)
  unfold dictSetHashed
  try with_reducible refine wpAny_holding ?_
  refine wpAny_bind (findM (s := { s with toks := s.toks + mkDraws k }) hu hkey ho hd he his hn ?_ ?_)
  · intro _
    have hnot : k ∉ xs.map (·.1) := by
      intro hm
      obtain ⟨x, hx, rfl⟩ := List.mem_map.mp hm
      obtain ⟨j, hj⟩ := List.mem_iff_getElem?.mp hx
      exact hno j x.2 hj
    refine wpAny_bind (wpAny_rule (wpAny_updateDictKeys (hz := by have e := sizeM he; omega) (s := { s with toks := s.toks + mkDraws k }) ho hd (hQ _ ⟨_, _, ep + 1, Heap.get?_update_self _ ho (Obj.isFreed_of_dict (Obj.data_mapDictKeys hd _)),
      hc.mapDictKeys _, Obj.data_mapDictKeys hd _, ?_, ?_, ?_⟩ (Heap.SameBut.update ..))))
    · simp [he, entryM]
    · intro x hx
      rcases List.mem_append.mp hx with hx | hx
      · exact mkIs.keeps ho hd (Heap.SameBut.update ..) (his x hx)
      · simp only [List.mem_singleton] at hx
        subst hx
        exact mkIs.keeps ho hd (Heap.SameBut.update ..) hkey
    · rw [List.map_append, List.nodup_append]
      refine ⟨hn, by simp, ?_⟩
      intro x hx y hy
      simp only [List.map_cons, List.map_nil, List.mem_singleton] at hy
      subst hy
      exact fun e => hnot (e ▸ hx)
  · intro j p hj
    exact absurd hj (hno j p)
theorem setItemM {d : Addr} {key v : Value} {xs : List (MK × Value × Value)} {k : MK} {Q : Unit → Shared → Prop} (hu : A.units + 1 < cLine) (hkey : mkIs prog w s.heap k key) (hm : DictM prog w s.heap d xs)
    (hno : ∀ (j : Nat) (p : Value × Value), xs[j]? ≠ some (k, p)) (hQ : ∀ h', DictM prog w h' d (xs ++ [(k, key, v)]) → Heap.SameBut d s.heap h' → Q () { s with heap := h', toks := s.toks + mkDraws k })
    (hsz : xs.length ≤ sizeLine) : wpAny (model prog w) A (setItem (.ref d) key v) Q E s := by
  unfold setItem
  try with_reducible refine wpAny_holding ?_
  refine wpAny_bind (wpAny_sequenceKey hm.typeIs (by decide) ?_)
  refine wpAny_bind (wpAny_callSpecial?_slot (name := Str.ofString "__setitem__") hm.typeIs slot_dict_setitem
    (wpAny_call_entry slot_dict_setitem hm.typeIs entry_dict_setitem ?_ (args_dict_setitem _ _ _)))
  show wpAny _ _ (Builtin.Dict.notOrdered "__setitem__" ⟨[.ref d, key, v], []⟩ >>= _) _ _ s
  refine wpAny_bind (wpAny_notOrdered_dict hm.typeIs ?_)
  show wpAny _ _ (dictSet d key v >>= _) _ _ s
  exact wpAny_bind (dictSetM (A := A.in1) hu hkey hm hno (fun h' hm' hs' => wpAny_pure ⟨.none, rfl, wpAny_pure (hQ h' hm' hs')⟩) hsz)
end

/-! ### .. over the layer -/
def relM (p : MK × V × V) (q : MK × Value × Value) : Prop := p.1 = q.1 ∧ RelV p.2.1 q.2.1 ∧ RelV p.2.2 q.2.2
def rawM (P : Program) (w : World) (a : Addr) (kvs : List (MK × V × V)) : Heap → Prop := fun h =>
  (a == sysModules) = false ∧ kvs.length ≤ sizeLine ∧ ∃ xs, Paired relM kvs xs ∧ ∃ o es ep, h.get? a = some o ∧ o.ExactDict ∧ o.data = .dict es ep ∧ es.toList = xs.map (entryM P w) ∧ (xs.map (·.1)).Nodup
/-- a dict whose keys are texts and tuples: logical key, key, value -/
def MixO (P : Program) (w : World) (a : Addr) (kvs : List (MK × V × V)) : HO := .ext (rawM P w a kvs)
def KeyM (H : Hp) : MK → V → Prop
  | .t x, v => v = .str x
  | .u ks, v => ∃ b, v = .ref b ∧ H b = some (.tup (ks.map kV))
def KeysM (H : Hp) (kvs : List (MK × V × V)) : Prop := ∀ p ∈ kvs, KeyM H p.1 p.2.1
theorem rawM.stay {P : Program} {w : World} {a : Addr} {kvs : List (MK × V × V)} (h1 h2 : Heap) (r : rawM P w a kvs h1) (k : ∀ o, h1.get? a = some o → h2.get? a = some o) : rawM P w a kvs h2 := by
  obtain ⟨x, y, xs, p, o, es, ep, e, c⟩ := r
  exact ⟨x, y, xs, p, o, es, ep, k o e, c⟩
theorem mix_ok {P : Program} {w : World} {H : Hp} {h : Heap} {a : Addr} {kvs : List (MK × V × V)} (r : rawM P w a kvs h) : ObjOk P w H h a (MixO P w a kvs) := by
  obtain ⟨_, _, _, _, o, _, _, e, _⟩ := id r
  exact ⟨r, ⟨o, e⟩, rawM.stay⟩
theorem KeyM.is {P : Program} {w : World} {H : Hp} {h : Heap} {u : Value} (ok : HOk P w H h) : ∀ {k : MK} {v : V}, KeyM H k v → RelV v u → mkIs P w h k u
  | .t x, v, e, r => by
    cases (show v = .str x from e)
    exact r
  | .u ks, v, ⟨b, e, hb⟩, r => by
    subst e
    cases (show u = Value.ref b from r)
    exact ⟨b, rfl, key_of ok hb⟩
theorem mix_rd {P : Program} {w : World} {H : Hp} {h : Heap} {a : Addr} {kvs : List (MK × V × V)} (ok : HOk P w H h) (e : H a = some (MixO P w a kvs)) (hk : KeysM H kvs) :
    (a == sysModules) = false ∧ kvs.length ≤ sizeLine ∧ ∃ xs, Paired relM kvs xs ∧ DictM P w h a xs := by
  obtain ⟨⟨x, y, xs, p, o, es, ep, e, c1, c2, c3, c4⟩, _⟩ := (show ObjOk P w H h a (MixO P w a kvs) from ok a _ e)
  refine ⟨x, y, xs, p, o, es, ep, e, c1, c2, c3, ?_, c4⟩
  have all : ∀ {l : List (MK × V × V)} {m : List (MK × Value × Value)}, Paired relM l m → (∀ q ∈ l, KeyM H q.1 q.2.1) → ∀ z ∈ m, mkIs P w h z.1 z.2.1 := by
    intro l m q
    induction q with
    | nil => intro _ z hz; exact nomatch hz
    | @cons a b as bs hq t ih =>
      intro hl z hz
      rcases List.mem_cons.mp hz with e | hz
      · subst e
        rw [← hq.1]
        exact KeyM.is ok (hl a List.mem_cons_self) hq.2.1
      · exact ih (fun q hq => hl q (List.mem_cons_of_mem _ hq)) z hz
  exact all p hk
theorem relM.get : ∀ {kvs : List (MK × V × V)} {xs : List (MK × Value × Value)} {p : MK × V × V}, Paired relM kvs xs → p ∈ kvs → ∃ (j : Nat) (q : MK × Value × Value), xs[j]? = some q ∧ relM p q
  | _, _, _, .nil, h => nomatch h
  | _, _, p, .cons r t, h => by
    rcases List.mem_cons.mp h with e | h
    · subst e
      exact ⟨0, _, rfl, r⟩
    · obtain ⟨j, q, e, r⟩ := relM.get t h
      exact ⟨j + 1, q, e, r⟩
theorem relM.keys : ∀ {kvs : List (MK × V × V)} {xs : List (MK × Value × Value)}, Paired relM kvs xs → kvs.map (·.1) = xs.map (·.1)
  | _, _, .nil => rfl
  | _, _, .cons r t => by rw [List.map_cons, List.map_cons, relM.keys t, r.1]
/-- the dict at a, told as one with keys of both kinds -/
def MixAt (P : Program) (w : World) (H : Hp) (a : Addr) (kvs : List (MK × V × V)) : Prop :=
  H a = some (MixO P w a kvs) ∨ ∃ k0 : List (Str × V), H a = some (.dK (k0.map fun p => (Sum.inr p.1, p.2))) ∧ kvs = k0.map fun p => (MK.t p.1, V.str p.1, p.2)
theorem dk_m {P : Program} {w : World} {h : Heap} {k0 : List (Str × V)} : ∀ {vs : List (Key × Value)} {l : List DictEntry}, KV (k0.map fun p => (Sum.inr p.1, p.2)) vs → Pairs (mixKind P w) l vs → (∀ e ∈ l, ∃ k, (mixKind P w).is k e.key = true ∧ e.hash = (mixKind P w).hash k) →
    ∃ xs, Paired relM (k0.map fun p => (MK.t p.1, V.str p.1, p.2)) xs ∧ l = xs.map (entryM P w) ∧ ∀ x ∈ xs, mkIs P w h x.1 x.2.1 := by
  induction k0 with
  | nil =>
    intro vs l r q hk
    cases r
    cases q
    exact ⟨[], .nil, rfl, fun _ z => nomatch z⟩
  | cons p k0 ih =>
    intro vs l r q hk
    rw [List.map_cons] at r
    cases r with
    | @cons _ q _ qs r t =>
    cases q with
    | @cons e _ es _ h1 h2 h3 =>
    obtain ⟨xs, a1, a2, a3⟩ := ih t h3 fun e he => hk e (List.mem_cons_of_mem _ he)
    obtain ⟨r1, r2⟩ := r
    have r1' : (Sum.inr p.1 : Key) = q.1 := r1
    rw [← r1'] at h1
    obtain ⟨k, hk1, hk2⟩ := hk e List.mem_cons_self
    have ek := (mixKind P w).inj _ _ _ hk1 h1
    subst ek
    obtain ⟨tk, et⟩ : ∃ t, e.key = Value.str p.1 t := by
      rcases keyIs_shape (show keyIs (Sum.inr p.1) e.key = true from h1) with ⟨i, t, z, _⟩ | ⟨x, t, z, z2⟩
      · cases z
      · cases z
        exact ⟨t, z2⟩
    refine ⟨(MK.t p.1, e.key, e.val) :: xs, .cons ⟨rfl, ⟨tk, et⟩, ?_⟩ a1, ?_, fun x hx => ?_⟩
    · show RelV p.2 e.val
      rw [h2]
      exact r2
    · rw [List.map_cons, ← a2]
      congr 1
      obtain ⟨eh, ek, ev⟩ := e
      show (⟨eh, ek, ev⟩ : DictEntry) = ⟨hashStr w p.1, ek, ev⟩
      have : eh = hashStr w p.1 := hk2
      rw [this]
    · rcases List.mem_cons.mp hx with z | z
      · subst z
        exact ⟨tk, et⟩
      · exact a3 x z
theorem mixAt_rd {P : Program} {w : World} {H : Hp} {h : Heap} {a : Addr} {kvs : List (MK × V × V)} (ok : HOk P w H h) (e : MixAt P w H a kvs) (hk : KeysM H kvs) :
    (a == sysModules) = false ∧ kvs.length ≤ sizeLine ∧ ∃ xs, Paired relM kvs xs ∧ DictM P w h a xs := by
  rcases e with e | ⟨k0, e, rfl⟩
  · exact mix_rd ok e hk
  · obtain ⟨z, hd, vs, rel, o, es, ep, h1, h2, h3, h4, h5, h6⟩ := dk_of ok e
    obtain ⟨xs, a1, a2, a3⟩ := dk_m (P := P) (w := w) (h := h) (l := es.toList) rel h5 fun e he => h4 e (Array.mem_toList_iff.mp he)
    refine ⟨hd, by rw [List.length_map] at z ⊢; exact z, xs, a1, o, es, ep, h1, h2, h3, a2, a3, ?_⟩
    rw [← relM.keys a1]
    have e2 : (k0.map fun p => ((Sum.inr p.1 : Key), p.2)).map (·.1) = vs.map (·.1) := rel.keys
    rw [← e2] at h6
    rw [List.map_map] at h6 ⊢
    have key : ∀ l : List (Str × V), (l.map ((fun x : Key × V => x.1) ∘ fun p => ((Sum.inr p.1 : Key), p.2))).Nodup → (l.map ((fun x : MK × V × V => x.1) ∘ fun p => (MK.t p.1, V.str p.1, p.2))).Nodup := by
      intro l
      induction l with
      | nil => intro _; exact List.nodup_nil
      | cons p r ih =>
        intro hn
        rw [List.map_cons, List.nodup_cons] at hn ⊢
        refine ⟨fun hm => hn.1 ?_, ih hn.2⟩
        obtain ⟨q, hq, eq⟩ := List.mem_map.mp hm
        have eq' : MK.t q.1 = MK.t p.1 := eq
        injection eq' with eq'
        exact List.mem_map.mpr ⟨q, hq, by show (Sum.inr q.1 : Key) = Sum.inr p.1; rw [eq']⟩
    exact key k0 h6
theorem MixAt.mut {P : Program} {w : World} {H : Hp} {a : Addr} {kvs : List (MK × V × V)} (e : MixAt P w H a kvs) : Mut (H a) := by
  rcases e with e | ⟨k0, e, _⟩
  · rw [e]; exact True.intro
  · rw [e]; exact True.intro
/-- d[k], there, of a dict with keys of both kinds -/
def tMGet (P : Program) (w : World) (td ty : TE) : TE := fun σ H Q => td σ H fun x H1 => ty σ H1 fun y H2 => ∃ a kvs k v, x = .ref a ∧ H2 a = some (MixO P w a kvs) ∧ KeysM H2 kvs ∧ KeyM H2 k y ∧ (∃ ky, (k, ky, v) ∈ kvs) ∧ Q v H2
/-- d[k] = v, a new key -/
def sMPut (P : Program) (w : World) (td ty tv : TE) : TS := fun D σ H => tv σ H fun v H1 => td σ H1 fun x H2 => ty σ H2 fun y H3 => ∃ a kvs k, x = .ref a ∧ MixAt P w H3 a kvs ∧ KeysM H3 kvs ∧ KeyM H3 k y ∧ (∀ p ∈ kvs, p.1 ≠ k) ∧ kvs.length < sizeLine ∧
  D.nx σ (upd H3 a (MixO P w a (kvs ++ [(k, y, v)])))
section
variable {X : Cx} {o i e value : Expr} {pos pos' tpos : Pos} {td ty tv : TE}
theorem pe_mget (hu : X.A.units + 1 < cLine) (ho : PE X o td) (hi : PE X i ty) (hs : NoSl i) : PE X (.Subscript o i pos) (tMGet X.prog X.w td ty) := by
  refine ⟨fun pins s σ H Q I h => ?_⟩
  refine subD_of PySem.F.slot_dict_getitem.lookup hs (thn (ho.run pins s σ H _ I h) fun u s1 ⟨x, H1, I1, rx, q1⟩ => thn (hi.run pins s1 σ H1 _ I1 q1) fun iv s2 ⟨y, H2, I2, ry, a, kvs, k, v, ex, hm, hk, hy, ⟨ky, hin⟩, q2⟩ => ?_)
  subst ex
  obtain rfl : u = Value.ref a := rx
  obtain ⟨_, _, xs, rel, dd⟩ := mix_rd I2.hok hm hk
  obtain ⟨j, ⟨k', key, val⟩, hj, r1, r2, r3⟩ := relM.get rel hin
  cases (show k = k' from r1)
  exact ⟨dd.typeIs, getItemM hu (KeyM.is I2.hok hy ry) dd hj ⟨v, H2, I2.tok _, r3, q2⟩⟩
theorem ps_mput (hu : X.A.units + 1 < cLine) (ho : PE X o td) (hi : PE X i ty) (hv : PE X value tv) (hs : swapsWith value (some (.Subscript o i pos')) pos.line X.env = pure false) :
    PS X (.Assign [.Subscript o i pos'] value pos) (sMPut X.prog X.w td ty tv) := by
  refine ⟨fun pins s σ H D I h => ?_⟩
  refine wpAny_Assign_Subscript (thn (hv.run pins s σ H _ I h) fun r s1 ⟨v, H1, I1, rv, q1⟩ => thn (ho.run pins s1 σ H1 _ I1 q1) fun u s2 ⟨x, H2, I2, rx, q2⟩ => thn (hi.run pins s2 σ H2 _ I2 q2) fun iv s3 ⟨y, H3, I3, ry, a, kvs, k, ex, hm, hk, hy, hne, hl, q3⟩ => ?_) hs
  subst ex
  obtain rfl : u = Value.ref a := rx
  obtain ⟨hd, hz, xs, rel, dd⟩ := mixAt_rd I3.hok hm hk
  have hlen : kvs.length = xs.length := Paired.length rel
  refine setItemM hu (KeyM.is I3.hok hy ry) dd (fun j p hj => ?_) (fun h' dd' hs => ⟨σ, _, ?_, q3⟩) (by omega)
  · have hx : (xs.map (·.1))[j]? = some k := by rw [List.getElem?_map, hj]; rfl
    rw [← relM.keys rel] at hx
    rw [List.getElem?_map] at hx
    obtain ⟨p', hp', ep⟩ := Option.map_eq_some_iff.mp hx
    exact hne p' (List.mem_of_getElem? hp') ep
  · obtain ⟨q, es, ep, hq, c1, c2, c3, _, c5⟩ := dd'
    refine d_write I3 hm.mut hs ⟨q, hq⟩ (mix_ok ⟨hd, ?_, xs ++ [(k, iv, r)], Paired.snoc rel ⟨rfl, ry, rv⟩, q, es, ep, hq, c1, c2, c3, c5⟩)
    rw [List.length_append, List.length_cons, List.length_nil]
    omega
end
theorem pe_mgetK {X : Cx} (P : Program) (w : World) (hP : X.prog = P) (hw : X.w = w) {o i : Expr} {pos : Pos} {td ty : TE} (hu : X.A.units + 1 < cLine) (ho : PE X o td) (hi : PE X i ty) (hs : NoSl i) : PE X (.Subscript o i pos) (tMGet P w td ty) := by
  subst hP hw
  exact pe_mget hu ho hi hs
theorem ps_mputK {X : Cx} (P : Program) (w : World) (hP : X.prog = P) (hw : X.w = w) {o i value : Expr} {pos pos' : Pos} {td ty tv : TE} (hu : X.A.units + 1 < cLine) (ho : PE X o td) (hi : PE X i ty) (hv : PE X value tv) (hs : swapsWith value (some (.Subscript o i pos')) pos.line X.env = pure false) :
    PS X (.Assign [.Subscript o i pos'] value pos) (sMPut P w td ty tv) := by
  subst hP hw
  exact ps_mput hu ho hi hv hs

/-! ### xs[a:c] = ys, ys a list of its own -/
def sSlPut (to : TE) (tl th : TO) (tv : TE) : TS := fun D σ H => tv σ H fun v H1 => to σ H1 fun x H2 => tl σ H2 fun l H3 => th σ H3 fun u H4 => ∃ (o b : Addr) (xs ys : List V) (a c : Int), v = .ref b ∧ x = .ref o ∧ l = some a ∧ u = some c ∧ H4 o = some (.lst xs) ∧ H4 b = some (.lst ys) ∧ o ≠ b ∧ 0 ≤ a ∧ a ≤ c ∧ c ≤ xs.length ∧ xs.length + ys.length ≤ sizeLine ∧
  D.nx σ (upd H4 o (.lst (xs.take a.toNat ++ ys ++ xs.drop c.toNat)))
theorem ps_slput {X : Cx} {o value : Expr} {lo hi : Option Expr} {p2 pos' pos : Pos} {to tv : TE} {tl th : TO} (ho : PE X o to) (hl : PO X lo tl) (hh : PO X hi th) (hv : PE X value tv) (hs : swapsWith value (some (.Subscript o (.Slice lo hi none p2) pos')) pos.line X.env = pure false) :
    PS X (.Assign [.Subscript o (.Slice lo hi none p2) pos'] value pos) (sSlPut to tl th tv) := by
  refine ⟨fun pins s σ H D I h => ?_⟩
  refine wpAny_Assign_Subscript (thn (hv.run pins s σ H _ I h) fun v s1 ⟨y, H1, I1, ry, q1⟩ => thn (ho.run pins s1 σ H1 _ I1 q1) fun x s2 ⟨z, H2, I2, rz, q2⟩ => ?_) hs
  refine wpAny_Slice (thn (hl.run pins s2 σ H2 _ I2 q2) fun vl s3 ⟨l, H3, I3, pl, q3⟩ => thn (hh.run pins s3 σ H3 _ I3 q3) fun vu s4 ⟨u, H4, I4, pu, o', b, xs, ys, a, c, ey, ez, el, eu, ho', hb, ne, h0, h1, h2, h3, q4⟩ => ?_)
  rw [evalPart_none]
  refine wpAny_pure ?_
  subst ey ez el eu
  cases ry
  cases rz
  have I5 : Inv X pins σ H4 { s4 with heap := s4.heap.push { cls := .type "slice", data := .fields #[vl, vu, .none] } } := I4.kept (t' := s4.toks) fun b ob q => Heap.get?_push_of_some _ q
  have ra : RelV (.int a) vl := by
    cases pl
    exact ⟨_, rfl⟩
  have rc : RelV (.int c) vu := by
    cases pu
    exact ⟨_, rfl⟩
  exact set_slice I5 ho' hb ne (Heap.IsSliceOf.new ..) ra rc h0 h1 h2 h3 fun s' I' => ⟨σ, _, I', q4⟩

/-! ### all(test for x in a text): the test may read the module's names -/
section
open GxR
variable {X : Cx} {pins : List (Addr × Obj)} {σ : L2.St} {H : Hp} {s : Shared}
/-- the test of one sign, the module's names being mg -/
def EltG (prog : Program) (w : World) (mg : Str → Option Value) (sco : Scope) (x : Str) (elt : Expr) (pb : Nat → Bool) : Prop :=
  ∀ (en : Env) (B : Around) (F : Value → Shared → Prop) (c : Nat) (t : Tok) (z : Shared) (m : Str → Option Value),
    en.scope = sco → en.globals = mainGlobals → z.heap.Ns mainGlobals mg → z.heap.Ns en.locals m → m x = some (.str ⟨#[c]⟩ t) →
    wpAny (model prog w) B (eval elt en) (fun y z' => y = .bool (pb c) ∧ Keeps z z') F z
theorem elt_inG {prog : Program} {w : World} {mg : Str → Option Value} {sco : Scope} {x g : Str} {L : Str} {tl : Tok} {p1 p2 p3 : Pos} (kf : sco.kind = .function) (lx : sco.names.lookup x = some .local) (lg : sco.names.lookup g = some .globalImplicit)
    (hL : mg g = some (.str L tl)) (dx : (x == ("__debug__" : Str)) = false := by decide) (dg : (g == ("__debug__" : Str)) = false := by decide) :
    EltG prog w mg sco x (.Compare (.Name x p1) [.In] [.Name g p2] p3) (fun c => decide (c ∈ L.cps.toList)) := by
  intro en B F c t z m es eg ng nl hm
  have kk : en.scope.kind = .function := by rw [es]; exact kf
  refine wpAny_Compare1 ?_ rfl
  refine wpAny_Name (wpAny_loadName_local kk (show en.scope.names.lookup x = some .local by rw [es]; exact lx) nl hm ?_) dx
  refine Calls.Name_function_global kk (show en.scope.names.lookup g = some .globalImplicit by rw [es]; exact lg) (Calls.loadGlobal_global (mg := mg) (by rw [eg]; exact ng) hL ?_) dg
  refine PyProof.Rows.in_str ⟨?_, keeps_refl _⟩
  rw [PySem.StrLaws.found_one L c]
theorem gen_signs {c P : Addr} {elt src : Expr} {x : Str} {px gp : Pos} {sco : Scope} {pb : Nat → Bool} {te : TE} {k : Nat} {Z : Value → Shared → Prop} {R : Str → Hp → Prop}
    (hr : Room k X.A) (TB : TabB X.base X.mg c P) (hco : X.env.code = .ref c) (S : GenS X.env sco x) (hi : PE X src te) (hel : EltG X.prog X.w X.mg sco x elt pb)
    (hs : ∀ v, genFold src X.env v = pure v) (I : Inv X pins σ H s) (h : te σ H fun v H1 => ∃ a : Str, v = .str a ∧ TabG H1 P ∧ R a H1)
    (hZ : ∀ a H1 g z, R a H1 → Ready X pins σ H1 P a pb g z → Z (.ref g) z) :
    wpAny (model X.prog X.w) X.A (eval (.GeneratorExp elt [⟨.Name x px, src, [], 0⟩] sco gp) X.env) Z X.xe s := by
  refine wpAny_GeneratorExp_walksQ hr.hd S.co (closure_ok S.free) S.cell S.dot S.loc S.kind (by have d := hr.dp; omega) ?_ hs
  refine thn (hi.run pins s σ H _ I h) fun xv z1 ⟨v, H1, J, r1, q⟩ => ?_
  obtain ⟨a, rfl, ⟨ps, hP, ht⟩, q⟩ := q
  obtain ⟨t, rfl⟩ := _root_.id r1
  refine wpAny_pyIter_str fun it St W w0 => ?_
  have gP : z1.heap.get? P = some { cls := .none, data := .fields ps } := J.hok P _ hP
  have gP2 : (z1.heap.push it).get? P = some { cls := .none, data := .fields ps } := Heap.get?_push_of_some _ gP
  have ltP : P < z1.heap.objs.size := Heap.lt_size gP
  have hd2 : PySem.W.CodeHd (z1.heap.push it) c P := TB.code.keeps fun b u e => Heap.get?_push_of_some _ (J.bk b u e)
  have nl2 : (z1.heap.push it).NoLimit := J.nolimit.push it
  have go : ∀ (code : Value) (hh : Heap) (tk : Nat) (qs : Array Value), Heap.ExtBut P (z1.heap.push it) hh → (z1.heap.push it).objs.size ≤ hh.objs.size →
      hh.get? P = some { cls := .none, data := .fields qs } → (∃ more, qs = ps ++ more) → TriplesOk qs.toList →
      wpAny (model X.prog X.w) X.A (builtinsFor X.env.globals X.env.builtins) (fun bi s₄ =>
        ∃ Ia fp wr n₀ Pf St₀ pz F, Value.ref z1.heap.objs.size = .ref Ia ∧ (∀ A' : Around, A'.handled = none → Walks X.prog X.w A' Ia fp wr n₀ Pf St₀) ∧
          St₀ 0 s₄.heap ∧ (∀ b ∈ fp, b < s₄.heap.objs.size) ∧ s₄.heap.NoLimit ∧ cStatics ∉ wr ∧
          (∀ hf : Heap, (∀ b o, s₄.heap.get? b = some o → hf.get? b = some o) →
            QuietGen X.prog X.w (genEnv sco (cloFrom X.env.cells sco.names []) s₄.heap.objs.size code bi X.env) x [] elt (List.range s₄.heap.objs.size) wr Pf pz F hf) ∧
          (∀ a h₅ tk gs, gs.bare = true → s₄.heap.objs.size < a → h₅.objs.size = a + 1 → (∀ b o, s₄.heap.get? b = some o → h₅.get? b = some o) →
            WalksS X.prog X.w X.A.in4 a (a :: s₄.heap.objs.size :: List.range s₄.heap.objs.size) (s₄.heap.objs.size :: wr) (GenOnlyQ s₄.gens.size)
              (passing pz n₀ 0).length (fun j y => ∃ i, (passing pz n₀ 0)[j]? = some i ∧ F i y)
              (GenAt X.prog X.w X.A.in4 a s₄.gens.size s₄.heap.objs.size (List.range s₄.heap.objs.size) wr pz n₀ F) →
            GenAt X.prog X.w X.A.in4 a s₄.gens.size s₄.heap.objs.size (List.range s₄.heap.objs.size) wr pz n₀ F 0 { s₄ with gens := s₄.gens.push gs, toks := tk, heap := h₅ } →
            Z (.ref a) { s₄ with gens := s₄.gens.push gs, toks := tk, heap := h₅ })) X.xe { z1 with heap := hh, toks := tk } := by
    intro code hh tk qs ex sz gq mr tq
    obtain ⟨bm, ob, b1, b2, b3, b4, b5, b6, b7, b8⟩ := TB.bm
    have neS : cStatics ≠ P := fun e => by
      obtain ⟨_, ns, _⟩ := J.nolimit
      obtain ⟨oo, es, ep, go1, gd, _⟩ := ns
      rw [e, gP] at go1
      cases go1
      cases gd
    have ltS : cStatics < z1.heap.objs.size := let ⟨_, ns, _⟩ := J.nolimit; ns.lt
    have szp : (z1.heap.push it).objs.size = z1.heap.objs.size + 1 := Heap.size_push ..
    have kp : ∀ b u, b ≠ P → z1.heap.get? b = some u → hh.get? b = some u := fun b u hb e => ex b u hb (Heap.get?_push_of_some _ e)
    have gl1 : z1.heap.Ns mainGlobals X.mg := J.mod.glob.keeps J.bk
    have glh : hh.Ns mainGlobals X.mg := (gl1.push it).extBut ex TB.gP
    refine wpAny_builtinsFor (m := X.mg) (by rw [J.ok.glob]; exact glh) b1 b2 (kp _ _ b4 (J.bk _ _ b5)) b6 b7 b8 ?_
    refine ⟨z1.heap.objs.size, [z1.heap.objs.size], [z1.heap.objs.size], a.cps.size, SignAt a, St, (fun _ => true), (fun i y => ∃ cc, a.cps[i]? = some cc ∧ y = .bool (pb cc)), rfl, W, ?_, ?_, nl2.extBut ex neS, ?_, ?_, ?_⟩
    · refine (W X.A hr.hd).frame _ _ _ w0 fun b hb u e => ex b u (fun eq => ?_) e
      rw [List.mem_singleton.mp hb] at eq
      exact Nat.ne_of_lt ltP eq.symm
    · intro b hb
      rw [List.mem_singleton.mp hb]
      show z1.heap.objs.size < hh.objs.size
      omega
    · exact fun m => Nat.ne_of_lt ltS (List.mem_singleton.mp m)
    · intro hf keep
      refine ⟨fun A' E' i v z2 m2 _ _ _ _ _ => ?_, fun A' E' i v z2 m2 _ hv _ hn hm hk => ?_⟩
      · simp only [List.forIn_nil]
        exact wpAny_pure ⟨rfl, keeps_refl _⟩
      · obtain ⟨cc, u, hcc, rfl⟩ := hv
        have ngl : z2.heap.Ns mainGlobals X.mg := by
          have lt1 : mainGlobals < z1.heap.objs.size := gl1.lt
          obtain ⟨og, es, ep, e1, er⟩ := glh
          exact ⟨og, es, ep, hk mainGlobals (List.mem_range.mpr (Heap.lt_size e1)) (fun m => Nat.ne_of_lt lt1 (List.mem_singleton.mp m)) og (keep _ _ e1), er⟩
        exact wpAny_mono (hel _ A' E' cc u z2 m2 rfl J.ok.glob ngl hn hm) (fun y z3 r => ⟨⟨cc, hcc, r.1⟩, r.2⟩) fun _ _ e => e
    · intro g h5 tk5 gs bare lt5 sz5 k5 W5 at5
      simp only [GxR.passing_true, List.length_range] at W5
      refine hZ a H1 g _ q ⟨_, _, _, _, _, W5.in4_1, at5, ?_, fun z' mv => ?_⟩
      · intro j y sj Qj Ej hy hQj
        obtain ⟨i, hij, cc, hcc, rfl⟩ := hy
        obtain ⟨lj, ej⟩ := List.getElem?_eq_some_iff.mp hij
        rw [List.getElem_range] at ej
        subst ej
        have e9 : a.cps.toList[j]? = some cc := by rw [Array.getElem?_toList]; exact hcc
        have hQ2 : Qj (trF pb a.cps.toList j) sj := hQj
        rw [trF_some e9] at hQ2
        exact wpAny_truthy_bool hQ2
      · obtain ⟨more, em⟩ := mr
        have out : ∀ b u, z1.heap.get? b = some u → b ∉ hh.objs.size :: [z1.heap.objs.size] := fun b u e hb => by
          have lt := Heap.lt_size e
          rcases List.mem_cons.mp hb with y | y
          · rw [y] at lt
            have lt' : (hh.objs.size : Nat) < z1.heap.objs.size := lt
            omega
          · rw [List.mem_singleton.mp y] at lt
            exact Nat.lt_irrefl _ lt
        have J2 := inv_tab (more := more) (h' := z'.heap) (g' := z'.gens) (d' := z'.drawn) (t' := z'.toks) J hP
          (fun b u hb e => mv.heap b u (out b u e) (k5 b u (kp b u hb e)))
          (by rw [← em]; exact mv.heap P _ (out P _ gP) (k5 P _ gq))
          (AllBare.movedS (J.bare.push bare) mv)
        rw [sh_eta z1 z' mv.os] at J2
        exact ⟨upd H1 P (.tbl (ps ++ more)), ⟨⟨ps ++ more, upd_same, by rw [← em]; exact tq⟩, fun b hb => upd_ne hb⟩, J2⟩
  refine ⟨nl2, ?_⟩
  cases hf : codeAmong gp ps.toList with
  | none =>
    refine wpAny_genexprCodeX hco (hd2.code gP2 ht) (hd2.tab gP2) hf fun c' h' tk ex ge lt hc' _ tab' _ => ?_
    obtain ⟨_, _, _, _, _, _, _, _, _, _, _, _, _, _, _, _, _, _, _, tr, _⟩ := hc'
    exact go _ h' tk _ ex (Nat.le_trans ge (Nat.le_of_lt lt)) tab'.2 ⟨_, rfl⟩ tr
  | some cv =>
    refine wpAny_genexprCode_hit hco (hd2.code gP2 ht) hf ?_
    exact go cv (z1.heap.push it) z1.toks ps (Heap.ExtBut.refl _ _) (Nat.le_refl _) gP2 ⟨#[], by simp⟩ ht
theorem pe_allG {c P : Addr} {elt src : Expr} {x : Str} {px p pos gp : Pos} {sco : Scope} {pb : Nat → Bool} {te : TE} {k : Nat}
    (hr : Room k X.A) (hg : Gl X "all") (hm : X.mg "all" = none) (hb : bootBuiltins "all" = some (.builtin "all")) (TB : TabB X.base X.mg c P) (hco : X.env.code = .ref c) (S : GenS X.env sco x) (hi : PE X src te) (hel : EltG X.prog X.w X.mg sco x elt pb)
    (hs : ∀ v, genFold src X.env v = pure v)
    (he : starEach [.GeneratorExp elt [⟨.Name x px, src, [], 0⟩] sco gp] X.env = (false, eval (.GeneratorExp elt [⟨.Name x px, src, [], 0⟩] sco gp) X.env) :: starEach [] X.env := by rfl) :
    PE X (.Call (.Name "all" p) [.GeneratorExp elt [⟨.Name x px, src, [], 0⟩] sco gp] [] pos) (tAllS P pb te) := by
  refine ⟨fun pins z σ H Q I h => ?_⟩
  refine wpAny_Call_Name_kw (ld_blt I hg hm hb (PyProof.Rows.callWith_builtin1 ?_ he (by rfl)))
  rw [he]
  show wpAny _ _ (spliced ((false, eval (.GeneratorExp elt [⟨.Name x px, src, [], 0⟩] sco gp) X.env) :: backTo pos (starEach [] X.env))) _ _ z
  refine Calls.spliced_cons (gen_signs (R := fun a H1 => ∀ H2, Tabbed P H1 H2 → Q (.bl (a.cps.toList.all pb)) H2) hr TB hco S hi hel hs I h fun a H1 g z5 hR hG => ?_)
  obtain ⟨fp, wr, G, F, St, W, st0, tru, fin⟩ := hG
  refine Calls.spliced_nil (call_all_walkS (W.self 0 _ _ _ st0 ⟨g, fp, wr, G, _, F, St, _, rfl, W, st0, tru, fun z' mv => ?_⟩))
  obtain ⟨H2, tb, J⟩ := fin z' mv
  refine ⟨.bl _, H2, J, rfl, ?_⟩
  rw [all_signs a pb]
  exact hR H2 tb
/-- a table may grow -/
theorem kp_tabbed {P : Addr} {H H' : Hp} (h : TabG H P) (t : Tabbed P H H') : Kp H H' := by
  obtain ⟨ps, hP, _⟩ := h
  obtain ⟨⟨qs, hQ, tq⟩, e⟩ := t
  refine ⟨fun b o n hb => ?_, fun b hb => ?_, fun b hb => ?_⟩
  · have ne : b ≠ P := fun z => by
      rw [z, hP] at hb
      cases hb
      cases n
    rw [e b ne]
    exact hb
  · by_cases z : b = P
    · rw [z]
      exact ⟨qs, hQ, tq⟩
    · obtain ⟨rs, h1, h2⟩ := hb
      exact ⟨rs, by rw [e b z]; exact h1, h2⟩
  · by_cases z : b = P
    · rw [z, hQ] at hb
      cases hb
    · rw [e b z] at hb
      exact hb
end

/-! ### all(test for x in a list of ints): the test may read the module's names -/
section
open GxR
variable {X : Cx} {pins : List (Addr × Obj)} {σ : L2.St} {H : Hp} {s : Shared}
/-- the test of one int, the module's names being mg -/
def EltI (prog : Program) (w : World) (mg : Str → Option Value) (sco : Scope) (x : Str) (elt : Expr) (pb : Int → Bool) : Prop :=
  ∀ (en : Env) (B : Around) (F : Value → Shared → Prop) (c : Int) (t : Tok) (z : Shared) (m : Str → Option Value),
    en.scope = sco → en.globals = mainGlobals → z.heap.Ns mainGlobals mg → z.heap.Ns en.locals m → m x = some (.int c t) →
    wpAny (model prog w) B (eval elt en) (fun y z' => y = .bool (pb c) ∧ Keeps z z') F z
theorem keeps_tok {z : Shared} (k : Nat) : Keeps z { z with toks := k } := ⟨z.heap, k, rfl, fun _ _ e => e⟩
/-- 1 <= x <= G, G a module's int -/
theorem elt_chain {prog : Program} {w : World} {mg : Str → Option Value} {sco : Scope} {x g : Str} {lo hi : Int} {tl : Tok} {p0 p1 p2 p3 : Pos} {kk : Nat} (kf : sco.kind = .function) (lx : sco.names.lookup x = some .local) (lg : sco.names.lookup g = some .globalImplicit)
    (hL : mg g = some (.int hi tl)) (dx : (x == ("__debug__" : Str)) = false := by decide) (dg : (g == ("__debug__" : Str)) = false := by decide) :
    EltI prog w mg sco x (.Compare (.Constant (.int lo) kk p0) [.LtE, .LtE] [.Name x p1, .Name g p2] p3) (fun c => decide (lo ≤ c) && decide (c ≤ hi)) := by
  intro en B F c t z m es eg ng nl hm
  have kf' : en.scope.kind = .function := by rw [es]; exact kf
  refine Compare_chain (wpAny_Constant_int (chain_link ?_)) (by with_unfolding_all rfl)
  refine wpAny_Name (wpAny_loadName_local kf' (show en.scope.names.lookup x = some .local by rw [es]; exact lx) nl hm ?_) dx
  refine le_int (wpAny_truthy_bool ?_)
  by_cases h1 : lo ≤ c
  · rw [decide_eq_true h1]
    refine ite_tt (chain_last ?_)
    refine Calls.Name_function_global kf' (show en.scope.names.lookup g = some .globalImplicit by rw [es]; exact lg) (Calls.loadGlobal_global (mg := mg) (by rw [eg]; exact ng) hL ?_) dg
    refine le_int ⟨?_, keeps_tok _⟩
    show Value.bool (decide (c ≤ hi)) = Value.bool (decide (lo ≤ c) && decide (c ≤ hi))
    rw [decide_eq_true h1, Bool.true_and]
  · rw [decide_eq_false h1]
    refine ite_ff ⟨?_, keeps_tok _⟩
    show Value.bool false = Value.bool (decide (lo ≤ c) && decide (c ≤ hi))
    rw [decide_eq_false h1, Bool.false_and]
def trI (pb : Int → Bool) (l : List Int) (j : Nat) : Bool := match l[j]? with
  | some b => pb b
  | none => false
theorem trI_some {pb : Int → Bool} {l : List Int} {j : Nat} {b : Int} (h : l[j]? = some b) : trI pb l j = pb b := by
  unfold trI
  rw [h]
theorem all_trI (l : List Int) (pb : Int → Bool) : (List.range l.length).all (trI pb l) = l.all pb := by
  rw [Bool.eq_iff_iff, List.all_eq_true, List.all_eq_true]
  constructor
  · intro h b hb
    obtain ⟨j, hj, e⟩ := List.mem_iff_getElem.mp hb
    have z := h j (List.mem_range.mpr hj)
    rw [trI_some (List.getElem?_eq_getElem hj), e] at z
    exact z
  · intro h j hj
    have hj' := List.mem_range.mp hj
    rw [trI_some (List.getElem?_eq_getElem hj')]
    exact h _ (List.getElem_mem hj')
def ReadyI (X : Cx) (pins : List (Addr × Obj)) (σ : L2.St) (H1 : Hp) (P : Addr) (a : List Int) (pb : Int → Bool) (g : Addr) (s5 : Shared) : Prop :=
  ∃ (fp wr : List Addr) (G : Array GenState → Array GenState → Prop) (F : Nat → Value → Prop) (St : Nat → Shared → Prop),
    WalksS X.prog X.w X.A.in1 g fp wr G a.length F St ∧ St 0 s5 ∧
    TruthOf X.prog X.w X.A.in1 F (trI pb a) ∧
    ∀ s', Moved wr G s5 s' → ∃ H2, Tabbed P H1 H2 ∧ Inv X pins σ H2 s'
theorem gen_ints {c P : Addr} {elt src : Expr} {x : Str} {px gp : Pos} {sco : Scope} {pb : Int → Bool} {te : TE} {k : Nat} {Z : Value → Shared → Prop} {R : List Int → Hp → Prop}
    (hr : Room k X.A) (TB : TabB X.base X.mg c P) (hco : X.env.code = .ref c) (S : GenS X.env sco x) (hi : PE X src te) (hel : EltI X.prog X.w X.mg sco x elt pb)
    (hs : ∀ v, genFold src X.env v = pure v) (I : Inv X pins σ H s) (h : te σ H fun v H1 => ∃ (yl : Addr) (a : List Int), v = .ref yl ∧ SqL X.K H1 yl (a.map V.int) ∧ TabG H1 P ∧ R a H1)
    (hZ : ∀ a H1 g z, R a H1 → ReadyI X pins σ H1 P a pb g z → Z (.ref g) z) :
    wpAny (model X.prog X.w) X.A (eval (.GeneratorExp elt [⟨.Name x px, src, [], 0⟩] sco gp) X.env) Z X.xe s := by
  refine wpAny_GeneratorExp_walksQ hr.hd S.co (closure_ok S.free) S.cell S.dot S.loc S.kind (by have d := hr.dp; omega) ?_ hs
  refine thn (hi.run pins s σ H _ I h) fun xv z1 ⟨v, H1, J, r1, q⟩ => ?_
  obtain ⟨yl, a, rfl, hyl, ⟨ps, hP, ht⟩, q⟩ := q
  obtain rfl : xv = Value.ref yl := r1
  obtain ⟨its, rv, hl, hz⟩ := J.list hyl
  have hIL := hl.isList
  have hlen : its.length = a.length := by rw [← rv.length, List.length_map]
  have hat : ∀ (i : Nat) (v : Value), its.toArray[i]? = some v → ∃ (n : Int) (u : Tok), a[i]? = some n ∧ v = .int n u := fun i v hv => by
    have hv2 : its[i]? = some v := by simpa using hv
    have hi2 : i < its.length := (List.getElem?_eq_some_iff.mp hv2).1
    obtain ⟨n, ha⟩ : ∃ n, a[i]? = some n := ⟨a[i]'(by omega), List.getElem?_eq_getElem _⟩
    have hb : (a.map V.int)[i]? = some (V.int n) := by rw [List.getElem?_map, ha] <;> rfl
    obtain ⟨u, hu, ru⟩ := rv.get hb
    rw [hv2] at hu
    cases hu
    obtain ⟨t, e⟩ := (show ∃ t, v = Value.int n t from ru)
    exact ⟨n, t, ha, e⟩
  refine wpAny_pyIter_list hIL ?_
  generalize ho : ({ cls := .type "list_iterator", data := .fields #[.ref yl, .int 0 0] } : Obj) = it
  have hitr : (z1.heap.push it).IsListIter z1.heap.objs.size yl 0 := by
    subst ho
    exact ⟨_, Heap.get?_push_size _ rfl, rfl, rfl⟩
  have hylt : yl < z1.heap.objs.size := by
    obtain ⟨_, e, _⟩ := _root_.id hIL
    exact Heap.lt_size e
  have gP : z1.heap.get? P = some { cls := .none, data := .fields ps } := J.hok P _ hP
  have gP2 : (z1.heap.push it).get? P = some { cls := .none, data := .fields ps } := Heap.get?_push_of_some _ gP
  have ltP : P < z1.heap.objs.size := Heap.lt_size gP
  have hd2 : PySem.W.CodeHd (z1.heap.push it) c P := TB.code.keeps fun b u e => Heap.get?_push_of_some _ (J.bk b u e)
  have nl2 : (z1.heap.push it).NoLimit := J.nolimit.push it
  have go : ∀ (code : Value) (hh : Heap) (tk : Nat) (qs : Array Value), Heap.ExtBut P (z1.heap.push it) hh → (z1.heap.push it).objs.size ≤ hh.objs.size →
      hh.get? P = some { cls := .none, data := .fields qs } → (∃ more, qs = ps ++ more) → TriplesOk qs.toList →
      wpAny (model X.prog X.w) X.A (builtinsFor X.env.globals X.env.builtins) (fun bi s₄ =>
        ∃ Ia fp wr n₀ Pf St₀ pz F, Value.ref z1.heap.objs.size = .ref Ia ∧ (∀ A' : Around, A'.handled = none → Walks X.prog X.w A' Ia fp wr n₀ Pf St₀) ∧
          St₀ 0 s₄.heap ∧ (∀ b ∈ fp, b < s₄.heap.objs.size) ∧ s₄.heap.NoLimit ∧ cStatics ∉ wr ∧
          (∀ hf : Heap, (∀ b o, s₄.heap.get? b = some o → hf.get? b = some o) →
            QuietGen X.prog X.w (genEnv sco (cloFrom X.env.cells sco.names []) s₄.heap.objs.size code bi X.env) x [] elt (List.range s₄.heap.objs.size) wr Pf pz F hf) ∧
          (∀ a h₅ tk gs, gs.bare = true → s₄.heap.objs.size < a → h₅.objs.size = a + 1 → (∀ b o, s₄.heap.get? b = some o → h₅.get? b = some o) →
            WalksS X.prog X.w X.A.in4 a (a :: s₄.heap.objs.size :: List.range s₄.heap.objs.size) (s₄.heap.objs.size :: wr) (GenOnlyQ s₄.gens.size)
              (passing pz n₀ 0).length (fun j y => ∃ i, (passing pz n₀ 0)[j]? = some i ∧ F i y)
              (GenAt X.prog X.w X.A.in4 a s₄.gens.size s₄.heap.objs.size (List.range s₄.heap.objs.size) wr pz n₀ F) →
            GenAt X.prog X.w X.A.in4 a s₄.gens.size s₄.heap.objs.size (List.range s₄.heap.objs.size) wr pz n₀ F 0 { s₄ with gens := s₄.gens.push gs, toks := tk, heap := h₅ } →
            Z (.ref a) { s₄ with gens := s₄.gens.push gs, toks := tk, heap := h₅ })) X.xe { z1 with heap := hh, toks := tk } := by
    intro code hh tk qs ex sz gq mr tq
    obtain ⟨bm, ob, b1, b2, b3, b4, b5, b6, b7, b8⟩ := TB.bm
    have neS : cStatics ≠ P := fun e => by
      obtain ⟨_, ns, _⟩ := J.nolimit
      obtain ⟨oo, es, ep, go1, gd, _⟩ := ns
      rw [e, gP] at go1
      cases go1
      cases gd
    have ltS : cStatics < z1.heap.objs.size := let ⟨_, ns, _⟩ := J.nolimit; ns.lt
    have szp : (z1.heap.push it).objs.size = z1.heap.objs.size + 1 := Heap.size_push ..
    have kp : ∀ b u, b ≠ P → z1.heap.get? b = some u → hh.get? b = some u := fun b u hb e => ex b u hb (Heap.get?_push_of_some _ e)
    have gl1 : z1.heap.Ns mainGlobals X.mg := J.mod.glob.keeps J.bk
    have glh : hh.Ns mainGlobals X.mg := (gl1.push it).extBut ex TB.gP
    refine wpAny_builtinsFor (m := X.mg) (by rw [J.ok.glob]; exact glh) b1 b2 (kp _ _ b4 (J.bk _ _ b5)) b6 b7 b8 ?_
    have hylP : yl ≠ P := fun z => by
      obtain ⟨_, e, hc1, _, hd1⟩ := _root_.id hIL
      rw [z, gP] at e
      cases e
      cases hd1
    have hIL3 : hh.IsList yl its.toArray := by
      obtain ⟨ob, e, r⟩ := _root_.id hIL
      exact ⟨ob, kp _ _ hylP e, r⟩
    have hItr3 : hh.IsListIter z1.heap.objs.size yl 0 := hitr.at fun u e => ex _ u (Nat.ne_of_gt ltP) e
    refine ⟨z1.heap.objs.size, [z1.heap.objs.size, yl], [z1.heap.objs.size], its.toArray.size, (fun i v => its.toArray[i]? = some v), (fun i h => h.IsListIter z1.heap.objs.size yl i ∧ h.IsList yl its.toArray), (fun _ => true),
      (fun i y => ∃ n : Int, a[i]? = some n ∧ y = .bool (pb n)), rfl, (fun A' hA => Walks.list hA _ _ (Nat.ne_of_lt hylt) _), ⟨hItr3, hIL3⟩, ?_, nl2.extBut ex neS, ?_, ?_, ?_⟩
    · intro b hb
      rcases List.mem_cons.mp hb with z | z
      · rw [z]
        show z1.heap.objs.size < hh.objs.size
        omega
      · rw [List.mem_singleton.mp z]
        have e9 : z1.heap.objs.size ≤ hh.objs.size := by omega
        exact Nat.lt_of_lt_of_le hylt e9
    · exact fun m => Nat.ne_of_lt ltS (List.mem_singleton.mp m)
    · intro hf keep
      refine ⟨fun A' E' i v z2 m2 _ _ _ _ _ => ?_, fun A' E' i v z2 m2 _ hv _ hn hm hk => ?_⟩
      · simp only [List.forIn_nil]
        exact wpAny_pure ⟨rfl, keeps_refl _⟩
      · obtain ⟨cc, u, hcc, rfl⟩ := hat i v hv
        have ngl : z2.heap.Ns mainGlobals X.mg := by
          have lt1 : mainGlobals < z1.heap.objs.size := gl1.lt
          obtain ⟨og, es, ep, e1, er⟩ := glh
          exact ⟨og, es, ep, hk mainGlobals (List.mem_range.mpr (Heap.lt_size e1)) (fun m => Nat.ne_of_lt lt1 (List.mem_singleton.mp m)) og (keep _ _ e1), er⟩
        exact wpAny_mono (hel _ A' E' cc u z2 m2 rfl J.ok.glob ngl hn hm) (fun y z3 r => ⟨⟨cc, hcc, r.1⟩, r.2⟩) fun _ _ e => e
    · intro g h5 tk5 gs bare lt5 sz5 k5 W5 at5
      simp only [GxR.passing_true, List.length_range] at W5
      have hn5 : its.toArray.size = a.length := by rw [List.size_toArray, hlen]
      rw [hn5] at W5 at5
      refine hZ a H1 g _ q ⟨_, _, _, _, _, W5.in4_1, at5, ?_, fun z' mv => ?_⟩
      · intro j y sj Qj Ej hy hQj
        obtain ⟨i, hij, cc, hcc, rfl⟩ := hy
        obtain ⟨lj, ej⟩ := List.getElem?_eq_some_iff.mp hij
        rw [List.getElem_range] at ej
        subst ej
        have hQ2 : Qj (trI pb a j) sj := hQj
        rw [trI_some hcc] at hQ2
        exact wpAny_truthy_bool hQ2
      · obtain ⟨more, em⟩ := mr
        have out : ∀ b u, z1.heap.get? b = some u → b ∉ hh.objs.size :: [z1.heap.objs.size] := fun b u e hb => by
          have lt := Heap.lt_size e
          rcases List.mem_cons.mp hb with y | y
          · rw [y] at lt
            have lt' : (hh.objs.size : Nat) < z1.heap.objs.size := lt
            omega
          · rw [List.mem_singleton.mp y] at lt
            exact Nat.lt_irrefl _ lt
        have J2 := inv_tab (more := more) (h' := z'.heap) (g' := z'.gens) (d' := z'.drawn) (t' := z'.toks) J hP
          (fun b u hb e => mv.heap b u (out b u e) (k5 b u (kp b u hb e)))
          (by rw [← em]; exact mv.heap P _ (out P _ gP) (k5 P _ gq))
          (AllBare.movedS (J.bare.push bare) mv)
        rw [sh_eta z1 z' mv.os] at J2
        exact ⟨upd H1 P (.tbl (ps ++ more)), ⟨⟨ps ++ more, upd_same, by rw [← em]; exact tq⟩, fun b hb => upd_ne hb⟩, J2⟩
  refine ⟨nl2, ?_⟩
  cases hf : codeAmong gp ps.toList with
  | none =>
    refine wpAny_genexprCodeX hco (hd2.code gP2 ht) (hd2.tab gP2) hf fun c' h' tk ex ge lt hc' _ tab' _ => ?_
    obtain ⟨_, _, _, _, _, _, _, _, _, _, _, _, _, _, _, _, _, _, _, tr, _⟩ := hc'
    exact go _ h' tk _ ex (Nat.le_trans ge (Nat.le_of_lt lt)) tab'.2 ⟨_, rfl⟩ tr
  | some cv =>
    refine wpAny_genexprCode_hit hco (hd2.code gP2 ht) hf ?_
    exact go cv (z1.heap.push it) z1.toks ps (Heap.ExtBut.refl _ _) (Nat.le_refl _) gP2 ⟨#[], by simp⟩ ht
def tAllI (K : PySem.W.Frag) (P : Addr) (pb : Int → Bool) (te : TE) : TE := fun σ H Q => te σ H fun v H1 => ∃ (yl : Addr) (a : List Int), v = .ref yl ∧ SqL K H1 yl (a.map V.int) ∧ TabG H1 P ∧ ∀ H2, Tabbed P H1 H2 → Q (.bl (a.all pb)) H2
theorem pe_allI {c P : Addr} {elt src : Expr} {x : Str} {px p pos gp : Pos} {sco : Scope} {pb : Int → Bool} {te : TE} {k : Nat}
    (hr : Room k X.A) (hg : Gl X "all") (hm : X.mg "all" = none) (hb : bootBuiltins "all" = some (.builtin "all")) (TB : TabB X.base X.mg c P) (hco : X.env.code = .ref c) (S : GenS X.env sco x) (hi : PE X src te) (hel : EltI X.prog X.w X.mg sco x elt pb)
    (hs : ∀ v, genFold src X.env v = pure v)
    (he : starEach [.GeneratorExp elt [⟨.Name x px, src, [], 0⟩] sco gp] X.env = (false, eval (.GeneratorExp elt [⟨.Name x px, src, [], 0⟩] sco gp) X.env) :: starEach [] X.env := by rfl) :
    PE X (.Call (.Name "all" p) [.GeneratorExp elt [⟨.Name x px, src, [], 0⟩] sco gp] [] pos) (tAllI X.K P pb te) := by
  refine ⟨fun pins z σ H Q I h => ?_⟩
  refine wpAny_Call_Name_kw (ld_blt I hg hm hb (PyProof.Rows.callWith_builtin1 ?_ he (by rfl)))
  rw [he]
  show wpAny _ _ (spliced ((false, eval (.GeneratorExp elt [⟨.Name x px, src, [], 0⟩] sco gp) X.env) :: backTo pos (starEach [] X.env))) _ _ z
  refine Calls.spliced_cons (gen_ints (R := fun a H1 => ∀ H2, Tabbed P H1 H2 → Q (.bl (a.all pb)) H2) hr TB hco S hi hel hs I h fun a H1 g z5 hR hG => ?_)
  obtain ⟨fp, wr, G, F, St, W, st0, tru, fin⟩ := hG
  refine Calls.spliced_nil (call_all_walkS (W.self 0 _ _ _ st0 ⟨g, fp, wr, G, _, F, St, _, rfl, W, st0, tru, fun z' mv => ?_⟩))
  obtain ⟨H2, tb, J⟩ := fin z' mv
  refine ⟨.bl _, H2, J, rfl, ?_⟩
  rw [all_trI a pb]
  exact hR H2 tb
end

/-! ### all(f(x) for x in a list of ints): f a def whose body is one return -/
section
open GxR
variable {X : Cx} {pins : List (Addr × Obj)} {σ : L2.St} {H : Hp} {s : Shared}
def EltD (prog : Program) (w : World) (K : PySem.W.Frag) (mg : Str → Option Value) (sco : Scope) (x : Str) (elt : Expr) (pb : Int → Bool) (D : Nat) : Prop :=
  ∀ (en : Env) (B : Around) (F : Value → Shared → Prop) (c : Int) (t : Tok) (z : Shared) (m : Str → Option Value),
    B.handled = none → B.depth ≤ D → en.scope = sco → en.globals = mainGlobals → z.heap.Ns mainGlobals mg → K.In z.heap → z.heap.NoLimit → z.heap.Ns en.locals m → m x = some (.int c t) →
    wpAny (model prog w) B (eval elt en) (fun y z' => y = .bool (pb c) ∧ Keeps z z') F z
theorem elt_call {prog : Program} {w : World} {K : PySem.W.Frag} {mg : Str → Option Value} {sco : Scope} {x fn y : Str} {f : Addr} {fd : FuncData} {st : Stmt} {e : Expr} {pb : Int → Bool} {N : List Str} {p p1 pos p4 : Pos} {D : Nat}
    (Fn : Fun K fn fn st f fd) (hg : mg fn = some (.ref f)) (hb : Binds K fd [y] []) (S : FnScope N [y] (defScope st)) (nc : ∀ q ∈ (defScope st).names, q.2 ≠ .cell) (hbd : defBody st = [.Return (some e) p4]) (hel : EltI prog w mg (defScope st) y e pb)
    (kf : sco.kind = .function) (lx : sco.names.lookup x = some .local) (lf : sco.names.lookup fn = some .globalImplicit) (ly : (defScope st).names.lookup y = some .local) (hD : D < recursionLimit)
    (dx : (x == ("__debug__" : Str)) = false := by decide) (df : (fn == ("__debug__" : Str)) = false := by decide) :
    EltD prog w K mg sco x (.Call (.Name fn p) [.Name x p1] [] pos) pb D := by
  intro en B F c t z m hh hd es eg ng kin nl nlc hm
  have kf' : en.scope.kind = .function := by rw [es]; exact kf
  refine wpAny_Call_Name_kw (Calls.Name_function_global kf' (show en.scope.names.lookup fn = some .globalImplicit by rw [es]; exact lf) (Calls.loadGlobal_global (mg := mg) (by rw [eg]; exact ng) hg ?_) df)
  refine PySem.W.callWith_K (K := K) (first := []) kin Fn.kp ?_ (by rfl) (by rfl)
  refine Calls.spliced_cons (wpAny_Name (wpAny_loadName_local kf' (show en.scope.names.lookup x = some .local by rw [es]; exact lx) nlc hm (Calls.spliced_nil ⟨kin, ?_⟩)) dx)
  refine wpAny_call ?_
  obtain ⟨oc, od, kV, doc, pm, an, cdv, ct, osl, rfl, lk, cd⟩ := Fn.ex
  refine codeAny_call_function (Nat.lt_of_le_of_lt hd hD) (kin _ _ lk) rfl S.co S.gen rfl (PySem.W.codeRec_of kin cd) (hb _ _ kin rfl _ _ _ _ ?_)
  refine wpAny_newFunctionEnv nc (fun q hq => ?_) (fun h0 hns hsb => ⟨nl.fresh _ hsb, codeAny_func ?_⟩) S.kind
  · rw [List.mem_singleton.mp hq]
    exact ly
  · have ext : ∀ b o, z.heap.get? b = some o → h0.get? b = some o := fun b o e => hsb.extBut b o (Nat.ne_of_lt (Heap.lt_size e)) (Heap.get?_push_of_some _ e)
    rw [hbd]
    refine wpAny_execs_cons (wpAny_Return_some ?_)
    refine wpAny_mono (hel _ _ _ c t _ _ rfl rfl (ng.keeps ext) hns (by simp [List.lookup])) (fun v z' r => ?_) fun _ _ q => q
    obtain ⟨rv, h1, k1, rfl, ex1⟩ := r
    exact ⟨rv, h1, k1, rfl, fun b o e => ex1 b o (ext b o e)⟩
theorem gen_intsD {c P : Addr} {elt src : Expr} {x : Str} {px gp : Pos} {sco : Scope} {pb : Int → Bool} {te : TE} {k : Nat} {Z : Value → Shared → Prop} {R : List Int → Hp → Prop}
    (hr : Room k X.A) (TB : TabB X.base X.mg c P) (hco : X.env.code = .ref c) (S : GenS X.env sco x) (hi : PE X src te) (hel : EltD X.prog X.w X.K X.mg sco x elt pb (X.A.depth + 1))
    (hs : ∀ v, genFold src X.env v = pure v) (I : Inv X pins σ H s) (h : te σ H fun v H1 => ∃ (yl : Addr) (a : List Int), v = .ref yl ∧ SqL X.K H1 yl (a.map V.int) ∧ TabG H1 P ∧ R a H1)
    (hZ : ∀ a H1 g z, R a H1 → ReadyI X pins σ H1 P a pb g z → Z (.ref g) z) :
    wpAny (model X.prog X.w) X.A (eval (.GeneratorExp elt [⟨.Name x px, src, [], 0⟩] sco gp) X.env) Z X.xe s := by
  refine wpAny_GeneratorExp_walksQD hr.hd S.co (closure_ok S.free) S.cell S.dot S.loc S.kind (by have d := hr.dp; omega) ?_ hs
  refine thn (hi.run pins s σ H _ I h) fun xv z1 ⟨v, H1, J, r1, q⟩ => ?_
  obtain ⟨yl, a, rfl, hyl, ⟨ps, hP, ht⟩, q⟩ := q
  obtain rfl : xv = Value.ref yl := r1
  obtain ⟨its, rv, hl, hz⟩ := J.list hyl
  have hIL := hl.isList
  have hlen : its.length = a.length := by rw [← rv.length, List.length_map]
  have hat : ∀ (i : Nat) (v : Value), its.toArray[i]? = some v → ∃ (n : Int) (u : Tok), a[i]? = some n ∧ v = .int n u := fun i v hv => by
    have hv2 : its[i]? = some v := by simpa using hv
    have hi2 : i < its.length := (List.getElem?_eq_some_iff.mp hv2).1
    obtain ⟨n, ha⟩ : ∃ n, a[i]? = some n := ⟨a[i]'(by omega), List.getElem?_eq_getElem _⟩
    have hb : (a.map V.int)[i]? = some (V.int n) := by rw [List.getElem?_map, ha] <;> rfl
    obtain ⟨u, hu, ru⟩ := rv.get hb
    rw [hv2] at hu
    cases hu
    obtain ⟨t, e⟩ := (show ∃ t, v = Value.int n t from ru)
    exact ⟨n, t, ha, e⟩
  refine wpAny_pyIter_list hIL ?_
  generalize ho : ({ cls := .type "list_iterator", data := .fields #[.ref yl, .int 0 0] } : Obj) = it
  have hitr : (z1.heap.push it).IsListIter z1.heap.objs.size yl 0 := by
    subst ho
    exact ⟨_, Heap.get?_push_size _ rfl, rfl, rfl⟩
  have hylt : yl < z1.heap.objs.size := by
    obtain ⟨_, e, _⟩ := _root_.id hIL
    exact Heap.lt_size e
  have gP : z1.heap.get? P = some { cls := .none, data := .fields ps } := J.hok P _ hP
  have gP2 : (z1.heap.push it).get? P = some { cls := .none, data := .fields ps } := Heap.get?_push_of_some _ gP
  have ltP : P < z1.heap.objs.size := Heap.lt_size gP
  have hd2 : PySem.W.CodeHd (z1.heap.push it) c P := TB.code.keeps fun b u e => Heap.get?_push_of_some _ (J.bk b u e)
  have nl2 : (z1.heap.push it).NoLimit := J.nolimit.push it
  have go : ∀ (code : Value) (hh : Heap) (tk : Nat) (qs : Array Value), Heap.ExtBut P (z1.heap.push it) hh → (z1.heap.push it).objs.size ≤ hh.objs.size →
      hh.get? P = some { cls := .none, data := .fields qs } → (∃ more, qs = ps ++ more) → TriplesOk qs.toList →
      wpAny (model X.prog X.w) X.A (builtinsFor X.env.globals X.env.builtins) (fun bi s₄ =>
        ∃ Ia fp wr n₀ Pf St₀ pz F, Value.ref z1.heap.objs.size = .ref Ia ∧ (∀ A' : Around, A'.handled = none → Walks X.prog X.w A' Ia fp wr n₀ Pf St₀) ∧
          St₀ 0 s₄.heap ∧ (∀ b ∈ fp, b < s₄.heap.objs.size) ∧ s₄.heap.NoLimit ∧ cStatics ∉ wr ∧
          (∀ hf : Heap, (∀ b o, s₄.heap.get? b = some o → hf.get? b = some o) →
            QuietGenD X.prog X.w (genEnv sco (cloFrom X.env.cells sco.names []) s₄.heap.objs.size code bi X.env) x [] elt (List.range s₄.heap.objs.size) wr Pf pz F hf (X.A.depth + 1) (X.A.units + 8)) ∧
          (∀ a h₅ tk gs, gs.bare = true → s₄.heap.objs.size < a → h₅.objs.size = a + 1 → (∀ b o, s₄.heap.get? b = some o → h₅.get? b = some o) →
            WalksS X.prog X.w X.A.in4 a (a :: s₄.heap.objs.size :: List.range s₄.heap.objs.size) (s₄.heap.objs.size :: wr) (GenOnlyQ s₄.gens.size)
              (passing pz n₀ 0).length (fun j y => ∃ i, (passing pz n₀ 0)[j]? = some i ∧ F i y)
              (GenAt X.prog X.w X.A.in4 a s₄.gens.size s₄.heap.objs.size (List.range s₄.heap.objs.size) wr pz n₀ F) →
            GenAt X.prog X.w X.A.in4 a s₄.gens.size s₄.heap.objs.size (List.range s₄.heap.objs.size) wr pz n₀ F 0 { s₄ with gens := s₄.gens.push gs, toks := tk, heap := h₅ } →
            Z (.ref a) { s₄ with gens := s₄.gens.push gs, toks := tk, heap := h₅ })) X.xe { z1 with heap := hh, toks := tk } := by
    intro code hh tk qs ex sz gq mr tq
    obtain ⟨bm, ob, b1, b2, b3, b4, b5, b6, b7, b8⟩ := TB.bm
    have neS : cStatics ≠ P := fun e => by
      obtain ⟨_, ns, _⟩ := J.nolimit
      obtain ⟨oo, es, ep, go1, gd, _⟩ := ns
      rw [e, gP] at go1
      cases go1
      cases gd
    have ltS : cStatics < z1.heap.objs.size := let ⟨_, ns, _⟩ := J.nolimit; ns.lt
    have szp : (z1.heap.push it).objs.size = z1.heap.objs.size + 1 := Heap.size_push ..
    have kp : ∀ b u, b ≠ P → z1.heap.get? b = some u → hh.get? b = some u := fun b u hb e => ex b u hb (Heap.get?_push_of_some _ e)
    have gl1 : z1.heap.Ns mainGlobals X.mg := J.mod.glob.keeps J.bk
    have glh : hh.Ns mainGlobals X.mg := (gl1.push it).extBut ex TB.gP
    refine wpAny_builtinsFor (m := X.mg) (by rw [J.ok.glob]; exact glh) b1 b2 (kp _ _ b4 (J.bk _ _ b5)) b6 b7 b8 ?_
    have hylP : yl ≠ P := fun z => by
      obtain ⟨_, e, hc1, _, hd1⟩ := _root_.id hIL
      rw [z, gP] at e
      cases e
      cases hd1
    have hIL3 : hh.IsList yl its.toArray := by
      obtain ⟨ob, e, r⟩ := _root_.id hIL
      exact ⟨ob, kp _ _ hylP e, r⟩
    have hItr3 : hh.IsListIter z1.heap.objs.size yl 0 := hitr.at fun u e => ex _ u (Nat.ne_of_gt ltP) e
    refine ⟨z1.heap.objs.size, [z1.heap.objs.size, yl], [z1.heap.objs.size], its.toArray.size, (fun i v => its.toArray[i]? = some v), (fun i h => h.IsListIter z1.heap.objs.size yl i ∧ h.IsList yl its.toArray), (fun _ => true),
      (fun i y => ∃ n : Int, a[i]? = some n ∧ y = .bool (pb n)), rfl, (fun A' hA => Walks.list hA _ _ (Nat.ne_of_lt hylt) _), ⟨hItr3, hIL3⟩, ?_, nl2.extBut ex neS, ?_, ?_, ?_⟩
    · intro b hb
      rcases List.mem_cons.mp hb with z | z
      · rw [z]
        show z1.heap.objs.size < hh.objs.size
        omega
      · rw [List.mem_singleton.mp z]
        have e9 : z1.heap.objs.size ≤ hh.objs.size := by omega
        exact Nat.lt_of_lt_of_le hylt e9
    · exact fun m => Nat.ne_of_lt ltS (List.mem_singleton.mp m)
    · intro hf keep
      refine ⟨fun A' E' i v z2 m2 _ _ _ _ _ _ _ => ?_, fun A' E' i v z2 m2 hhd hdp _ hv _ hn hm hk => ?_⟩
      · simp only [List.forIn_nil]
        exact wpAny_pure ⟨rfl, keeps_refl _⟩
      · obtain ⟨cc, u, hcc, rfl⟩ := hat i v hv
        have ngl : z2.heap.Ns mainGlobals X.mg := by
          have lt1 : mainGlobals < z1.heap.objs.size := gl1.lt
          obtain ⟨og, es, ep, e1, er⟩ := glh
          exact ⟨og, es, ep, hk mainGlobals (List.mem_range.mpr (Heap.lt_size e1)) (fun m => Nat.ne_of_lt lt1 (List.mem_singleton.mp m)) og (keep _ _ e1), er⟩
        have up2 : ∀ b o, b ≠ P → b < z1.heap.objs.size → z1.heap.get? b = some o → z2.heap.get? b = some o := fun b o hb hlt e =>
          hk b (List.mem_range.mpr (Heap.lt_size (kp b o hb e))) (fun m => Nat.ne_of_lt hlt (List.mem_singleton.mp m)) o (keep _ _ (kp b o hb e))
        have kin2 : X.K.In z2.heap := fun b o e => by
          have e1 := J.kIn b o e
          refine up2 b o (fun q => ?_) (Heap.lt_size e1) e1
          have bs1 := (J.bs b o (J.ok.mod.kin b o e)).2
          rw [q, hP] at bs1
          cases bs1
        have nl3 : z2.heap.NoLimit := by
          obtain ⟨mc, hns, hnn⟩ := J.nolimit
          exact ⟨mc, hns.at' fun o e => up2 cStatics o neS ltS e, hnn⟩
        exact wpAny_mono (hel _ A' E' cc u z2 m2 hhd hdp rfl J.ok.glob ngl kin2 nl3 hn hm) (fun y z3 r => ⟨⟨cc, hcc, r.1⟩, r.2⟩) fun _ _ e => e
    · intro g h5 tk5 gs bare lt5 sz5 k5 W5 at5
      simp only [GxR.passing_true, List.length_range] at W5
      have hn5 : its.toArray.size = a.length := by rw [List.size_toArray, hlen]
      rw [hn5] at W5 at5
      refine hZ a H1 g _ q ⟨_, _, _, _, _, W5.in4_1, at5, ?_, fun z' mv => ?_⟩
      · intro j y sj Qj Ej hy hQj
        obtain ⟨i, hij, cc, hcc, rfl⟩ := hy
        obtain ⟨lj, ej⟩ := List.getElem?_eq_some_iff.mp hij
        rw [List.getElem_range] at ej
        subst ej
        have hQ2 : Qj (trI pb a j) sj := hQj
        rw [trI_some hcc] at hQ2
        exact wpAny_truthy_bool hQ2
      · obtain ⟨more, em⟩ := mr
        have out : ∀ b u, z1.heap.get? b = some u → b ∉ hh.objs.size :: [z1.heap.objs.size] := fun b u e hb => by
          have lt := Heap.lt_size e
          rcases List.mem_cons.mp hb with y | y
          · rw [y] at lt
            have lt' : (hh.objs.size : Nat) < z1.heap.objs.size := lt
            omega
          · rw [List.mem_singleton.mp y] at lt
            exact Nat.lt_irrefl _ lt
        have J2 := inv_tab (more := more) (h' := z'.heap) (g' := z'.gens) (d' := z'.drawn) (t' := z'.toks) J hP
          (fun b u hb e => mv.heap b u (out b u e) (k5 b u (kp b u hb e)))
          (by rw [← em]; exact mv.heap P _ (out P _ gP) (k5 P _ gq))
          (AllBare.movedS (J.bare.push bare) mv)
        rw [sh_eta z1 z' mv.os] at J2
        exact ⟨upd H1 P (.tbl (ps ++ more)), ⟨⟨ps ++ more, upd_same, by rw [← em]; exact tq⟩, fun b hb => upd_ne hb⟩, J2⟩
  refine ⟨nl2, ?_⟩
  cases hf : codeAmong gp ps.toList with
  | none =>
    refine wpAny_genexprCodeX hco (hd2.code gP2 ht) (hd2.tab gP2) hf fun c' h' tk ex ge lt hc' _ tab' _ => ?_
    obtain ⟨_, _, _, _, _, _, _, _, _, _, _, _, _, _, _, _, _, _, _, tr, _⟩ := hc'
    exact go _ h' tk _ ex (Nat.le_trans ge (Nat.le_of_lt lt)) tab'.2 ⟨_, rfl⟩ tr
  | some cv =>
    refine wpAny_genexprCode_hit hco (hd2.code gP2 ht) hf ?_
    exact go cv (z1.heap.push it) z1.toks ps (Heap.ExtBut.refl _ _) (Nat.le_refl _) gP2 ⟨#[], by simp⟩ ht
theorem pe_allD {c P : Addr} {elt src : Expr} {x : Str} {px p pos gp : Pos} {sco : Scope} {pb : Int → Bool} {te : TE} {k : Nat}
    (hr : Room k X.A) (hg : Gl X "all") (hm : X.mg "all" = none) (hb : bootBuiltins "all" = some (.builtin "all")) (TB : TabB X.base X.mg c P) (hco : X.env.code = .ref c) (S : GenS X.env sco x) (hi : PE X src te) (hel : EltD X.prog X.w X.K X.mg sco x elt pb (X.A.depth + 1))
    (hs : ∀ v, genFold src X.env v = pure v)
    (he : starEach [.GeneratorExp elt [⟨.Name x px, src, [], 0⟩] sco gp] X.env = (false, eval (.GeneratorExp elt [⟨.Name x px, src, [], 0⟩] sco gp) X.env) :: starEach [] X.env := by rfl) :
    PE X (.Call (.Name "all" p) [.GeneratorExp elt [⟨.Name x px, src, [], 0⟩] sco gp] [] pos) (tAllI X.K P pb te) := by
  refine ⟨fun pins z σ H Q I h => ?_⟩
  refine wpAny_Call_Name_kw (ld_blt I hg hm hb (PyProof.Rows.callWith_builtin1 ?_ he (by rfl)))
  rw [he]
  show wpAny _ _ (spliced ((false, eval (.GeneratorExp elt [⟨.Name x px, src, [], 0⟩] sco gp) X.env) :: backTo pos (starEach [] X.env))) _ _ z
  refine Calls.spliced_cons (gen_intsD (R := fun a H1 => ∀ H2, Tabbed P H1 H2 → Q (.bl (a.all pb)) H2) hr TB hco S hi hel hs I h fun a H1 g z5 hR hG => ?_)
  obtain ⟨fp, wr, G, F, St, W, st0, tru, fin⟩ := hG
  refine Calls.spliced_nil (call_all_walkS (W.self 0 _ _ _ st0 ⟨g, fp, wr, G, _, F, St, _, rfl, W, st0, tru, fun z' mv => ?_⟩))
  obtain ⟨H2, tb, J⟩ := fin z' mv
  refine ⟨.bl _, H2, J, rfl, ?_⟩
  rw [all_trI a pb]
  exact hR H2 tb
end

/-! ### a def whose code object is known, a method that may raise in a try, the end with a table -/
structure FunC (K : PySem.W.Frag) (x qual : Str) (st : Stmt) (f : Addr) (fd : FuncData) (c : Addr) : Prop where
  ex : ∃ (oc : Value) (od : Option Addr) (kV doc pm : Value) (an : Option Addr) (ct : Value) (osl : Array (Option Value)),
    fd = PySem.W.fnOf x qual (defArgs st) (defBody st) (defScope st) .none kV doc pm an (.ref c) ct ∧ K.lookup f = some ⟨oc, od, .func fd, osl⟩ ∧ PySem.W.codeIn K (.ref c) qual = true
theorem FunC.ok {P : Program} {w : World} {K : PySem.W.Frag} {mg : Str → Option Value} {base : Heap} {x qual : Str} {st : Stmt} {f c : Addr} {fd : FuncData} {N ps : List Str} {k : Nat} {sp : Sp} (F : FunC K x qual st f fd c) (S : FnScope N ps (defScope st)) (len : ∀ vs H Q E, sp vs H Q E → vs.length = ps.length)
    (body : ∀ (A : Around) (outer : List Env) (s : Shared) (H : Hp) (vs : List V) (Q : VK) (E : XK), Room k (A.deeper (envOfC qual (defScope st) s.heap.objs.size f (.ref c))) → sp vs H Q E →
      ∃ t, PSs (cxOf CX0 P w K mg base N qual (defScope st) f (.ref c) A outer s H E).nox (defBody st) t ∧ t { nx := fun _ H' => Q .non H', rt := Q } (start N vs) H) : FnOk P w K mg base CX0 (k + 1) f fd ps sp := by
  obtain ⟨oc, od, kV, doc, pm, an, ct, osl, rfl, lk, cd⟩ := F.ex
  refine fn_of lk cd S len fun A outer s H vs Q E hr hs => ?_
  obtain ⟨t, h, q⟩ := body A outer s H vs Q E hr hs
  exact ⟨t, h.nox, q⟩
theorem noFree {names : List (Str × NameKind)} {cells : List (Str × Addr)} (h : names.all (fun y => decide (y.2 ≠ .free)) = true) : ∀ y ∈ names, y.2 = .free → ∃ c, cells.lookup y.1 = some c := fun y hy e =>
  absurd e (of_decide_eq_true (List.all_eq_true.mp h y hy))
theorem noCell {names : List (Str × NameKind)} (h : names.all (fun y => decide (y.2 ≠ .cell)) = true) : ∀ y ∈ names, y.2 ≠ .cell := fun y hy => of_decide_eq_true (List.all_eq_true.mp h y hy)
section
variable {X : Cx} {CX : CXT} {k : Nat} {C f : Addr} {fd : FuncData} {ps : List Str} {sp : Sp} {m : Str} {o e : Expr} {es : List Expr} {ta : TE} {t : TA} {E : L2.St → XK} {apos pos : Pos}
def tMethE (C : Addr) (m : Str) (sp : Sp) (E : L2.St → XK) (ta : TE) (t : TA) : TE := fun σ H Q => ta σ H fun x H1 => ∃ a dx fs, x = .ref a ∧ H1 a = some (.ins C dx fs) ∧ fs.lookup m = none ∧ t σ H1 fun vs H2 => sp (.ref a :: vs) H2 Q (E σ)
theorem pe_methE {pl : Sem Bool} (he : PE X o ta) (c : Cls X.K C) (hm : Meth X.K C m f) (F : FnOk X.prog X.w X.K X.mg X.base CX k f fd ps sp) (hr : Room k X.A) (hb : Binds X.K fd ps []) (hx : ∀ σ, PassesAt CX X σ (E σ)) (ha : PA X (e :: es) t)
    (s1 : starEach (e :: es) X.env = (false, eval e X.env) :: starEach es X.env := by rfl) (s2 : (backTo pos (starEach es X.env)).any (·.1) = false := by rfl)
    (ht : eval (.Call (.Attribute o m apos) (e :: es) [] pos) X.env = (do
      let v ← eval o X.env
      standAt apos.atName
      let (g, fst) ← holding [v] (getMethod v m pl)
      callWith pos g fst (backTo pos (starEach (e :: es) X.env)) (backToKw pos (keywordEach [] X.env))) := by rfl) :
    PE X (.Call (.Attribute o m apos) (e :: es) [] pos) (tMethE C m sp E ta t) := by
  refine ⟨fun pins z σ H Q I h => ?_⟩
  refine PySem.W.methodCall_KW (pl := pl) (thn (he.run pins z σ H _ I h) fun u z1 ⟨x, H1, J, rx, a, dx, fs, ex, ea, l, q⟩ => ?_) ht
  subst ex
  obtain rfl : u = Value.ref a := rx
  refine getmeth_ok J ea c hm l ?_
  refine PySem.W.callWith_K (first := [.ref a]) (h₀ := X.base) I.ok.mod.kin hm.kp (thn (ha.run pos pins z1 σ H1 _ J q) fun us z2 ⟨vs, H2, J2, r, q2⟩ => ⟨J2.kIn, ?_⟩) s1 s2
  exact run_fnS (us := .ref a :: us) (vs := .ref a :: vs) F hr hb (hx σ) J2 (.cons rfl r) q2
end
theorem walk_tab {l : PySem.W.OpenLaw} {n k : Nat} {q : Program} {loose : List Str} {XP : (Str → Option Value) → Heap → Prop} {YP : World → Heap → Prop} {d : DefRec} {K : Params → PySem.W.Frag} {CX : World → CXT} {x : Str} (nms : List Str)
    (hn : l.most = some n) (hz : n ≤ sizeLine) (hdf : d.params.defaults = []) (hr : Room k callerA) (hrec : nms.all (fun y => (recsOf q).any fun e => e.name == y) = true) (hY : ∀ (w : World) (h : Heap), YP w h → (K w.params).In h)
    (F : ∀ (w : World) (mg : Str → Option Value) (fa : Addr) (h : Heap), (K w.params).In h → h.Ns mainGlobals mg → mg d.name = some (.ref fa) → (∀ y ∈ nms, ∀ f, mg y = some (.ref f) → LamX.OwnTab (K w.params) f h) → LamX.LawAtS l w (K w.params) (CX w) k n x mg fa h)
    (hCX : ∀ (w : World) (H : Hp) (s : Shared) (e : Value) (s' : Shared), CX w [] H s (fun _ _ _ => False) e s' → False) :
    PySem.W.WalkO q loose XP YP l.row.toRowW d [] (fun f vs => PySem.call f vs) := by
  refine Att.attach_callB hn hdf fun w s0 s1 mg mb fa o pm cd doc a vs ns G Y ho hd hcd hmg hob hin hlen hbits hg => ?_
  have KX := hY w _ Y
  have own : ∀ y ∈ nms, ∀ f, mg y = some (.ref f) → LamX.OwnTab (K w.params) f s1.heap := fun y hy f hf c P o1 fd1 e dd us sl k1 k2 k3 k4 k5 => by
    obtain ⟨dl, hm, he⟩ := List.any_eq_true.mp (List.all_eq_true.mp hrec y hy)
    have en : dl.name = y := beq_iff_eq.mp he
    obtain ⟨a', o', fd', c', P', t1, t2, t3, t4, t5, t6⟩ := G.T.tab dl hm
    rw [en, hf] at t1
    cases t1
    rw [KX _ _ k1] at t2
    cases t2
    rw [k2] at t3
    cases t3
    rw [k3] at t4
    cases t4
    obtain ⟨⟨oc, vc, u1, _, u3, u4⟩, hP⟩ := t6
    rw [KX _ _ k4] at u1
    cases u1
    cases u3
    rw [k5] at u4
    cases u4
    exact hP
  obtain ⟨fd, cs, sp, hT, nT, C, hb, hsp, hF⟩ := F w mg fa _ KX G.T.g hmg own
  exact LamX.law_callTs KX G.T.g G.T.b G.T.builtins G.T.nolimit hg hT nT C G.T.bmain hob hin (Nat.le_trans hlen hz) hr hF hb (fun H hH hS => hsp H a ns hlen hbits hH hS) fun H e s' => hCX w H s1 e s'
theorem codeHd_mk {K : PySem.W.Frag} {h : Heap} {c P : Addr} {dd : Option Addr} {vs : Array Value} {sl : Array (Option Value)} {fl : Str} {tf tg tt : Tok} {fg tx : Int} {b : Bool} (X : K.In h) (l : K.lookup c = some ⟨.type "code", dd, .fields vs, sl⟩) (h11 : vs[11]? = some (.ref P)) (h18 : vs.getD 18 .none = .str fl tf)
    (h7 : vs.getD 7 .none = .int fg tg) (h9 : vs.getD 9 .none = .bool b) (h10 : vs.getD 10 .none = .int tx tt) (ne : c ≠ P) : PySem.W.CodeHd h c P :=
  ⟨_, vs, fl, tf, fg, tg, b, tx, tt, X _ _ l, rfl, rfl, h11, by rw [Array.getD_eq_getD_getElem?, h11]; rfl, h18, h7, h9, h10, ne⟩

/-! ### a large top whose defs' tables are known -/
def obsBT (as : List Addr) (F : FactsB) (fn : List He.DefD) (tf : List He.Defn) (g : Addr → Option Obj) : Bool × List He.FnW := ((F.ok (He.frT g as) && fn.all (fun d => d.ok (He.frT g as))) && He.tabsB g tf (He.frT g as), fn.map fun d => He.fnW (He.frT g as) d.at_)
structure SaysBT (F : FactsB) (fn : List He.DefD) (tf : List He.Defn) (h : Heap) (K : PySem.W.Frag) : Prop where
  b : SaysB F fn K
  hd : ∀ p ∈ tf, PySem.W.codeHdIn K (He.cT K p).1 (He.cT K p).2 = true
  out : ∀ p ∈ tf, K.lookup (He.cT K p).2 = none
  empty : ∀ p ∈ tf, h.get? (He.cT K p).2 = some { cls := .none, data := .fields #[] }
theorem saysBT_of {as : List Addr} {F : FactsB} {fn : List He.DefD} {tf : List He.Defn} {h : Heap} (e : obsBT as F fn tf h.get? = (true, fn.map He.DefD.val)) : SaysBT F fn tf h (He.frT h.get? as) := by
  have e1 : ((F.ok (He.frT h.get? as) && fn.all (fun d => d.ok (He.frT h.get? as))) && He.tabsB h.get? tf (He.frT h.get? as)) = true := congrArg (fun z : Bool × List He.FnW => z.1) e
  have e2 : fn.map (fun d => He.fnW (He.frT h.get? as) d.at_) = fn.map He.DefD.val := congrArg (fun z : Bool × List He.FnW => z.2) e
  obtain ⟨h0, h3⟩ := He.ba e1
  obtain ⟨h1, h2⟩ := He.ba h0
  have key : ∀ p ∈ tf, PySem.W.codeHdIn (He.frT h.get? as) (He.cT (He.frT h.get? as) p).1 (He.cT (He.frT h.get? as) p).2 = true ∧ ∃ o, h.get? (He.cT (He.frT h.get? as) p).2 = some o ∧ He.emptyTab o = true := fun p hp => by
    obtain ⟨h4, h5⟩ := He.ba (List.all_eq_true.mp h3 p hp)
    refine ⟨h4, ?_⟩
    cases q : h.get? (He.cT (He.frT h.get? as) p).2 with
    | none =>
      rw [q] at h5
      cases h5
    | some o =>
      rw [q] at h5
      exact ⟨o, rfl, h5⟩
  exact ⟨⟨h1, fun d hd => ⟨List.all_eq_true.mp h2 d hd, map_eq_of e2 d hd⟩⟩, fun p hp => (key p hp).1, fun p hp => by
    obtain ⟨_, o, q, z⟩ := key p hp
    exact He.frT_none q z, fun p hp => by
    obtain ⟨_, o, q, z⟩ := key p hp
    rw [q, He.emptyTab_eq z]⟩
def hookBT (as : List Addr) (F : FactsB) (fn : List He.DefD) (tf : List He.Defn) : PySem.W.Hook where
  α := Bool × List He.FnW
  obs := fun s => obsBT as F fn tf s.heap.get?
  val := fun _ => (true, fn.map He.DefD.val)
  says := fun _ h => ∃ K : PySem.W.Frag, K.In h ∧ SaysBT F fn tf h K
  of := fun _ _ e => ⟨_, He.frT_in, saysBT_of e⟩
  keeps := fun _ _ _ ⟨K, hK, c⟩ k => ⟨K, PySem.W.Frag.In.keeps hK k, ⟨c.b, c.hd, c.out, fun p hp => k _ _ (c.empty p hp)⟩⟩
theorem obsBT_eq {as : List Addr} {F : FactsB} {fn : List He.DefD} {tf : List He.Defn} {g : Addr → Option Obj} {s : Shared} (h : ∀ a, g a = s.heap.get? a) : obsBT as F fn tf g = (hookBT as F fn tf).obs s := by
  have e : g = s.heap.get? := funext h
  rw [e] <;> rfl
theorem funC_of {K : PySem.W.Frag} {x q : Str} {st : Stmt} {p : He.Defn} {fd : FuncData} (F : Fun K x q st (He.fAd K p) fd) : FunC K x q st (He.fAd K p) fd (He.codeOf K p) := by
  obtain ⟨oc, od, kV, doc, pm, an, cdv, ct, osl, rfl, lk, hcd⟩ := F.ex
  obtain ⟨c, rfl⟩ := He.codeIn_ref hcd
  have e := He.codeOf_eq lk rfl
  rw [e]
  exact ⟨oc, od, kV, doc, pm, an, ct, osl, rfl, lk, hcd⟩

theorem FunC.okX {P : Program} {w : World} {K : PySem.W.Frag} {mg : Str → Option Value} {base : Heap} {x qual : Str} {st : Stmt} {f c : Addr} {fd : FuncData} {N ps : List Str} {k : Nat} {sp : Sp} (F : FunC K x qual st f fd c) (S : FnScope N ps (defScope st)) (len : ∀ vs H Q E, sp vs H Q E → vs.length = ps.length)
    (body : ∀ (A : Around) (outer : List Env) (s : Shared) (H : Hp) (vs : List V) (Q : VK) (E : XK), Room k (A.deeper (envOfC qual (defScope st) s.heap.objs.size f (.ref c))) → sp vs H Q E →
      ∃ t, PSs (cxOf (L2.CX P w) P w K mg base N qual (defScope st) f (.ref c) A outer s H E) (defBody st) t ∧ t { nx := fun _ H' => Q .non H', rt := Q } (start N vs) H) : FnOk P w K mg base (L2.CX P w) (k + 1) f fd ps sp := by
  obtain ⟨oc, od, kV, doc, pm, an, ct, osl, rfl, lk, cd⟩ := F.ex
  exact fn_of lk cd S len fun A outer s H vs Q E hr hs => body A outer s H vs Q E hr hs

/-! ### sorted of data: a list of tuples of one shape -/
def sortD (ds : List PyData) : List PyData := ds.mergeSort (PySem.W.dataLe false id)
theorem each_of {K : PySem.W.Frag} {H : Hp} : ∀ {xs : List V} {us : List Value} {ds : List PyData}, Vals xs us → DpAll K H xs ds → PySem.W.EachIs (fun v d => ∃ x, RelV x v ∧ Dp K H x d) us ds
  | [], _, _, r, h => by
    cases r
    cases h
    exact .nil
  | x :: xs, _, _, r, h => by
    cases r with
    | cons r1 r2 =>
      cases h with
      | cons h1 h2 => exact .cons ⟨x, r1, h1⟩ (each_of r2 h2)
theorem each_back {K : PySem.W.Frag} {H : Hp} : ∀ {us : List Value} {ds : List PyData}, PySem.W.EachIs (fun v d => ∃ x, RelV x v ∧ Dp K H x d) us ds → ∃ ys, Vals ys us ∧ DpAll K H ys ds
  | _, _, .nil => ⟨[], .nil, .nil⟩
  | _, _, .cons ⟨x, r, h⟩ t => by
    obtain ⟨ys, a, b⟩ := each_back t
    exact ⟨x :: ys, .cons r a, .cons h b⟩
def rSortedD (K : PySem.W.Frag) : List V → Hp → VK → Prop := fun vs H Q => ∃ (a : Addr) (xs : List V) (ds : List PyData), vs = [V.ref a] ∧ SqL K H a xs ∧ DpAll K H xs ds ∧ PySem.W.AllAlike ds ∧ PySem.W.Sortable ds ∧ (∀ d ∈ ds, d.depth ≤ 60) ∧
  ∀ ys p, DpAll K H ys (sortD ds) → H p = none → Q (.ref p) (upd H p (.lst ys))
section
variable {X : Cx}
theorem cr_sortedD (hu : X.A.units + 65 < cLine) : CallR X (.builtin "sorted") (rSortedD X.K) := by
  intro pins s σ H vs us Q I r h
  obtain ⟨a, xs, ds, rfl, hs, hd, hal, hsb, hdp, q⟩ := h
  obtain ⟨its, rv, hl, hz⟩ := I.list hs
  obtain ⟨u, rfl, ru⟩ := vals1 r
  obtain rfl : u = Value.ref a := ru
  have e := each_of rv hd
  have er : PySem.W.EachIs (fun v d => ∃ as, Reads s.heap v (id d) as) its ds := e.mono fun v d ⟨x, r, h⟩ => Dp.reads I d x v h r
  have hlen : ds.length ≤ sizeLine := by rw [← DpAll.len hd]; exact hz
  refine PySem.W.sorted_data (enc := id) (bs := ds) hl.isList e er (by rw [List.map_id]; exact hal) (by rw [List.map_id]; exact hsb) hlen (fun d m => ?_) fun out ho eo => ?_
  · have z := hdp d m
    show X.A.units + 2 + d.depth < cLine
    omega
  · obtain ⟨ys, v1, v2⟩ := each_back eo
    obtain ⟨n, hn⟩ := sortedAll_at s.heap its out.toArray
    refine ⟨.ref (s.heap.objs.size + 1), upd H (s.heap.objs.size + 1) (.lst ys), I.laid (t' := s.toks) (fun b o e => sortedAll_old e) (Nat.le_succ _) ⟨?_, out, n, v1, hn⟩, rfl, q ys _ v2 (I.hok.fresh (Nat.le_succ _))⟩
    rw [v1.length, ho]
    exact hlen
end
theorem hu65 {A : Around} {k : Nat} (hr : Room k A) : A.units + 65 < cLine := by
  have z := hr.un
  omega
theorem op_notInDK {X : Cx} (K : PySem.W.Frag) (h : X.K = K) (hu : X.A.units + 65 < cLine) : OpR X (compareOp .NotIn) (rNotInD K) := h ▸ op_notInD hu

/-! ### d.items() of a locked dict whose keys are tuples -/
theorem raw_pairs {X : Cx} {pins : List (Addr × Obj)} {σ : L2.St} {H : Hp} {s : Shared} {d : Addr} {o : Obj} {kvs : List (List Key × V)} (I : Inv X pins σ H s) (h : H d = some (.frz o (.dT kvs))) :
    (d == sysModules) = false ∧ ∃ (es : Array DictEntry) (ep : Nat), o.data = .dict es ep ∧ s.heap.DictRaw d es ep ∧ es.size = kvs.length ∧
      ∀ (i : Nat) (hi : i < es.size) (k : List Key) (v : V), kvs[i]? = some (k, v) → ∃ q : Addr, es[i].key = .ref q ∧ H q = some (.tup (k.map kV)) ∧ RelV v es[i].val := by
  obtain ⟨g0, _, g1, xs, pr, o1, es, ep, g2, g3, g4, g5, _⟩ := I.hok d _ h
  have eo : o = o1 := Option.some.inj (g0.symm.trans g2)
  subst eo
  have hn : es.size = xs.length := by
    have z := congrArg List.length g5
    rw [List.length_map, Array.length_toList] at z
    exact z
  refine ⟨g1, es, ep, g4, ⟨o, g2, g3, g4⟩, by rw [hn]; exact (Paired.length pr).symm, fun i hi k v hk => ?_⟩
  obtain ⟨b, hb, b1, b2, b3⟩ := L2.paired_get pr hk
  have hl : es.toList[i]? = some (entryOfKey (tupleKind (mixKind X.prog X.w)) b) := by
    rw [g5, List.getElem?_map, hb]
    rfl
  have hv : es[i] = entryOfKey (tupleKind (mixKind X.prog X.w)) b := by
    rw [Array.getElem?_toList, Array.getElem?_eq_getElem hi] at hl
    exact Option.some.inj hl
  rw [hv]
  exact ⟨b.2.1, rfl, b2, b3⟩
def Itit (d : Addr) (o : Obj) (kvs : List (List Key × V)) : It where
  go := fun i H => H d = some (.frz o (.dT kvs)) ∧ i < kvs.length
  yld := fun i H x H' => ∃ (T q : Addr) (k : List Key) (v : V), kvs[i]? = some (k, v) ∧ x = .ref T ∧ H T = none ∧ H q = some (.tup (k.map kV)) ∧ H' = upd H T (.tup [.ref q, v])
  stop := fun i H => H d = some (.frz o (.dT kvs)) ∧ kvs.length ≤ i
/-- where the iterator stands: behind i of n entries -/
def ItAt (d it : Addr) (n ep i : Nat) (h : Heap) : Prop := ∃ ok ov, IsItemIter h it d i n ep ok ov
theorem turn_pairs {P : Program} {w : World} {K : PySem.W.Frag} {d : Addr} {o : Obj} {es : Array DictEntry} {ep : Nat} {kvs : List (List Key × V)} {elts : List Expr} {c : Nat} {pos : Pos} (it : Addr) (hod : o.data = .dict es ep) :
    Turn P w K (.Tuple elts c pos) (Itit d o kvs) [it] it (ItAt d it kvs.length ep) := by
  have one : ∀ b : Addr, b ∈ [it] → b = it := fun b hb => List.mem_singleton.mp hb
  refine ⟨List.mem_singleton.mpr rfl, fun i h st b hb => ?_, fun i h h' st k => ?_, ?_, ?_, fun A i s Q E st h => ?_⟩
  · obtain ⟨ok, ov, e⟩ := st
    rw [one b hb]
    exact ⟨_, e, fun v z => by cases z⟩
  · obtain ⟨ok, ov, e⟩ := st
    exact ⟨ok, ov, k it (List.mem_singleton.mpr rfl) _ e⟩
  · intro X hP hw hK hc i pins s σ H E I hf st hg
    subst hP hw hK
    obtain ⟨hd, hi⟩ := hg
    obtain ⟨hs, es2, ep2, hd2, hraw, hsz, hat⟩ := raw_pairs I hd
    rw [hod] at hd2
    cases hd2
    obtain ⟨k, v, hkv⟩ : ∃ k v, kvs[i]? = some (k, v) := ⟨_, _, List.getElem?_eq_getElem hi⟩
    have hie : i < es.size := by rw [hsz]; exact hi
    obtain ⟨q, key, hq, hv⟩ := hat i hie k v hkv
    obtain ⟨ok, ov, he⟩ := st
    rw [← hsz] at he
    have hlt := Heap.lt_size he
    refine wpAny_pyNext_items_item_raw he hraw hie fun h1 out tup sz kept => ⟨_, rfl, ?_⟩
    refine wpAny_letOwnedTupleGo_items (s := { s with heap := h1 }) out fun h2 at2 sb => ?_
    have tup2 := (sb.2 _ (Nat.ne_of_gt hlt)).trans tup
    have okn : ObjOk X.prog X.w (upd H s.heap.objs.size (.tup [.ref q, v])) h2 s.heap.objs.size (.tup [.ref q, v]) :=
      ⟨szl (by show 2 ≤ 100000; decide), [es[i].key, es[i].val], .cons (by rw [key]; rfl) (.cons hv .nil), ⟨_, tup2, rfl, _, rfl⟩⟩
    have I2 := I.turnedNew (t' := s.toks) (ch := [it]) (fun b ob hb e => (sb.2 b fun z => hb (by rw [z]; exact List.mem_singleton.mpr rfl)).trans (kept b ob (fun z => hb (by rw [z]; exact List.mem_singleton.mpr rfl)) e)) hf (Nat.le_refl _) okn
    refine ⟨.ref s.heap.objs.size, _, I2, rfl, ⟨_, q, k, v, hkv, rfl, I.hok.fresh (Nat.le_refl _), hq, rfl⟩, ⟨_, _, by rw [← hsz]; exact at2⟩, fun b hb => ?_⟩
    rw [one b hb, upd_ne (Nat.ne_of_lt hlt)]
    exact (hf it (List.mem_singleton.mpr rfl)).1
  · intro X hP hw hK hc i pins s σ H E I hf st hg
    subst hP hw hK
    obtain ⟨hd, hi⟩ := hg
    obtain ⟨hs, es2, ep2, hd2, hraw, hsz, hat⟩ := raw_pairs I hd
    rw [hod] at hd2
    cases hd2
    obtain ⟨f0, f1, f2, f3, f4, f5⟩ := hf it (List.mem_singleton.mpr rfl)
    obtain ⟨ok, ov, he⟩ := st
    rw [← hsz] at he
    exact wpAny_pyNext_items_end_raw (I.ok.hd hc) he hraw (by rw [hsz]; exact hi) fun h1 eb => ⟨rfl, I.turned (t' := s.toks) (fun b ob hb e => eb b ob hb e) f0 f1 f3 f4 f5⟩
  · obtain ⟨_, _, e⟩ := st
    exact wpAny_pyIter_itemiter e h
def iPairs (td : TE) : TI := fun σ H R => td σ H fun x H1 => ∃ (d : Addr) (o : Obj) (kvs : List (List Key × V)), x = .ref d ∧ H1 d = some (.frz o (.dT kvs)) ∧ R (Itit d o kvs) H1
theorem pi_pairs {X : Cx} {e : Expr} {td : TE} {apos cpos : Pos} {elts : List Expr} {c : Nat} {pos : Pos} (he : PE X e td) (hbase : attributeBase e "items" X.env (eval e X.env) = eval e X.env := by rfl) (hl : (apos.endLine == cpos.line) = true := by rfl) :
    PI X (.Tuple elts c pos) (.Call (.Attribute e "items" apos) [] [] cpos) (iPairs td) := by
  refine ⟨fun pins s σ H R I h => wpAny_Call_method (T := "dict") (id := "dict.items") hbase rfl hl F.plainAttrs_dict F.slot_dict_items F.type_dict_items (thn (he.run pins s σ H _ I h) fun u s1 z => ?_)⟩
  obtain ⟨x, H1, I1, rx, d, o, kvs, rfl, hd, q⟩ := z
  obtain rfl : u = Value.ref d := rx
  obtain ⟨hs, es, ep, hod, hraw, hsz, _⟩ := raw_pairs I1 hd
  have hraw0 := hraw
  obtain ⟨ob, b1, b2, b3⟩ := hraw0
  have I2 : Inv X pins σ H1 { s1 with heap := s1.heap.push { cls := .type "dict_items", data := .fields #[.ref d] } } := I1.kept (t' := s1.toks) fun _ _ g => Heap.get?_push_of_some _ g
  have fin : wpAny (model X.prog X.w) X.A (pyIter (.ref s1.heap.objs.size)) (PIE X pins σ (.Tuple elts c pos) R) X.xe { s1 with heap := s1.heap.push { cls := .type "dict_items", data := .fields #[.ref d] } } := by
    refine wpAny_pyIter_items_raw (d := d) (es := es) (ep := ep) ⟨_, Heap.get?_push_size _ rfl, rfl, rfl⟩ (hraw.at fun _ g => Heap.get?_push_of_some _ g) (pi_one (tk := s1.toks) I2 _ (turn_pairs _ hod) ⟨.none, .none, ?_⟩ q)
    rw [← hsz]
    exact Heap.get?_push_size _ rfl
  refine ⟨hraw.typeIs, ?_, ?_⟩
  · intro a2 e2
    cases e2
    exact ⟨ob, b1, b2.2.1⟩
  · show wpAny _ _ (callWith cpos (.builtin "dict.items") [.ref d] [] []) _ X.xe s1
    exact method_meetsIn F.slot_dict_items F.entry_dict_items rfl (PySem.evalArgs_none ⟨rfl, hraw.typeIs, F.args_dict_items_1 _, _, meets_dict_items_raw d hs, ⟨es, ep, hraw⟩, fin⟩)
theorem walk_pairs {d : Addr} {o : Obj} {kvs : List (List Key × V)} : Walk (Itit d o kvs) kvs.length (fun H => H d = some (.frz o (.dT kvs))) (fun i H x H' => ∃ (T q : Addr) (k : List Key) (v : V), kvs[i]? = some (k, v) ∧ x = .ref T ∧ H T = none ∧ H q = some (.tup (k.map kV)) ∧ H' = upd H T (.tup [.ref q, v])) := by
  constructor
  · exact fun i H hi g => And.intro g hi
  · exact fun H g => And.intro g (Nat.le_refl _)
  · exact fun i H x H' hi g y => y

/-! ### del d[k] of a dict whose keys are tuples -/
theorem KT.drop {H : Hp} {kvs : List (List Key × V)} {xs : List (List Key × Addr × Value)} (r : KT H kvs xs) (k : List Key) : KT H (dropK kvs k) (withoutH xs k) := by
  unfold dropK withoutH
  induction r with
  | nil => exact .nil
  | @cons p q ps qs h t ih =>
    obtain ⟨h1, h2, h3⟩ := h
    by_cases e : p.1 = k
    · have e' : q.1 = k := h1.symm.trans e
      rw [List.filter_cons_of_neg (by simp [e]), List.filter_cons_of_neg (by simp [e'])]
      exact ih
    · have e' : ¬ q.1 = k := fun z => e (h1.trans z)
      rw [List.filter_cons_of_pos (by simp [e]), List.filter_cons_of_pos (by simp [e'])]
      exact .cons ⟨h1, h2, h3⟩ ih
section
variable {X : Cx} {pins : List (Addr × Obj)} {σ : L2.St} {H : Hp} {s : Shared} {a b : Addr} {kvs : List (List Key × V)} {k : List Key} {A : Around} {E : Value → Shared → Prop}
theorem d_delItemT {Q : Unit → Shared → Prop} (hu : A.units + 1 < cLine) (I : Inv X pins σ H s) (e : H a = some (.dT kvs)) (eb : H b = some (.tup (k.map kV))) (l : (valV kvs k).isSome = true) (h : ∀ s', Inv X pins σ (upd H a (.dT (dropK kvs k))) s' → Q () s') :
    wpAny (model X.prog X.w) A (delItem (.ref a) (.ref b)) Q E s := by
  obtain ⟨z, hd, xs, rel, dd⟩ := dt_of I.hok e
  have hz : xs.length ≤ sizeLine := by rw [← Paired.length rel]; exact z
  have hl : (dropK kvs k).length ≤ sizeLine := Nat.le_trans (dropK_le kvs k) z
  obtain ⟨p, hp⟩ : ∃ p, atKey xs k = some p := by
    have q := (rel.val k).isSome_eq
    rw [l, Option.isSome_map] at q
    exact Option.isSome_iff_exists.mp q.symm
  refine wpAny_delItem_heap (hsz := hz) (tupleKind_room_in1 hu) (key_of I.hok eb) hd dd hp fun h' dd' hs => h _ ?_
  obtain ⟨q, es, ep, hq, h2, h3, h4, _, h5⟩ := dd'
  refine d_write I (by rw [e]; exact True.intro) hs ⟨q, hq⟩ ⟨hl, hd, _, L2.KT.keeps (KT.drop rel k) fun c ys ec => ?_, q, es, ep, hq, h2, h3, h4, h5⟩
  rw [upd_ne (ne_of ec e (fun z => nomatch z))]
  exact ec
end
section
variable {X : Cx} {o i : Expr} {td ty : TE} {tpos pos : Pos}
def sDDelT (td ty : TE) : TS := fun D σ H => td σ H fun x H1 => ty σ H1 fun y H2 => ∃ (a b : Addr) (kvs : List (List Key × V)) (k : List Key), x = .ref a ∧ y = .ref b ∧ H2 a = some (.dT kvs) ∧ H2 b = some (.tup (k.map kV)) ∧ (valV kvs k).isSome = true ∧ D.nx σ (upd H2 a (.dT (dropK kvs k)))
theorem ps_ddelT (hu : X.A.units + 1 < cLine) (ho : PE X o td) (hi : PE X i ty) : PS X (.Delete [.Subscript o i tpos] pos) (sDDelT td ty) := by
  refine ⟨fun pins s σ H D I h => ?_⟩
  refine wpAny_Delete (wpAny_deleteEach_cons (wpAny_delete_Subscript (thn (ho.run pins s σ H _ I h) fun u s1 ⟨x, H1, I1, rx, q1⟩ => thn (hi.run pins s1 σ H1 _ I1 q1) fun iv s2 ⟨y, H2, I2, ry, a, b, kvs, k, ex, ey, e, eb, l, q2⟩ => ?_)))
  subst ex ey
  obtain rfl : u = Value.ref a := rx
  obtain rfl : iv = Value.ref b := ry
  exact d_delItemT hu I2 e eb l fun s3 I3 => wpAny_deleteEach_nil ⟨σ, _, I3, q2⟩
end

def top (i : Nat) : Stmt := PySem.Challenge.pw_mastword_k22_signs_that_wait.main.body.getD i (.Pass ⟨0, 0, 0, 0⟩)
abbrev s_p_is_sign : Stmt := top 40
theorem sc_p_is_sign : FnScope ["number"] ["number"] (defScope s_p_is_sign) := ⟨rfl, rfl, rfl, by decide +kernel, rfl, by decide +kernel, by decide +kernel⟩
abbrev s_p_check_signs : Stmt := top 41
theorem sc_p_check_signs : FnScope ["numbers", "number"] ["numbers"] (defScope s_p_check_signs) := ⟨rfl, rfl, rfl, by decide +kernel, rfl, by decide +kernel, by decide +kernel⟩
abbrev s_p_is_word : Stmt := top 45
theorem sc_p_is_word : FnScope ["text", "letter"] ["text"] (defScope s_p_is_word) := ⟨rfl, rfl, rfl, by decide +kernel, rfl, by decide +kernel, by decide +kernel⟩
abbrev s_p_check_word : Stmt := top 46
theorem sc_p_check_word : FnScope ["text"] ["text"] (defScope s_p_check_word) := ⟨rfl, rfl, rfl, by decide +kernel, rfl, by decide +kernel, by decide +kernel⟩
abbrev s_p_check_place : Stmt := top 47
theorem sc_p_check_place : FnScope ["page", "line"] ["page", "line"] (defScope s_p_check_place) := ⟨rfl, rfl, rfl, by decide +kernel, rfl, by decide +kernel, by decide +kernel⟩
abbrev s_p_Phrasebook_init : Stmt := inClass (top 48) 0
theorem sc_p_Phrasebook_init : FnScope ["self"] ["self"] (defScope s_p_Phrasebook_init) := ⟨rfl, rfl, rfl, by decide +kernel, rfl, by decide +kernel, by decide +kernel⟩
abbrev s_p_Phrasebook_enter : Stmt := inClass (top 48) 1
theorem sc_p_Phrasebook_enter : FnScope ["self", "page", "line", "word"] ["self", "page", "line", "word"] (defScope s_p_Phrasebook_enter) := ⟨rfl, rfl, rfl, by decide +kernel, rfl, by decide +kernel, by decide +kernel⟩
abbrev s_p_Phrasebook_strike : Stmt := inClass (top 48) 2
theorem sc_p_Phrasebook_strike : FnScope ["self", "page", "line", "word"] ["self", "page", "line"] (defScope s_p_Phrasebook_strike) := ⟨rfl, rfl, rfl, by decide +kernel, rfl, by decide +kernel, by decide +kernel⟩
abbrev s_p_Phrasebook_word_at : Stmt := inClass (top 48) 4
theorem sc_p_Phrasebook_word_at : FnScope ["self", "page", "line"] ["self", "page", "line"] (defScope s_p_Phrasebook_word_at) := ⟨rfl, rfl, rfl, by decide +kernel, rfl, by decide +kernel, by decide +kernel⟩
abbrev s_p_check_way : Stmt := top 55
theorem sc_p_check_way : FnScope ["way"] ["way"] (defScope s_p_check_way) := ⟨rfl, rfl, rfl, by decide +kernel, rfl, by decide +kernel, by decide +kernel⟩
abbrev s_p_check_mast : Stmt := top 56
theorem sc_p_check_mast : FnScope ["masts", "mast"] ["masts", "mast"] (defScope s_p_check_mast) := ⟨rfl, rfl, rfl, by decide +kernel, rfl, by decide +kernel, by decide +kernel⟩
abbrev s_p_place_of : Stmt := top 58
theorem sc_p_place_of : FnScope ["way", "masts", "mast"] ["way", "masts", "mast"] (defScope s_p_place_of) := ⟨rfl, rfl, rfl, by decide +kernel, rfl, by decide +kernel, by decide +kernel⟩
abbrev s_p_along : Stmt := top 60
theorem sc_p_along : FnScope ["way", "row"] ["way", "row"] (defScope s_p_along) := ⟨rfl, rfl, rfl, by decide +kernel, rfl, by decide +kernel, by decide +kernel⟩
abbrev s_p_queue_of : Stmt := top 71
theorem sc_p_queue_of : FnScope ["way"] ["way"] (defScope s_p_queue_of) := ⟨rfl, rfl, rfl, by decide +kernel, rfl, by decide +kernel, by decide +kernel⟩
abbrev s_p_book_of : Stmt := top 72
theorem sc_p_book_of : FnScope ["way", "mast"] ["way", "mast"] (defScope s_p_book_of) := ⟨rfl, rfl, rfl, by decide +kernel, rfl, by decide +kernel, by decide +kernel⟩
abbrev s_p_new_rows : Stmt := top 73
theorem sc_p_new_rows : FnScope ["masts", "rows", "way", "mast"] ["masts"] (defScope s_p_new_rows) := ⟨rfl, rfl, rfl, by decide +kernel, rfl, by decide +kernel, by decide +kernel⟩
abbrev s_p_State_init : Stmt := inClass (top 74) 0
theorem sc_p_State_init : FnScope ["self", "masts"] ["self", "masts"] (defScope s_p_State_init) := ⟨rfl, rfl, rfl, by decide +kernel, rfl, by decide +kernel, by decide +kernel⟩
abbrev s_p_State_make : Stmt := inClass (top 74) 2
theorem sc_p_State_make : FnScope ["self", "changes", "where", "at", "taken", "put"] ["self", "changes"] (defScope s_p_State_make) := ⟨rfl, rfl, rfl, by decide +kernel, rfl, by decide +kernel, by decide +kernel⟩
abbrev s_p_State_swap : Stmt := inClass (top 74) 4
theorem sc_p_State_swap : FnScope ["self", "where", "at", "taken", "put", "row"] ["self", "where", "at", "taken", "put"] (defScope s_p_State_swap) := ⟨rfl, rfl, rfl, by decide +kernel, rfl, by decide +kernel, by decide +kernel⟩
abbrev s_p_State_swap_word : Stmt := inClass (top 74) 5
theorem sc_p_State_swap_word : FnScope ["self", "at", "taken", "put", "page", "line"] ["self", "at", "taken", "put"] (defScope s_p_State_swap_word) := ⟨rfl, rfl, rfl, by decide +kernel, rfl, by decide +kernel, by decide +kernel⟩
abbrev s_p_State_size : Stmt := inClass (top 74) 6
theorem sc_p_State_size : FnScope ["self"] ["self"] (defScope s_p_State_size) := ⟨rfl, rfl, rfl, by decide +kernel, rfl, by decide +kernel, by decide +kernel⟩
abbrev s_p_State_queue_on : Stmt := inClass (top 74) 11
theorem sc_p_State_queue_on : FnScope ["self", "way"] ["self", "way"] (defScope s_p_State_queue_on) := ⟨rfl, rfl, rfl, by decide +kernel, rfl, by decide +kernel, by decide +kernel⟩
abbrev s_p_Line_init : Stmt := inClass (top 77) 0
theorem sc_p_Line_init : FnScope ["self", "masts"] ["self", "masts"] (defScope s_p_Line_init) := ⟨rfl, rfl, rfl, by decide +kernel, rfl, by decide +kernel, by decide +kernel⟩
abbrev s_p_Line_do : Stmt := inClass (top 77) 1
theorem sc_p_Line_do : FnScope ["self", "deed", "changes"] ["self", "deed", "changes"] (defScope s_p_Line_do) := ⟨rfl, rfl, rfl, by decide +kernel, rfl, by decide +kernel, by decide +kernel⟩
abbrev s_p_Line_send : Stmt := inClass (top 77) 5
theorem sc_p_Line_send : FnScope ["self", "way", "signs", "behind"] ["self", "way", "signs"] (defScope s_p_Line_send) := ⟨rfl, rfl, rfl, by decide +kernel, rfl, by decide +kernel, by decide +kernel⟩
abbrev s_p_Line_express : Stmt := inClass (top 77) 6
theorem sc_p_Line_express : FnScope ["self", "way", "signs"] ["self", "way", "signs"] (defScope s_p_Line_express) := ⟨rfl, rfl, rfl, by decide +kernel, rfl, by decide +kernel, by decide +kernel⟩
abbrev s_p_Line_let_wait : Stmt := inClass (top 77) 8
theorem sc_p_Line_let_wait : FnScope ["self", "deed", "at", "signs", "way"] ["self", "deed", "at", "signs"] (defScope s_p_Line_let_wait) := ⟨rfl, rfl, rfl, by decide +kernel, rfl, by decide +kernel, by decide +kernel⟩
abbrev s_p_Line_recall : Stmt := inClass (top 77) 9
theorem sc_p_Line_recall : FnScope ["self", "way", "queue", "sign"] ["self", "way"] (defScope s_p_Line_recall) := ⟨rfl, rfl, rfl, by decide +kernel, rfl, by decide +kernel, by decide +kernel⟩
abbrev s_p_Line_waiting : Stmt := inClass (top 77) 28
theorem sc_p_Line_waiting : FnScope ["self", "way"] ["self", "way"] (defScope s_p_Line_waiting) := ⟨rfl, rfl, rfl, by decide +kernel, rfl, by decide +kernel, by decide +kernel⟩
abbrev s_l_cell : Stmt := top 79
theorem sc_l_cell : FnScope ["_law_script", "_law_at"] ["_law_script", "_law_at"] (defScope s_l_cell) := ⟨rfl, rfl, rfl, by decide +kernel, rfl, by decide +kernel, by decide +kernel⟩
abbrev s_l_row : Stmt := top 80
theorem sc_l_row : FnScope ["_law_cell_here", "_law_many", "_law_size", "_law_row_here", "_law_rest", "_law_k", "_law_seed", "_law_mixed"] ["_law_cell_here", "_law_many", "_law_size"] (defScope s_l_row) := ⟨rfl, rfl, rfl, by decide +kernel, rfl, by decide +kernel, by decide +kernel⟩
abbrev s_l_like : Stmt := top 81
theorem sc_l_like : FnScope ["_law_found", "_law_due", "_law_k"] ["_law_found", "_law_due"] (defScope s_l_like) := ⟨rfl, rfl, rfl, by decide +kernel, rfl, by decide +kernel, by decide +kernel⟩
abbrev s_l_end_deed : Stmt := top 84
theorem sc_l_end_deed : FnScope ["_law_state", "_law_deed", "_law_signs", "_law_word"] ["_law_state", "_law_deed"] (defScope s_l_end_deed) := ⟨rfl, rfl, rfl, by decide +kernel, rfl, by decide +kernel, by decide +kernel⟩
abbrev s_l_kind : Stmt := top 85
theorem sc_l_kind : FnScope ["_law_e", "_law_kinds", "_law_names"] ["_law_e"] (defScope s_l_kind) := ⟨rfl, rfl, rfl, by decide +kernel, rfl, by decide +kernel, by decide +kernel⟩
abbrev s_l_end : Stmt := top 86
theorem sc_l_end : FnScope ["_law_script", "_law_at", "_law_nums", "_law_way", "_law_signs", "_law_num"] ["_law_script", "_law_at"] (defScope s_l_end) := ⟨rfl, rfl, rfl, by decide +kernel, rfl, by decide +kernel, by decide +kernel⟩
abbrev s_l_tried : Stmt := top 87
theorem sc_l_tried : FnScope ["_law_line", "_law_deed", "_law_told", "_law_handed", "_law_e"] ["_law_line", "_law_deed"] (defScope s_l_tried) := ⟨rfl, rfl, rfl, by decide +kernel, rfl, by decide +kernel, by decide +kernel⟩
abbrev s_law : Stmt := top 88
theorem sc_law : FnScope ["_law_script", "_law_line", "_law_state", "_law_at", "_law_deed", "_law_due", "_law_found"] ["_law_script"] (defScope s_law) := ⟨rfl, rfl, rfl, by decide +kernel, rfl, by decide +kernel, by decide +kernel⟩
def faL : List He.Fa := ([.glo "law", .glo "Phrasebook", .cls "Phrasebook", .noat "Phrasebook" "word_by_place", .noat "Phrasebook" "place_by_word", .mkr "Phrasebook", .glo "State", .cls "State", .noat "State" "rows", .noat "State" "phrasebook", .mkr "State", .glo "Line", .cls "Line", .noat "Line" "state", .noat "Line" "past", .noat "Line" "future", .mkr "Line", .glo "is_sign", .glo "check_signs", .glo "is_word", .glo "check_word", .glo "check_place", .meth "Phrasebook" "__init__", .meth "Phrasebook" "enter", .meth "Phrasebook" "strike", .meth "Phrasebook" "word_at", .glo "check_way", .glo "check_mast", .glo "place_of", .glo "along"] : List He.Fa) ++ ([.glo "queue_of", .glo "book_of", .glo "new_rows", .meth "State" "__init__", .meth "State" "make", .meth "State" "swap", .meth "State" "swap_word", .meth "State" "size", .meth "State" "queue_on", .meth "Line" "__init__", .meth "Line" "do", .meth "Line" "send", .meth "Line" "express", .meth "Line" "let_wait", .meth "Line" "recall", .meth "Line" "waiting", .glo "_law_cell", .glo "_law_row", .glo "_law_like", .glo "_law_end_deed", .glo "_law_kind", .glo "_law_end", .glo "_law_tried", .int "REST" 0, .str "LETTERS" "abcdefghijklmnopqrstuvwxyz", .int "LAST_PAGE" 40, .int "LAST_SIGN" 94, .int "LONGEST_WORD" 12, .str "UP" "up", .str "DOWN" "down"] : List He.Fa) ++ ([.int "FEWEST_MASTS" 2, .int "MOST_MASTS" 12, .str "WAY" "way", .str "ARMS" "arms", .str "SLEEP" "sleep", .str "FOG" "fog", .str "WORDS" "words", .int "MOST_WAITING" 60, .free "all", .free "bool", .free "enumerate", .free "int", .free "isinstance", .free "len", .free "list", .free "max", .free "min", .free "range", .free "reversed", .free "sorted", .free "str", .free "tuple"] : List He.Fa)
def factsL : FactsB := ⟨faL, (["MastError", "BadCount", "NoMast", "BadWay", "BadSign", "Full", "NothingWaits", "NotReady", "NotRaising", "BadSlip", "Asleep", "Awake", "Fogged", "Clear", "Busy", "NoRow", "NoBook", "Lost", "Legible", "NothingLeft", "BadPlace", "BadWord", "Taken", "Known", "NoWord"] : List Str), (["BadWay", "BadSign", "Full", "NothingWaits", "NoMast", "NotReady", "NotRaising", "BadSlip", "Asleep", "Awake", "Fogged", "Clear", "Busy", "NoRow", "NoBook", "Lost", "Legible", "NothingLeft", "BadPlace", "BadWord", "Taken", "Known", "NoWord"] : List Str), [("check_mast_ways", "check_mast")]⟩
def fnL : List He.DefD := [⟨("is_sign", none), "is_sign", "is_sign", defArgs s_p_is_sign, defBody s_p_is_sign, defScope s_p_is_sign, [], []⟩,
  ⟨("check_signs", none), "check_signs", "check_signs", defArgs s_p_check_signs, defBody s_p_check_signs, defScope s_p_check_signs, [], []⟩,
  ⟨("is_word", none), "is_word", "is_word", defArgs s_p_is_word, defBody s_p_is_word, defScope s_p_is_word, [], []⟩,
  ⟨("check_word", none), "check_word", "check_word", defArgs s_p_check_word, defBody s_p_check_word, defScope s_p_check_word, [], []⟩,
  ⟨("check_place", none), "check_place", "check_place", defArgs s_p_check_place, defBody s_p_check_place, defScope s_p_check_place, [], []⟩,
  ⟨("Phrasebook", some "__init__"), "__init__", "Phrasebook.__init__", defArgs s_p_Phrasebook_init, defBody s_p_Phrasebook_init, defScope s_p_Phrasebook_init, [], []⟩,
  ⟨("Phrasebook", some "enter"), "enter", "Phrasebook.enter", defArgs s_p_Phrasebook_enter, defBody s_p_Phrasebook_enter, defScope s_p_Phrasebook_enter, [], []⟩,
  ⟨("Phrasebook", some "strike"), "strike", "Phrasebook.strike", defArgs s_p_Phrasebook_strike, defBody s_p_Phrasebook_strike, defScope s_p_Phrasebook_strike, [], []⟩,
  ⟨("Phrasebook", some "word_at"), "word_at", "Phrasebook.word_at", defArgs s_p_Phrasebook_word_at, defBody s_p_Phrasebook_word_at, defScope s_p_Phrasebook_word_at, [], []⟩,
  ⟨("check_way", none), "check_way", "check_way", defArgs s_p_check_way, defBody s_p_check_way, defScope s_p_check_way, [], []⟩,
  ⟨("check_mast", none), "check_mast", "check_mast", defArgs s_p_check_mast, defBody s_p_check_mast, defScope s_p_check_mast, [], []⟩,
  ⟨("place_of", none), "place_of", "place_of", defArgs s_p_place_of, defBody s_p_place_of, defScope s_p_place_of, [], []⟩,
  ⟨("along", none), "along", "along", defArgs s_p_along, defBody s_p_along, defScope s_p_along, [], []⟩,
  ⟨("queue_of", none), "queue_of", "queue_of", defArgs s_p_queue_of, defBody s_p_queue_of, defScope s_p_queue_of, [], []⟩,
  ⟨("book_of", none), "book_of", "book_of", defArgs s_p_book_of, defBody s_p_book_of, defScope s_p_book_of, [], []⟩,
  ⟨("new_rows", none), "new_rows", "new_rows", defArgs s_p_new_rows, defBody s_p_new_rows, defScope s_p_new_rows, [], []⟩,
  ⟨("State", some "__init__"), "__init__", "State.__init__", defArgs s_p_State_init, defBody s_p_State_init, defScope s_p_State_init, [], []⟩,
  ⟨("State", some "make"), "make", "State.make", defArgs s_p_State_make, defBody s_p_State_make, defScope s_p_State_make, [], []⟩,
  ⟨("State", some "swap"), "swap", "State.swap", defArgs s_p_State_swap, defBody s_p_State_swap, defScope s_p_State_swap, [], []⟩,
  ⟨("State", some "swap_word"), "swap_word", "State.swap_word", defArgs s_p_State_swap_word, defBody s_p_State_swap_word, defScope s_p_State_swap_word, [], []⟩,
  ⟨("State", some "size"), "size", "State.size", defArgs s_p_State_size, defBody s_p_State_size, defScope s_p_State_size, [], []⟩,
  ⟨("State", some "queue_on"), "queue_on", "State.queue_on", defArgs s_p_State_queue_on, defBody s_p_State_queue_on, defScope s_p_State_queue_on, [], []⟩,
  ⟨("Line", some "__init__"), "__init__", "Line.__init__", defArgs s_p_Line_init, defBody s_p_Line_init, defScope s_p_Line_init, [], []⟩,
  ⟨("Line", some "do"), "do", "Line.do", defArgs s_p_Line_do, defBody s_p_Line_do, defScope s_p_Line_do, [], []⟩,
  ⟨("Line", some "send"), "send", "Line.send", defArgs s_p_Line_send, defBody s_p_Line_send, defScope s_p_Line_send, [], []⟩,
  ⟨("Line", some "express"), "express", "Line.express", defArgs s_p_Line_express, defBody s_p_Line_express, defScope s_p_Line_express, [], []⟩,
  ⟨("Line", some "let_wait"), "let_wait", "Line.let_wait", defArgs s_p_Line_let_wait, defBody s_p_Line_let_wait, defScope s_p_Line_let_wait, [], []⟩,
  ⟨("Line", some "recall"), "recall", "Line.recall", defArgs s_p_Line_recall, defBody s_p_Line_recall, defScope s_p_Line_recall, [], []⟩,
  ⟨("Line", some "waiting"), "waiting", "Line.waiting", defArgs s_p_Line_waiting, defBody s_p_Line_waiting, defScope s_p_Line_waiting, [], []⟩,
  ⟨("_law_cell", none), "_law_cell", "_law_cell", defArgs s_l_cell, defBody s_l_cell, defScope s_l_cell, [], []⟩,
  ⟨("_law_row", none), "_law_row", "_law_row", defArgs s_l_row, defBody s_l_row, defScope s_l_row, [], []⟩,
  ⟨("_law_like", none), "_law_like", "_law_like", defArgs s_l_like, defBody s_l_like, defScope s_l_like, [], []⟩,
  ⟨("_law_end_deed", none), "_law_end_deed", "_law_end_deed", defArgs s_l_end_deed, defBody s_l_end_deed, defScope s_l_end_deed, [], []⟩,
  ⟨("_law_kind", none), "_law_kind", "_law_kind", defArgs s_l_kind, defBody s_l_kind, defScope s_l_kind, [], []⟩,
  ⟨("_law_end", none), "_law_end", "_law_end", defArgs s_l_end, defBody s_l_end, defScope s_l_end, [], []⟩,
  ⟨("_law_tried", none), "_law_tried", "_law_tried", defArgs s_l_tried, defBody s_l_tried, defScope s_l_tried, [], []⟩,
  ⟨("law", none), "law", "law", defArgs s_law, defBody s_law, defScope s_law, [], []⟩]
def asL : List Addr := [3, 57, 70, 82, 94, 106, 118, 130, 142, 154, 166, 178, 190, 202, 214, 226, 238, 250, 262, 274, 286, 298, 310, 322, 334, 346, 440, 567, 751, 1078, 56, 69, 81, 93, 105, 117, 129, 141, 153, 165, 177, 189, 201, 213, 225, 237, 249, 261, 273, 285, 297, 309, 321, 333, 345, 439, 566, 750, 1077, 355, 354, 362, 361, 376, 375, 383, 382, 390, 389, 404, 403, 411, 410, 418, 417, 432, 431, 456, 455, 463, 462, 470, 469, 484, 483, 578, 577, 585, 584, 592, 591, 606, 605, 618, 617, 632, 631, 639, 638, 646, 645, 681, 680, 769, 768, 776, 775, 804, 803, 811, 810, 825, 824, 832, 831, 965, 964, 1089, 1088, 1096, 1095, 1101, 1100, 1116, 1115, 1123, 1122, 1128, 1127, 1135, 1134, 1142, 1141]
def tfL : List He.Defn := [("is_word", none), ("check_signs", none)]
abbrev Txt (K : PySem.W.Frag) (mg : Str → Option Value) : Prop := TopB factsL fnL K mg
abbrev Txt.a_MastError {K : PySem.W.Frag} {mg : Str → Option Value} (T : Txt K mg) : Addr := He.ga K "MastError"
theorem Txt.g_MastError {K : PySem.W.Frag} {mg : Str → Option Value} (T : Txt K mg) : mg "MastError" = some (.ref (T.a_MastError)) := (TopB.exc T 0 rfl : ExcT K mg "MastError").g
theorem Txt.x_MastError {K : PySem.W.Frag} {mg : Str → Option Value} (T : Txt K mg) : PySem.W.excIn K (T.a_MastError) He.veBase "ValueError.__new__" = true := (TopB.exc T 0 rfl : ExcT K mg "MastError").x
theorem Txt.k_MastError {K : PySem.W.Frag} {mg : Str → Option Value} (T : Txt K mg) : PySem.W.keepIn K (.ref (T.a_MastError)) = true := (TopB.exc T 0 rfl : ExcT K mg "MastError").k
theorem Txt.b_MastError {K : PySem.W.Frag} {mg : Str → Option Value} (T : Txt K mg) : PySem.W.subIn K (.ref (T.a_MastError)) (.type "BaseException") = some true := (TopB.exc T 0 rfl : ExcT K mg "MastError").b
theorem Txt.t_MastError {K : PySem.W.Frag} {mg : Str → Option Value} (T : Txt K mg) : PySem.W.typeIn K (.ref (T.a_MastError)) = some (.type "type") := (TopB.exc T 0 rfl : ExcT K mg "MastError").t
theorem Txt.i_MastError {K : PySem.W.Frag} {mg : Str → Option Value} (T : Txt K mg) : PySem.W.isClsIn K (T.a_MastError) = true := (TopB.exc T 0 rfl : ExcT K mg "MastError").i
theorem Txt.h_MastError {K : PySem.W.Frag} {mg : Str → Option Value} (T : Txt K mg) : PySem.W.hasDictIn K (T.a_MastError) = true := (TopB.exc T 0 rfl : ExcT K mg "MastError").h
theorem Txt.ga_MastError {K : PySem.W.Frag} {mg : Str → Option Value} (T : Txt K mg) : PySem.W.findIn K (.ref (T.a_MastError)) "__getattribute__" = some (some (.builtin "BaseException.__getattribute__")) := (TopB.exc T 0 rfl : ExcT K mg "MastError").ga
theorem Txt.gg_MastError {K : PySem.W.Frag} {mg : Str → Option Value} (T : Txt K mg) : PySem.W.findIn K (.ref (T.a_MastError)) "__getattr__" = some none := (TopB.exc T 0 rfl : ExcT K mg "MastError").gg
theorem Txt.cl_MastError {K : PySem.W.Frag} {mg : Str → Option Value} (T : Txt K mg) : PySem.W.findIn K (.ref (T.a_MastError)) "__class__" = some (some (.builtin "object.__class__")) := (TopB.exc T 0 rfl : ExcT K mg "MastError").cl
theorem Txt.mo_MastError {K : PySem.W.Frag} {mg : Str → Option Value} (T : Txt K mg) : PySem.W.mroIn K (T.a_MastError) (.type "object") = some true := (TopB.exc T 0 rfl : ExcT K mg "MastError").mo
abbrev Txt.a_BadCount {K : PySem.W.Frag} {mg : Str → Option Value} (T : Txt K mg) : Addr := He.ga K "BadCount"
theorem Txt.g_BadCount {K : PySem.W.Frag} {mg : Str → Option Value} (T : Txt K mg) : mg "BadCount" = some (.ref (T.a_BadCount)) := (TopB.exc T 1 rfl : ExcT K mg "BadCount").g
theorem Txt.x_BadCount {K : PySem.W.Frag} {mg : Str → Option Value} (T : Txt K mg) : PySem.W.excIn K (T.a_BadCount) He.veBase "ValueError.__new__" = true := (TopB.exc T 1 rfl : ExcT K mg "BadCount").x
theorem Txt.k_BadCount {K : PySem.W.Frag} {mg : Str → Option Value} (T : Txt K mg) : PySem.W.keepIn K (.ref (T.a_BadCount)) = true := (TopB.exc T 1 rfl : ExcT K mg "BadCount").k
theorem Txt.b_BadCount {K : PySem.W.Frag} {mg : Str → Option Value} (T : Txt K mg) : PySem.W.subIn K (.ref (T.a_BadCount)) (.type "BaseException") = some true := (TopB.exc T 1 rfl : ExcT K mg "BadCount").b
theorem Txt.t_BadCount {K : PySem.W.Frag} {mg : Str → Option Value} (T : Txt K mg) : PySem.W.typeIn K (.ref (T.a_BadCount)) = some (.type "type") := (TopB.exc T 1 rfl : ExcT K mg "BadCount").t
theorem Txt.i_BadCount {K : PySem.W.Frag} {mg : Str → Option Value} (T : Txt K mg) : PySem.W.isClsIn K (T.a_BadCount) = true := (TopB.exc T 1 rfl : ExcT K mg "BadCount").i
theorem Txt.h_BadCount {K : PySem.W.Frag} {mg : Str → Option Value} (T : Txt K mg) : PySem.W.hasDictIn K (T.a_BadCount) = true := (TopB.exc T 1 rfl : ExcT K mg "BadCount").h
theorem Txt.ga_BadCount {K : PySem.W.Frag} {mg : Str → Option Value} (T : Txt K mg) : PySem.W.findIn K (.ref (T.a_BadCount)) "__getattribute__" = some (some (.builtin "BaseException.__getattribute__")) := (TopB.exc T 1 rfl : ExcT K mg "BadCount").ga
theorem Txt.gg_BadCount {K : PySem.W.Frag} {mg : Str → Option Value} (T : Txt K mg) : PySem.W.findIn K (.ref (T.a_BadCount)) "__getattr__" = some none := (TopB.exc T 1 rfl : ExcT K mg "BadCount").gg
theorem Txt.cl_BadCount {K : PySem.W.Frag} {mg : Str → Option Value} (T : Txt K mg) : PySem.W.findIn K (.ref (T.a_BadCount)) "__class__" = some (some (.builtin "object.__class__")) := (TopB.exc T 1 rfl : ExcT K mg "BadCount").cl
theorem Txt.mo_BadCount {K : PySem.W.Frag} {mg : Str → Option Value} (T : Txt K mg) : PySem.W.mroIn K (T.a_BadCount) (.type "object") = some true := (TopB.exc T 1 rfl : ExcT K mg "BadCount").mo
theorem Txt.s_BadCount_MastError {K : PySem.W.Frag} {mg : Str → Option Value} (T : Txt K mg) : PySem.W.subIn K (.ref (T.a_BadCount)) (.ref (He.ga K "MastError")) = some true := (TopB.exc T 1 rfl : ExcT K mg "BadCount").s
abbrev Txt.a_NoMast {K : PySem.W.Frag} {mg : Str → Option Value} (T : Txt K mg) : Addr := He.ga K "NoMast"
theorem Txt.g_NoMast {K : PySem.W.Frag} {mg : Str → Option Value} (T : Txt K mg) : mg "NoMast" = some (.ref (T.a_NoMast)) := (TopB.exc T 2 rfl : ExcT K mg "NoMast").g
theorem Txt.x_NoMast {K : PySem.W.Frag} {mg : Str → Option Value} (T : Txt K mg) : PySem.W.excIn K (T.a_NoMast) He.veBase "ValueError.__new__" = true := (TopB.exc T 2 rfl : ExcT K mg "NoMast").x
theorem Txt.k_NoMast {K : PySem.W.Frag} {mg : Str → Option Value} (T : Txt K mg) : PySem.W.keepIn K (.ref (T.a_NoMast)) = true := (TopB.exc T 2 rfl : ExcT K mg "NoMast").k
theorem Txt.b_NoMast {K : PySem.W.Frag} {mg : Str → Option Value} (T : Txt K mg) : PySem.W.subIn K (.ref (T.a_NoMast)) (.type "BaseException") = some true := (TopB.exc T 2 rfl : ExcT K mg "NoMast").b
theorem Txt.t_NoMast {K : PySem.W.Frag} {mg : Str → Option Value} (T : Txt K mg) : PySem.W.typeIn K (.ref (T.a_NoMast)) = some (.type "type") := (TopB.exc T 2 rfl : ExcT K mg "NoMast").t
theorem Txt.i_NoMast {K : PySem.W.Frag} {mg : Str → Option Value} (T : Txt K mg) : PySem.W.isClsIn K (T.a_NoMast) = true := (TopB.exc T 2 rfl : ExcT K mg "NoMast").i
theorem Txt.h_NoMast {K : PySem.W.Frag} {mg : Str → Option Value} (T : Txt K mg) : PySem.W.hasDictIn K (T.a_NoMast) = true := (TopB.exc T 2 rfl : ExcT K mg "NoMast").h
theorem Txt.ga_NoMast {K : PySem.W.Frag} {mg : Str → Option Value} (T : Txt K mg) : PySem.W.findIn K (.ref (T.a_NoMast)) "__getattribute__" = some (some (.builtin "BaseException.__getattribute__")) := (TopB.exc T 2 rfl : ExcT K mg "NoMast").ga
theorem Txt.gg_NoMast {K : PySem.W.Frag} {mg : Str → Option Value} (T : Txt K mg) : PySem.W.findIn K (.ref (T.a_NoMast)) "__getattr__" = some none := (TopB.exc T 2 rfl : ExcT K mg "NoMast").gg
theorem Txt.cl_NoMast {K : PySem.W.Frag} {mg : Str → Option Value} (T : Txt K mg) : PySem.W.findIn K (.ref (T.a_NoMast)) "__class__" = some (some (.builtin "object.__class__")) := (TopB.exc T 2 rfl : ExcT K mg "NoMast").cl
theorem Txt.mo_NoMast {K : PySem.W.Frag} {mg : Str → Option Value} (T : Txt K mg) : PySem.W.mroIn K (T.a_NoMast) (.type "object") = some true := (TopB.exc T 2 rfl : ExcT K mg "NoMast").mo
theorem Txt.s_NoMast_MastError {K : PySem.W.Frag} {mg : Str → Option Value} (T : Txt K mg) : PySem.W.subIn K (.ref (T.a_NoMast)) (.ref (He.ga K "MastError")) = some true := (TopB.exc T 2 rfl : ExcT K mg "NoMast").s
abbrev Txt.a_BadWay {K : PySem.W.Frag} {mg : Str → Option Value} (T : Txt K mg) : Addr := He.ga K "BadWay"
theorem Txt.g_BadWay {K : PySem.W.Frag} {mg : Str → Option Value} (T : Txt K mg) : mg "BadWay" = some (.ref (T.a_BadWay)) := (TopB.exc T 3 rfl : ExcT K mg "BadWay").g
theorem Txt.x_BadWay {K : PySem.W.Frag} {mg : Str → Option Value} (T : Txt K mg) : PySem.W.excIn K (T.a_BadWay) He.veBase "ValueError.__new__" = true := (TopB.exc T 3 rfl : ExcT K mg "BadWay").x
theorem Txt.k_BadWay {K : PySem.W.Frag} {mg : Str → Option Value} (T : Txt K mg) : PySem.W.keepIn K (.ref (T.a_BadWay)) = true := (TopB.exc T 3 rfl : ExcT K mg "BadWay").k
theorem Txt.b_BadWay {K : PySem.W.Frag} {mg : Str → Option Value} (T : Txt K mg) : PySem.W.subIn K (.ref (T.a_BadWay)) (.type "BaseException") = some true := (TopB.exc T 3 rfl : ExcT K mg "BadWay").b
theorem Txt.t_BadWay {K : PySem.W.Frag} {mg : Str → Option Value} (T : Txt K mg) : PySem.W.typeIn K (.ref (T.a_BadWay)) = some (.type "type") := (TopB.exc T 3 rfl : ExcT K mg "BadWay").t
theorem Txt.i_BadWay {K : PySem.W.Frag} {mg : Str → Option Value} (T : Txt K mg) : PySem.W.isClsIn K (T.a_BadWay) = true := (TopB.exc T 3 rfl : ExcT K mg "BadWay").i
theorem Txt.h_BadWay {K : PySem.W.Frag} {mg : Str → Option Value} (T : Txt K mg) : PySem.W.hasDictIn K (T.a_BadWay) = true := (TopB.exc T 3 rfl : ExcT K mg "BadWay").h
theorem Txt.ga_BadWay {K : PySem.W.Frag} {mg : Str → Option Value} (T : Txt K mg) : PySem.W.findIn K (.ref (T.a_BadWay)) "__getattribute__" = some (some (.builtin "BaseException.__getattribute__")) := (TopB.exc T 3 rfl : ExcT K mg "BadWay").ga
theorem Txt.gg_BadWay {K : PySem.W.Frag} {mg : Str → Option Value} (T : Txt K mg) : PySem.W.findIn K (.ref (T.a_BadWay)) "__getattr__" = some none := (TopB.exc T 3 rfl : ExcT K mg "BadWay").gg
theorem Txt.cl_BadWay {K : PySem.W.Frag} {mg : Str → Option Value} (T : Txt K mg) : PySem.W.findIn K (.ref (T.a_BadWay)) "__class__" = some (some (.builtin "object.__class__")) := (TopB.exc T 3 rfl : ExcT K mg "BadWay").cl
theorem Txt.mo_BadWay {K : PySem.W.Frag} {mg : Str → Option Value} (T : Txt K mg) : PySem.W.mroIn K (T.a_BadWay) (.type "object") = some true := (TopB.exc T 3 rfl : ExcT K mg "BadWay").mo
theorem Txt.s_BadWay_MastError {K : PySem.W.Frag} {mg : Str → Option Value} (T : Txt K mg) : PySem.W.subIn K (.ref (T.a_BadWay)) (.ref (He.ga K "MastError")) = some true := (TopB.exc T 3 rfl : ExcT K mg "BadWay").s
abbrev Txt.a_BadSign {K : PySem.W.Frag} {mg : Str → Option Value} (T : Txt K mg) : Addr := He.ga K "BadSign"
theorem Txt.g_BadSign {K : PySem.W.Frag} {mg : Str → Option Value} (T : Txt K mg) : mg "BadSign" = some (.ref (T.a_BadSign)) := (TopB.exc T 4 rfl : ExcT K mg "BadSign").g
theorem Txt.x_BadSign {K : PySem.W.Frag} {mg : Str → Option Value} (T : Txt K mg) : PySem.W.excIn K (T.a_BadSign) He.veBase "ValueError.__new__" = true := (TopB.exc T 4 rfl : ExcT K mg "BadSign").x
theorem Txt.k_BadSign {K : PySem.W.Frag} {mg : Str → Option Value} (T : Txt K mg) : PySem.W.keepIn K (.ref (T.a_BadSign)) = true := (TopB.exc T 4 rfl : ExcT K mg "BadSign").k
theorem Txt.b_BadSign {K : PySem.W.Frag} {mg : Str → Option Value} (T : Txt K mg) : PySem.W.subIn K (.ref (T.a_BadSign)) (.type "BaseException") = some true := (TopB.exc T 4 rfl : ExcT K mg "BadSign").b
theorem Txt.t_BadSign {K : PySem.W.Frag} {mg : Str → Option Value} (T : Txt K mg) : PySem.W.typeIn K (.ref (T.a_BadSign)) = some (.type "type") := (TopB.exc T 4 rfl : ExcT K mg "BadSign").t
theorem Txt.i_BadSign {K : PySem.W.Frag} {mg : Str → Option Value} (T : Txt K mg) : PySem.W.isClsIn K (T.a_BadSign) = true := (TopB.exc T 4 rfl : ExcT K mg "BadSign").i
theorem Txt.h_BadSign {K : PySem.W.Frag} {mg : Str → Option Value} (T : Txt K mg) : PySem.W.hasDictIn K (T.a_BadSign) = true := (TopB.exc T 4 rfl : ExcT K mg "BadSign").h
theorem Txt.ga_BadSign {K : PySem.W.Frag} {mg : Str → Option Value} (T : Txt K mg) : PySem.W.findIn K (.ref (T.a_BadSign)) "__getattribute__" = some (some (.builtin "BaseException.__getattribute__")) := (TopB.exc T 4 rfl : ExcT K mg "BadSign").ga
theorem Txt.gg_BadSign {K : PySem.W.Frag} {mg : Str → Option Value} (T : Txt K mg) : PySem.W.findIn K (.ref (T.a_BadSign)) "__getattr__" = some none := (TopB.exc T 4 rfl : ExcT K mg "BadSign").gg
theorem Txt.cl_BadSign {K : PySem.W.Frag} {mg : Str → Option Value} (T : Txt K mg) : PySem.W.findIn K (.ref (T.a_BadSign)) "__class__" = some (some (.builtin "object.__class__")) := (TopB.exc T 4 rfl : ExcT K mg "BadSign").cl
theorem Txt.mo_BadSign {K : PySem.W.Frag} {mg : Str → Option Value} (T : Txt K mg) : PySem.W.mroIn K (T.a_BadSign) (.type "object") = some true := (TopB.exc T 4 rfl : ExcT K mg "BadSign").mo
theorem Txt.s_BadSign_MastError {K : PySem.W.Frag} {mg : Str → Option Value} (T : Txt K mg) : PySem.W.subIn K (.ref (T.a_BadSign)) (.ref (He.ga K "MastError")) = some true := (TopB.exc T 4 rfl : ExcT K mg "BadSign").s
abbrev Txt.a_Full {K : PySem.W.Frag} {mg : Str → Option Value} (T : Txt K mg) : Addr := He.ga K "Full"
theorem Txt.g_Full {K : PySem.W.Frag} {mg : Str → Option Value} (T : Txt K mg) : mg "Full" = some (.ref (T.a_Full)) := (TopB.exc T 5 rfl : ExcT K mg "Full").g
theorem Txt.x_Full {K : PySem.W.Frag} {mg : Str → Option Value} (T : Txt K mg) : PySem.W.excIn K (T.a_Full) He.veBase "ValueError.__new__" = true := (TopB.exc T 5 rfl : ExcT K mg "Full").x
theorem Txt.k_Full {K : PySem.W.Frag} {mg : Str → Option Value} (T : Txt K mg) : PySem.W.keepIn K (.ref (T.a_Full)) = true := (TopB.exc T 5 rfl : ExcT K mg "Full").k
theorem Txt.b_Full {K : PySem.W.Frag} {mg : Str → Option Value} (T : Txt K mg) : PySem.W.subIn K (.ref (T.a_Full)) (.type "BaseException") = some true := (TopB.exc T 5 rfl : ExcT K mg "Full").b
theorem Txt.t_Full {K : PySem.W.Frag} {mg : Str → Option Value} (T : Txt K mg) : PySem.W.typeIn K (.ref (T.a_Full)) = some (.type "type") := (TopB.exc T 5 rfl : ExcT K mg "Full").t
theorem Txt.i_Full {K : PySem.W.Frag} {mg : Str → Option Value} (T : Txt K mg) : PySem.W.isClsIn K (T.a_Full) = true := (TopB.exc T 5 rfl : ExcT K mg "Full").i
theorem Txt.h_Full {K : PySem.W.Frag} {mg : Str → Option Value} (T : Txt K mg) : PySem.W.hasDictIn K (T.a_Full) = true := (TopB.exc T 5 rfl : ExcT K mg "Full").h
theorem Txt.ga_Full {K : PySem.W.Frag} {mg : Str → Option Value} (T : Txt K mg) : PySem.W.findIn K (.ref (T.a_Full)) "__getattribute__" = some (some (.builtin "BaseException.__getattribute__")) := (TopB.exc T 5 rfl : ExcT K mg "Full").ga
theorem Txt.gg_Full {K : PySem.W.Frag} {mg : Str → Option Value} (T : Txt K mg) : PySem.W.findIn K (.ref (T.a_Full)) "__getattr__" = some none := (TopB.exc T 5 rfl : ExcT K mg "Full").gg
theorem Txt.cl_Full {K : PySem.W.Frag} {mg : Str → Option Value} (T : Txt K mg) : PySem.W.findIn K (.ref (T.a_Full)) "__class__" = some (some (.builtin "object.__class__")) := (TopB.exc T 5 rfl : ExcT K mg "Full").cl
theorem Txt.mo_Full {K : PySem.W.Frag} {mg : Str → Option Value} (T : Txt K mg) : PySem.W.mroIn K (T.a_Full) (.type "object") = some true := (TopB.exc T 5 rfl : ExcT K mg "Full").mo
theorem Txt.s_Full_MastError {K : PySem.W.Frag} {mg : Str → Option Value} (T : Txt K mg) : PySem.W.subIn K (.ref (T.a_Full)) (.ref (He.ga K "MastError")) = some true := (TopB.exc T 5 rfl : ExcT K mg "Full").s
abbrev Txt.a_NothingWaits {K : PySem.W.Frag} {mg : Str → Option Value} (T : Txt K mg) : Addr := He.ga K "NothingWaits"
theorem Txt.g_NothingWaits {K : PySem.W.Frag} {mg : Str → Option Value} (T : Txt K mg) : mg "NothingWaits" = some (.ref (T.a_NothingWaits)) := (TopB.exc T 6 rfl : ExcT K mg "NothingWaits").g
theorem Txt.x_NothingWaits {K : PySem.W.Frag} {mg : Str → Option Value} (T : Txt K mg) : PySem.W.excIn K (T.a_NothingWaits) He.veBase "ValueError.__new__" = true := (TopB.exc T 6 rfl : ExcT K mg "NothingWaits").x
theorem Txt.k_NothingWaits {K : PySem.W.Frag} {mg : Str → Option Value} (T : Txt K mg) : PySem.W.keepIn K (.ref (T.a_NothingWaits)) = true := (TopB.exc T 6 rfl : ExcT K mg "NothingWaits").k
theorem Txt.b_NothingWaits {K : PySem.W.Frag} {mg : Str → Option Value} (T : Txt K mg) : PySem.W.subIn K (.ref (T.a_NothingWaits)) (.type "BaseException") = some true := (TopB.exc T 6 rfl : ExcT K mg "NothingWaits").b
theorem Txt.t_NothingWaits {K : PySem.W.Frag} {mg : Str → Option Value} (T : Txt K mg) : PySem.W.typeIn K (.ref (T.a_NothingWaits)) = some (.type "type") := (TopB.exc T 6 rfl : ExcT K mg "NothingWaits").t
theorem Txt.i_NothingWaits {K : PySem.W.Frag} {mg : Str → Option Value} (T : Txt K mg) : PySem.W.isClsIn K (T.a_NothingWaits) = true := (TopB.exc T 6 rfl : ExcT K mg "NothingWaits").i
theorem Txt.h_NothingWaits {K : PySem.W.Frag} {mg : Str → Option Value} (T : Txt K mg) : PySem.W.hasDictIn K (T.a_NothingWaits) = true := (TopB.exc T 6 rfl : ExcT K mg "NothingWaits").h
theorem Txt.ga_NothingWaits {K : PySem.W.Frag} {mg : Str → Option Value} (T : Txt K mg) : PySem.W.findIn K (.ref (T.a_NothingWaits)) "__getattribute__" = some (some (.builtin "BaseException.__getattribute__")) := (TopB.exc T 6 rfl : ExcT K mg "NothingWaits").ga
theorem Txt.gg_NothingWaits {K : PySem.W.Frag} {mg : Str → Option Value} (T : Txt K mg) : PySem.W.findIn K (.ref (T.a_NothingWaits)) "__getattr__" = some none := (TopB.exc T 6 rfl : ExcT K mg "NothingWaits").gg
theorem Txt.cl_NothingWaits {K : PySem.W.Frag} {mg : Str → Option Value} (T : Txt K mg) : PySem.W.findIn K (.ref (T.a_NothingWaits)) "__class__" = some (some (.builtin "object.__class__")) := (TopB.exc T 6 rfl : ExcT K mg "NothingWaits").cl
theorem Txt.mo_NothingWaits {K : PySem.W.Frag} {mg : Str → Option Value} (T : Txt K mg) : PySem.W.mroIn K (T.a_NothingWaits) (.type "object") = some true := (TopB.exc T 6 rfl : ExcT K mg "NothingWaits").mo
theorem Txt.s_NothingWaits_MastError {K : PySem.W.Frag} {mg : Str → Option Value} (T : Txt K mg) : PySem.W.subIn K (.ref (T.a_NothingWaits)) (.ref (He.ga K "MastError")) = some true := (TopB.exc T 6 rfl : ExcT K mg "NothingWaits").s
abbrev Txt.a_NotReady {K : PySem.W.Frag} {mg : Str → Option Value} (T : Txt K mg) : Addr := He.ga K "NotReady"
theorem Txt.g_NotReady {K : PySem.W.Frag} {mg : Str → Option Value} (T : Txt K mg) : mg "NotReady" = some (.ref (T.a_NotReady)) := (TopB.exc T 7 rfl : ExcT K mg "NotReady").g
theorem Txt.x_NotReady {K : PySem.W.Frag} {mg : Str → Option Value} (T : Txt K mg) : PySem.W.excIn K (T.a_NotReady) He.veBase "ValueError.__new__" = true := (TopB.exc T 7 rfl : ExcT K mg "NotReady").x
theorem Txt.k_NotReady {K : PySem.W.Frag} {mg : Str → Option Value} (T : Txt K mg) : PySem.W.keepIn K (.ref (T.a_NotReady)) = true := (TopB.exc T 7 rfl : ExcT K mg "NotReady").k
theorem Txt.b_NotReady {K : PySem.W.Frag} {mg : Str → Option Value} (T : Txt K mg) : PySem.W.subIn K (.ref (T.a_NotReady)) (.type "BaseException") = some true := (TopB.exc T 7 rfl : ExcT K mg "NotReady").b
theorem Txt.t_NotReady {K : PySem.W.Frag} {mg : Str → Option Value} (T : Txt K mg) : PySem.W.typeIn K (.ref (T.a_NotReady)) = some (.type "type") := (TopB.exc T 7 rfl : ExcT K mg "NotReady").t
theorem Txt.i_NotReady {K : PySem.W.Frag} {mg : Str → Option Value} (T : Txt K mg) : PySem.W.isClsIn K (T.a_NotReady) = true := (TopB.exc T 7 rfl : ExcT K mg "NotReady").i
theorem Txt.h_NotReady {K : PySem.W.Frag} {mg : Str → Option Value} (T : Txt K mg) : PySem.W.hasDictIn K (T.a_NotReady) = true := (TopB.exc T 7 rfl : ExcT K mg "NotReady").h
theorem Txt.ga_NotReady {K : PySem.W.Frag} {mg : Str → Option Value} (T : Txt K mg) : PySem.W.findIn K (.ref (T.a_NotReady)) "__getattribute__" = some (some (.builtin "BaseException.__getattribute__")) := (TopB.exc T 7 rfl : ExcT K mg "NotReady").ga
theorem Txt.gg_NotReady {K : PySem.W.Frag} {mg : Str → Option Value} (T : Txt K mg) : PySem.W.findIn K (.ref (T.a_NotReady)) "__getattr__" = some none := (TopB.exc T 7 rfl : ExcT K mg "NotReady").gg
theorem Txt.cl_NotReady {K : PySem.W.Frag} {mg : Str → Option Value} (T : Txt K mg) : PySem.W.findIn K (.ref (T.a_NotReady)) "__class__" = some (some (.builtin "object.__class__")) := (TopB.exc T 7 rfl : ExcT K mg "NotReady").cl
theorem Txt.mo_NotReady {K : PySem.W.Frag} {mg : Str → Option Value} (T : Txt K mg) : PySem.W.mroIn K (T.a_NotReady) (.type "object") = some true := (TopB.exc T 7 rfl : ExcT K mg "NotReady").mo
theorem Txt.s_NotReady_MastError {K : PySem.W.Frag} {mg : Str → Option Value} (T : Txt K mg) : PySem.W.subIn K (.ref (T.a_NotReady)) (.ref (He.ga K "MastError")) = some true := (TopB.exc T 7 rfl : ExcT K mg "NotReady").s
abbrev Txt.a_NotRaising {K : PySem.W.Frag} {mg : Str → Option Value} (T : Txt K mg) : Addr := He.ga K "NotRaising"
theorem Txt.g_NotRaising {K : PySem.W.Frag} {mg : Str → Option Value} (T : Txt K mg) : mg "NotRaising" = some (.ref (T.a_NotRaising)) := (TopB.exc T 8 rfl : ExcT K mg "NotRaising").g
theorem Txt.x_NotRaising {K : PySem.W.Frag} {mg : Str → Option Value} (T : Txt K mg) : PySem.W.excIn K (T.a_NotRaising) He.veBase "ValueError.__new__" = true := (TopB.exc T 8 rfl : ExcT K mg "NotRaising").x
theorem Txt.k_NotRaising {K : PySem.W.Frag} {mg : Str → Option Value} (T : Txt K mg) : PySem.W.keepIn K (.ref (T.a_NotRaising)) = true := (TopB.exc T 8 rfl : ExcT K mg "NotRaising").k
theorem Txt.b_NotRaising {K : PySem.W.Frag} {mg : Str → Option Value} (T : Txt K mg) : PySem.W.subIn K (.ref (T.a_NotRaising)) (.type "BaseException") = some true := (TopB.exc T 8 rfl : ExcT K mg "NotRaising").b
theorem Txt.t_NotRaising {K : PySem.W.Frag} {mg : Str → Option Value} (T : Txt K mg) : PySem.W.typeIn K (.ref (T.a_NotRaising)) = some (.type "type") := (TopB.exc T 8 rfl : ExcT K mg "NotRaising").t
theorem Txt.i_NotRaising {K : PySem.W.Frag} {mg : Str → Option Value} (T : Txt K mg) : PySem.W.isClsIn K (T.a_NotRaising) = true := (TopB.exc T 8 rfl : ExcT K mg "NotRaising").i
theorem Txt.h_NotRaising {K : PySem.W.Frag} {mg : Str → Option Value} (T : Txt K mg) : PySem.W.hasDictIn K (T.a_NotRaising) = true := (TopB.exc T 8 rfl : ExcT K mg "NotRaising").h
theorem Txt.ga_NotRaising {K : PySem.W.Frag} {mg : Str → Option Value} (T : Txt K mg) : PySem.W.findIn K (.ref (T.a_NotRaising)) "__getattribute__" = some (some (.builtin "BaseException.__getattribute__")) := (TopB.exc T 8 rfl : ExcT K mg "NotRaising").ga
theorem Txt.gg_NotRaising {K : PySem.W.Frag} {mg : Str → Option Value} (T : Txt K mg) : PySem.W.findIn K (.ref (T.a_NotRaising)) "__getattr__" = some none := (TopB.exc T 8 rfl : ExcT K mg "NotRaising").gg
theorem Txt.cl_NotRaising {K : PySem.W.Frag} {mg : Str → Option Value} (T : Txt K mg) : PySem.W.findIn K (.ref (T.a_NotRaising)) "__class__" = some (some (.builtin "object.__class__")) := (TopB.exc T 8 rfl : ExcT K mg "NotRaising").cl
theorem Txt.mo_NotRaising {K : PySem.W.Frag} {mg : Str → Option Value} (T : Txt K mg) : PySem.W.mroIn K (T.a_NotRaising) (.type "object") = some true := (TopB.exc T 8 rfl : ExcT K mg "NotRaising").mo
theorem Txt.s_NotRaising_MastError {K : PySem.W.Frag} {mg : Str → Option Value} (T : Txt K mg) : PySem.W.subIn K (.ref (T.a_NotRaising)) (.ref (He.ga K "MastError")) = some true := (TopB.exc T 8 rfl : ExcT K mg "NotRaising").s
abbrev Txt.a_BadSlip {K : PySem.W.Frag} {mg : Str → Option Value} (T : Txt K mg) : Addr := He.ga K "BadSlip"
theorem Txt.g_BadSlip {K : PySem.W.Frag} {mg : Str → Option Value} (T : Txt K mg) : mg "BadSlip" = some (.ref (T.a_BadSlip)) := (TopB.exc T 9 rfl : ExcT K mg "BadSlip").g
theorem Txt.x_BadSlip {K : PySem.W.Frag} {mg : Str → Option Value} (T : Txt K mg) : PySem.W.excIn K (T.a_BadSlip) He.veBase "ValueError.__new__" = true := (TopB.exc T 9 rfl : ExcT K mg "BadSlip").x
theorem Txt.k_BadSlip {K : PySem.W.Frag} {mg : Str → Option Value} (T : Txt K mg) : PySem.W.keepIn K (.ref (T.a_BadSlip)) = true := (TopB.exc T 9 rfl : ExcT K mg "BadSlip").k
theorem Txt.b_BadSlip {K : PySem.W.Frag} {mg : Str → Option Value} (T : Txt K mg) : PySem.W.subIn K (.ref (T.a_BadSlip)) (.type "BaseException") = some true := (TopB.exc T 9 rfl : ExcT K mg "BadSlip").b
theorem Txt.t_BadSlip {K : PySem.W.Frag} {mg : Str → Option Value} (T : Txt K mg) : PySem.W.typeIn K (.ref (T.a_BadSlip)) = some (.type "type") := (TopB.exc T 9 rfl : ExcT K mg "BadSlip").t
theorem Txt.i_BadSlip {K : PySem.W.Frag} {mg : Str → Option Value} (T : Txt K mg) : PySem.W.isClsIn K (T.a_BadSlip) = true := (TopB.exc T 9 rfl : ExcT K mg "BadSlip").i
theorem Txt.h_BadSlip {K : PySem.W.Frag} {mg : Str → Option Value} (T : Txt K mg) : PySem.W.hasDictIn K (T.a_BadSlip) = true := (TopB.exc T 9 rfl : ExcT K mg "BadSlip").h
theorem Txt.ga_BadSlip {K : PySem.W.Frag} {mg : Str → Option Value} (T : Txt K mg) : PySem.W.findIn K (.ref (T.a_BadSlip)) "__getattribute__" = some (some (.builtin "BaseException.__getattribute__")) := (TopB.exc T 9 rfl : ExcT K mg "BadSlip").ga
theorem Txt.gg_BadSlip {K : PySem.W.Frag} {mg : Str → Option Value} (T : Txt K mg) : PySem.W.findIn K (.ref (T.a_BadSlip)) "__getattr__" = some none := (TopB.exc T 9 rfl : ExcT K mg "BadSlip").gg
theorem Txt.cl_BadSlip {K : PySem.W.Frag} {mg : Str → Option Value} (T : Txt K mg) : PySem.W.findIn K (.ref (T.a_BadSlip)) "__class__" = some (some (.builtin "object.__class__")) := (TopB.exc T 9 rfl : ExcT K mg "BadSlip").cl
theorem Txt.mo_BadSlip {K : PySem.W.Frag} {mg : Str → Option Value} (T : Txt K mg) : PySem.W.mroIn K (T.a_BadSlip) (.type "object") = some true := (TopB.exc T 9 rfl : ExcT K mg "BadSlip").mo
theorem Txt.s_BadSlip_MastError {K : PySem.W.Frag} {mg : Str → Option Value} (T : Txt K mg) : PySem.W.subIn K (.ref (T.a_BadSlip)) (.ref (He.ga K "MastError")) = some true := (TopB.exc T 9 rfl : ExcT K mg "BadSlip").s
abbrev Txt.a_Asleep {K : PySem.W.Frag} {mg : Str → Option Value} (T : Txt K mg) : Addr := He.ga K "Asleep"
theorem Txt.g_Asleep {K : PySem.W.Frag} {mg : Str → Option Value} (T : Txt K mg) : mg "Asleep" = some (.ref (T.a_Asleep)) := (TopB.exc T 10 rfl : ExcT K mg "Asleep").g
theorem Txt.x_Asleep {K : PySem.W.Frag} {mg : Str → Option Value} (T : Txt K mg) : PySem.W.excIn K (T.a_Asleep) He.veBase "ValueError.__new__" = true := (TopB.exc T 10 rfl : ExcT K mg "Asleep").x
theorem Txt.k_Asleep {K : PySem.W.Frag} {mg : Str → Option Value} (T : Txt K mg) : PySem.W.keepIn K (.ref (T.a_Asleep)) = true := (TopB.exc T 10 rfl : ExcT K mg "Asleep").k
theorem Txt.b_Asleep {K : PySem.W.Frag} {mg : Str → Option Value} (T : Txt K mg) : PySem.W.subIn K (.ref (T.a_Asleep)) (.type "BaseException") = some true := (TopB.exc T 10 rfl : ExcT K mg "Asleep").b
theorem Txt.t_Asleep {K : PySem.W.Frag} {mg : Str → Option Value} (T : Txt K mg) : PySem.W.typeIn K (.ref (T.a_Asleep)) = some (.type "type") := (TopB.exc T 10 rfl : ExcT K mg "Asleep").t
theorem Txt.i_Asleep {K : PySem.W.Frag} {mg : Str → Option Value} (T : Txt K mg) : PySem.W.isClsIn K (T.a_Asleep) = true := (TopB.exc T 10 rfl : ExcT K mg "Asleep").i
theorem Txt.h_Asleep {K : PySem.W.Frag} {mg : Str → Option Value} (T : Txt K mg) : PySem.W.hasDictIn K (T.a_Asleep) = true := (TopB.exc T 10 rfl : ExcT K mg "Asleep").h
theorem Txt.ga_Asleep {K : PySem.W.Frag} {mg : Str → Option Value} (T : Txt K mg) : PySem.W.findIn K (.ref (T.a_Asleep)) "__getattribute__" = some (some (.builtin "BaseException.__getattribute__")) := (TopB.exc T 10 rfl : ExcT K mg "Asleep").ga
theorem Txt.gg_Asleep {K : PySem.W.Frag} {mg : Str → Option Value} (T : Txt K mg) : PySem.W.findIn K (.ref (T.a_Asleep)) "__getattr__" = some none := (TopB.exc T 10 rfl : ExcT K mg "Asleep").gg
theorem Txt.cl_Asleep {K : PySem.W.Frag} {mg : Str → Option Value} (T : Txt K mg) : PySem.W.findIn K (.ref (T.a_Asleep)) "__class__" = some (some (.builtin "object.__class__")) := (TopB.exc T 10 rfl : ExcT K mg "Asleep").cl
theorem Txt.mo_Asleep {K : PySem.W.Frag} {mg : Str → Option Value} (T : Txt K mg) : PySem.W.mroIn K (T.a_Asleep) (.type "object") = some true := (TopB.exc T 10 rfl : ExcT K mg "Asleep").mo
theorem Txt.s_Asleep_MastError {K : PySem.W.Frag} {mg : Str → Option Value} (T : Txt K mg) : PySem.W.subIn K (.ref (T.a_Asleep)) (.ref (He.ga K "MastError")) = some true := (TopB.exc T 10 rfl : ExcT K mg "Asleep").s
abbrev Txt.a_Awake {K : PySem.W.Frag} {mg : Str → Option Value} (T : Txt K mg) : Addr := He.ga K "Awake"
theorem Txt.g_Awake {K : PySem.W.Frag} {mg : Str → Option Value} (T : Txt K mg) : mg "Awake" = some (.ref (T.a_Awake)) := (TopB.exc T 11 rfl : ExcT K mg "Awake").g
theorem Txt.x_Awake {K : PySem.W.Frag} {mg : Str → Option Value} (T : Txt K mg) : PySem.W.excIn K (T.a_Awake) He.veBase "ValueError.__new__" = true := (TopB.exc T 11 rfl : ExcT K mg "Awake").x
theorem Txt.k_Awake {K : PySem.W.Frag} {mg : Str → Option Value} (T : Txt K mg) : PySem.W.keepIn K (.ref (T.a_Awake)) = true := (TopB.exc T 11 rfl : ExcT K mg "Awake").k
theorem Txt.b_Awake {K : PySem.W.Frag} {mg : Str → Option Value} (T : Txt K mg) : PySem.W.subIn K (.ref (T.a_Awake)) (.type "BaseException") = some true := (TopB.exc T 11 rfl : ExcT K mg "Awake").b
theorem Txt.t_Awake {K : PySem.W.Frag} {mg : Str → Option Value} (T : Txt K mg) : PySem.W.typeIn K (.ref (T.a_Awake)) = some (.type "type") := (TopB.exc T 11 rfl : ExcT K mg "Awake").t
theorem Txt.i_Awake {K : PySem.W.Frag} {mg : Str → Option Value} (T : Txt K mg) : PySem.W.isClsIn K (T.a_Awake) = true := (TopB.exc T 11 rfl : ExcT K mg "Awake").i
theorem Txt.h_Awake {K : PySem.W.Frag} {mg : Str → Option Value} (T : Txt K mg) : PySem.W.hasDictIn K (T.a_Awake) = true := (TopB.exc T 11 rfl : ExcT K mg "Awake").h
theorem Txt.ga_Awake {K : PySem.W.Frag} {mg : Str → Option Value} (T : Txt K mg) : PySem.W.findIn K (.ref (T.a_Awake)) "__getattribute__" = some (some (.builtin "BaseException.__getattribute__")) := (TopB.exc T 11 rfl : ExcT K mg "Awake").ga
theorem Txt.gg_Awake {K : PySem.W.Frag} {mg : Str → Option Value} (T : Txt K mg) : PySem.W.findIn K (.ref (T.a_Awake)) "__getattr__" = some none := (TopB.exc T 11 rfl : ExcT K mg "Awake").gg
theorem Txt.cl_Awake {K : PySem.W.Frag} {mg : Str → Option Value} (T : Txt K mg) : PySem.W.findIn K (.ref (T.a_Awake)) "__class__" = some (some (.builtin "object.__class__")) := (TopB.exc T 11 rfl : ExcT K mg "Awake").cl
theorem Txt.mo_Awake {K : PySem.W.Frag} {mg : Str → Option Value} (T : Txt K mg) : PySem.W.mroIn K (T.a_Awake) (.type "object") = some true := (TopB.exc T 11 rfl : ExcT K mg "Awake").mo
theorem Txt.s_Awake_MastError {K : PySem.W.Frag} {mg : Str → Option Value} (T : Txt K mg) : PySem.W.subIn K (.ref (T.a_Awake)) (.ref (He.ga K "MastError")) = some true := (TopB.exc T 11 rfl : ExcT K mg "Awake").s
abbrev Txt.a_Fogged {K : PySem.W.Frag} {mg : Str → Option Value} (T : Txt K mg) : Addr := He.ga K "Fogged"
theorem Txt.g_Fogged {K : PySem.W.Frag} {mg : Str → Option Value} (T : Txt K mg) : mg "Fogged" = some (.ref (T.a_Fogged)) := (TopB.exc T 12 rfl : ExcT K mg "Fogged").g
theorem Txt.x_Fogged {K : PySem.W.Frag} {mg : Str → Option Value} (T : Txt K mg) : PySem.W.excIn K (T.a_Fogged) He.veBase "ValueError.__new__" = true := (TopB.exc T 12 rfl : ExcT K mg "Fogged").x
theorem Txt.k_Fogged {K : PySem.W.Frag} {mg : Str → Option Value} (T : Txt K mg) : PySem.W.keepIn K (.ref (T.a_Fogged)) = true := (TopB.exc T 12 rfl : ExcT K mg "Fogged").k
theorem Txt.b_Fogged {K : PySem.W.Frag} {mg : Str → Option Value} (T : Txt K mg) : PySem.W.subIn K (.ref (T.a_Fogged)) (.type "BaseException") = some true := (TopB.exc T 12 rfl : ExcT K mg "Fogged").b
theorem Txt.t_Fogged {K : PySem.W.Frag} {mg : Str → Option Value} (T : Txt K mg) : PySem.W.typeIn K (.ref (T.a_Fogged)) = some (.type "type") := (TopB.exc T 12 rfl : ExcT K mg "Fogged").t
theorem Txt.i_Fogged {K : PySem.W.Frag} {mg : Str → Option Value} (T : Txt K mg) : PySem.W.isClsIn K (T.a_Fogged) = true := (TopB.exc T 12 rfl : ExcT K mg "Fogged").i
theorem Txt.h_Fogged {K : PySem.W.Frag} {mg : Str → Option Value} (T : Txt K mg) : PySem.W.hasDictIn K (T.a_Fogged) = true := (TopB.exc T 12 rfl : ExcT K mg "Fogged").h
theorem Txt.ga_Fogged {K : PySem.W.Frag} {mg : Str → Option Value} (T : Txt K mg) : PySem.W.findIn K (.ref (T.a_Fogged)) "__getattribute__" = some (some (.builtin "BaseException.__getattribute__")) := (TopB.exc T 12 rfl : ExcT K mg "Fogged").ga
theorem Txt.gg_Fogged {K : PySem.W.Frag} {mg : Str → Option Value} (T : Txt K mg) : PySem.W.findIn K (.ref (T.a_Fogged)) "__getattr__" = some none := (TopB.exc T 12 rfl : ExcT K mg "Fogged").gg
theorem Txt.cl_Fogged {K : PySem.W.Frag} {mg : Str → Option Value} (T : Txt K mg) : PySem.W.findIn K (.ref (T.a_Fogged)) "__class__" = some (some (.builtin "object.__class__")) := (TopB.exc T 12 rfl : ExcT K mg "Fogged").cl
theorem Txt.mo_Fogged {K : PySem.W.Frag} {mg : Str → Option Value} (T : Txt K mg) : PySem.W.mroIn K (T.a_Fogged) (.type "object") = some true := (TopB.exc T 12 rfl : ExcT K mg "Fogged").mo
theorem Txt.s_Fogged_MastError {K : PySem.W.Frag} {mg : Str → Option Value} (T : Txt K mg) : PySem.W.subIn K (.ref (T.a_Fogged)) (.ref (He.ga K "MastError")) = some true := (TopB.exc T 12 rfl : ExcT K mg "Fogged").s
abbrev Txt.a_Clear {K : PySem.W.Frag} {mg : Str → Option Value} (T : Txt K mg) : Addr := He.ga K "Clear"
theorem Txt.g_Clear {K : PySem.W.Frag} {mg : Str → Option Value} (T : Txt K mg) : mg "Clear" = some (.ref (T.a_Clear)) := (TopB.exc T 13 rfl : ExcT K mg "Clear").g
theorem Txt.x_Clear {K : PySem.W.Frag} {mg : Str → Option Value} (T : Txt K mg) : PySem.W.excIn K (T.a_Clear) He.veBase "ValueError.__new__" = true := (TopB.exc T 13 rfl : ExcT K mg "Clear").x
theorem Txt.k_Clear {K : PySem.W.Frag} {mg : Str → Option Value} (T : Txt K mg) : PySem.W.keepIn K (.ref (T.a_Clear)) = true := (TopB.exc T 13 rfl : ExcT K mg "Clear").k
theorem Txt.b_Clear {K : PySem.W.Frag} {mg : Str → Option Value} (T : Txt K mg) : PySem.W.subIn K (.ref (T.a_Clear)) (.type "BaseException") = some true := (TopB.exc T 13 rfl : ExcT K mg "Clear").b
theorem Txt.t_Clear {K : PySem.W.Frag} {mg : Str → Option Value} (T : Txt K mg) : PySem.W.typeIn K (.ref (T.a_Clear)) = some (.type "type") := (TopB.exc T 13 rfl : ExcT K mg "Clear").t
theorem Txt.i_Clear {K : PySem.W.Frag} {mg : Str → Option Value} (T : Txt K mg) : PySem.W.isClsIn K (T.a_Clear) = true := (TopB.exc T 13 rfl : ExcT K mg "Clear").i
theorem Txt.h_Clear {K : PySem.W.Frag} {mg : Str → Option Value} (T : Txt K mg) : PySem.W.hasDictIn K (T.a_Clear) = true := (TopB.exc T 13 rfl : ExcT K mg "Clear").h
theorem Txt.ga_Clear {K : PySem.W.Frag} {mg : Str → Option Value} (T : Txt K mg) : PySem.W.findIn K (.ref (T.a_Clear)) "__getattribute__" = some (some (.builtin "BaseException.__getattribute__")) := (TopB.exc T 13 rfl : ExcT K mg "Clear").ga
theorem Txt.gg_Clear {K : PySem.W.Frag} {mg : Str → Option Value} (T : Txt K mg) : PySem.W.findIn K (.ref (T.a_Clear)) "__getattr__" = some none := (TopB.exc T 13 rfl : ExcT K mg "Clear").gg
theorem Txt.cl_Clear {K : PySem.W.Frag} {mg : Str → Option Value} (T : Txt K mg) : PySem.W.findIn K (.ref (T.a_Clear)) "__class__" = some (some (.builtin "object.__class__")) := (TopB.exc T 13 rfl : ExcT K mg "Clear").cl
theorem Txt.mo_Clear {K : PySem.W.Frag} {mg : Str → Option Value} (T : Txt K mg) : PySem.W.mroIn K (T.a_Clear) (.type "object") = some true := (TopB.exc T 13 rfl : ExcT K mg "Clear").mo
theorem Txt.s_Clear_MastError {K : PySem.W.Frag} {mg : Str → Option Value} (T : Txt K mg) : PySem.W.subIn K (.ref (T.a_Clear)) (.ref (He.ga K "MastError")) = some true := (TopB.exc T 13 rfl : ExcT K mg "Clear").s
abbrev Txt.a_Busy {K : PySem.W.Frag} {mg : Str → Option Value} (T : Txt K mg) : Addr := He.ga K "Busy"
theorem Txt.g_Busy {K : PySem.W.Frag} {mg : Str → Option Value} (T : Txt K mg) : mg "Busy" = some (.ref (T.a_Busy)) := (TopB.exc T 14 rfl : ExcT K mg "Busy").g
theorem Txt.x_Busy {K : PySem.W.Frag} {mg : Str → Option Value} (T : Txt K mg) : PySem.W.excIn K (T.a_Busy) He.veBase "ValueError.__new__" = true := (TopB.exc T 14 rfl : ExcT K mg "Busy").x
theorem Txt.k_Busy {K : PySem.W.Frag} {mg : Str → Option Value} (T : Txt K mg) : PySem.W.keepIn K (.ref (T.a_Busy)) = true := (TopB.exc T 14 rfl : ExcT K mg "Busy").k
theorem Txt.b_Busy {K : PySem.W.Frag} {mg : Str → Option Value} (T : Txt K mg) : PySem.W.subIn K (.ref (T.a_Busy)) (.type "BaseException") = some true := (TopB.exc T 14 rfl : ExcT K mg "Busy").b
theorem Txt.t_Busy {K : PySem.W.Frag} {mg : Str → Option Value} (T : Txt K mg) : PySem.W.typeIn K (.ref (T.a_Busy)) = some (.type "type") := (TopB.exc T 14 rfl : ExcT K mg "Busy").t
theorem Txt.i_Busy {K : PySem.W.Frag} {mg : Str → Option Value} (T : Txt K mg) : PySem.W.isClsIn K (T.a_Busy) = true := (TopB.exc T 14 rfl : ExcT K mg "Busy").i
theorem Txt.h_Busy {K : PySem.W.Frag} {mg : Str → Option Value} (T : Txt K mg) : PySem.W.hasDictIn K (T.a_Busy) = true := (TopB.exc T 14 rfl : ExcT K mg "Busy").h
theorem Txt.ga_Busy {K : PySem.W.Frag} {mg : Str → Option Value} (T : Txt K mg) : PySem.W.findIn K (.ref (T.a_Busy)) "__getattribute__" = some (some (.builtin "BaseException.__getattribute__")) := (TopB.exc T 14 rfl : ExcT K mg "Busy").ga
theorem Txt.gg_Busy {K : PySem.W.Frag} {mg : Str → Option Value} (T : Txt K mg) : PySem.W.findIn K (.ref (T.a_Busy)) "__getattr__" = some none := (TopB.exc T 14 rfl : ExcT K mg "Busy").gg
theorem Txt.cl_Busy {K : PySem.W.Frag} {mg : Str → Option Value} (T : Txt K mg) : PySem.W.findIn K (.ref (T.a_Busy)) "__class__" = some (some (.builtin "object.__class__")) := (TopB.exc T 14 rfl : ExcT K mg "Busy").cl
theorem Txt.mo_Busy {K : PySem.W.Frag} {mg : Str → Option Value} (T : Txt K mg) : PySem.W.mroIn K (T.a_Busy) (.type "object") = some true := (TopB.exc T 14 rfl : ExcT K mg "Busy").mo
theorem Txt.s_Busy_MastError {K : PySem.W.Frag} {mg : Str → Option Value} (T : Txt K mg) : PySem.W.subIn K (.ref (T.a_Busy)) (.ref (He.ga K "MastError")) = some true := (TopB.exc T 14 rfl : ExcT K mg "Busy").s
abbrev Txt.a_NoRow {K : PySem.W.Frag} {mg : Str → Option Value} (T : Txt K mg) : Addr := He.ga K "NoRow"
theorem Txt.g_NoRow {K : PySem.W.Frag} {mg : Str → Option Value} (T : Txt K mg) : mg "NoRow" = some (.ref (T.a_NoRow)) := (TopB.exc T 15 rfl : ExcT K mg "NoRow").g
theorem Txt.x_NoRow {K : PySem.W.Frag} {mg : Str → Option Value} (T : Txt K mg) : PySem.W.excIn K (T.a_NoRow) He.veBase "ValueError.__new__" = true := (TopB.exc T 15 rfl : ExcT K mg "NoRow").x
theorem Txt.k_NoRow {K : PySem.W.Frag} {mg : Str → Option Value} (T : Txt K mg) : PySem.W.keepIn K (.ref (T.a_NoRow)) = true := (TopB.exc T 15 rfl : ExcT K mg "NoRow").k
theorem Txt.b_NoRow {K : PySem.W.Frag} {mg : Str → Option Value} (T : Txt K mg) : PySem.W.subIn K (.ref (T.a_NoRow)) (.type "BaseException") = some true := (TopB.exc T 15 rfl : ExcT K mg "NoRow").b
theorem Txt.t_NoRow {K : PySem.W.Frag} {mg : Str → Option Value} (T : Txt K mg) : PySem.W.typeIn K (.ref (T.a_NoRow)) = some (.type "type") := (TopB.exc T 15 rfl : ExcT K mg "NoRow").t
theorem Txt.i_NoRow {K : PySem.W.Frag} {mg : Str → Option Value} (T : Txt K mg) : PySem.W.isClsIn K (T.a_NoRow) = true := (TopB.exc T 15 rfl : ExcT K mg "NoRow").i
theorem Txt.h_NoRow {K : PySem.W.Frag} {mg : Str → Option Value} (T : Txt K mg) : PySem.W.hasDictIn K (T.a_NoRow) = true := (TopB.exc T 15 rfl : ExcT K mg "NoRow").h
theorem Txt.ga_NoRow {K : PySem.W.Frag} {mg : Str → Option Value} (T : Txt K mg) : PySem.W.findIn K (.ref (T.a_NoRow)) "__getattribute__" = some (some (.builtin "BaseException.__getattribute__")) := (TopB.exc T 15 rfl : ExcT K mg "NoRow").ga
theorem Txt.gg_NoRow {K : PySem.W.Frag} {mg : Str → Option Value} (T : Txt K mg) : PySem.W.findIn K (.ref (T.a_NoRow)) "__getattr__" = some none := (TopB.exc T 15 rfl : ExcT K mg "NoRow").gg
theorem Txt.cl_NoRow {K : PySem.W.Frag} {mg : Str → Option Value} (T : Txt K mg) : PySem.W.findIn K (.ref (T.a_NoRow)) "__class__" = some (some (.builtin "object.__class__")) := (TopB.exc T 15 rfl : ExcT K mg "NoRow").cl
theorem Txt.mo_NoRow {K : PySem.W.Frag} {mg : Str → Option Value} (T : Txt K mg) : PySem.W.mroIn K (T.a_NoRow) (.type "object") = some true := (TopB.exc T 15 rfl : ExcT K mg "NoRow").mo
theorem Txt.s_NoRow_MastError {K : PySem.W.Frag} {mg : Str → Option Value} (T : Txt K mg) : PySem.W.subIn K (.ref (T.a_NoRow)) (.ref (He.ga K "MastError")) = some true := (TopB.exc T 15 rfl : ExcT K mg "NoRow").s
abbrev Txt.a_NoBook {K : PySem.W.Frag} {mg : Str → Option Value} (T : Txt K mg) : Addr := He.ga K "NoBook"
theorem Txt.g_NoBook {K : PySem.W.Frag} {mg : Str → Option Value} (T : Txt K mg) : mg "NoBook" = some (.ref (T.a_NoBook)) := (TopB.exc T 16 rfl : ExcT K mg "NoBook").g
theorem Txt.x_NoBook {K : PySem.W.Frag} {mg : Str → Option Value} (T : Txt K mg) : PySem.W.excIn K (T.a_NoBook) He.veBase "ValueError.__new__" = true := (TopB.exc T 16 rfl : ExcT K mg "NoBook").x
theorem Txt.k_NoBook {K : PySem.W.Frag} {mg : Str → Option Value} (T : Txt K mg) : PySem.W.keepIn K (.ref (T.a_NoBook)) = true := (TopB.exc T 16 rfl : ExcT K mg "NoBook").k
theorem Txt.b_NoBook {K : PySem.W.Frag} {mg : Str → Option Value} (T : Txt K mg) : PySem.W.subIn K (.ref (T.a_NoBook)) (.type "BaseException") = some true := (TopB.exc T 16 rfl : ExcT K mg "NoBook").b
theorem Txt.t_NoBook {K : PySem.W.Frag} {mg : Str → Option Value} (T : Txt K mg) : PySem.W.typeIn K (.ref (T.a_NoBook)) = some (.type "type") := (TopB.exc T 16 rfl : ExcT K mg "NoBook").t
theorem Txt.i_NoBook {K : PySem.W.Frag} {mg : Str → Option Value} (T : Txt K mg) : PySem.W.isClsIn K (T.a_NoBook) = true := (TopB.exc T 16 rfl : ExcT K mg "NoBook").i
theorem Txt.h_NoBook {K : PySem.W.Frag} {mg : Str → Option Value} (T : Txt K mg) : PySem.W.hasDictIn K (T.a_NoBook) = true := (TopB.exc T 16 rfl : ExcT K mg "NoBook").h
theorem Txt.ga_NoBook {K : PySem.W.Frag} {mg : Str → Option Value} (T : Txt K mg) : PySem.W.findIn K (.ref (T.a_NoBook)) "__getattribute__" = some (some (.builtin "BaseException.__getattribute__")) := (TopB.exc T 16 rfl : ExcT K mg "NoBook").ga
theorem Txt.gg_NoBook {K : PySem.W.Frag} {mg : Str → Option Value} (T : Txt K mg) : PySem.W.findIn K (.ref (T.a_NoBook)) "__getattr__" = some none := (TopB.exc T 16 rfl : ExcT K mg "NoBook").gg
theorem Txt.cl_NoBook {K : PySem.W.Frag} {mg : Str → Option Value} (T : Txt K mg) : PySem.W.findIn K (.ref (T.a_NoBook)) "__class__" = some (some (.builtin "object.__class__")) := (TopB.exc T 16 rfl : ExcT K mg "NoBook").cl
theorem Txt.mo_NoBook {K : PySem.W.Frag} {mg : Str → Option Value} (T : Txt K mg) : PySem.W.mroIn K (T.a_NoBook) (.type "object") = some true := (TopB.exc T 16 rfl : ExcT K mg "NoBook").mo
theorem Txt.s_NoBook_MastError {K : PySem.W.Frag} {mg : Str → Option Value} (T : Txt K mg) : PySem.W.subIn K (.ref (T.a_NoBook)) (.ref (He.ga K "MastError")) = some true := (TopB.exc T 16 rfl : ExcT K mg "NoBook").s
abbrev Txt.a_Lost {K : PySem.W.Frag} {mg : Str → Option Value} (T : Txt K mg) : Addr := He.ga K "Lost"
theorem Txt.g_Lost {K : PySem.W.Frag} {mg : Str → Option Value} (T : Txt K mg) : mg "Lost" = some (.ref (T.a_Lost)) := (TopB.exc T 17 rfl : ExcT K mg "Lost").g
theorem Txt.x_Lost {K : PySem.W.Frag} {mg : Str → Option Value} (T : Txt K mg) : PySem.W.excIn K (T.a_Lost) He.veBase "ValueError.__new__" = true := (TopB.exc T 17 rfl : ExcT K mg "Lost").x
theorem Txt.k_Lost {K : PySem.W.Frag} {mg : Str → Option Value} (T : Txt K mg) : PySem.W.keepIn K (.ref (T.a_Lost)) = true := (TopB.exc T 17 rfl : ExcT K mg "Lost").k
theorem Txt.b_Lost {K : PySem.W.Frag} {mg : Str → Option Value} (T : Txt K mg) : PySem.W.subIn K (.ref (T.a_Lost)) (.type "BaseException") = some true := (TopB.exc T 17 rfl : ExcT K mg "Lost").b
theorem Txt.t_Lost {K : PySem.W.Frag} {mg : Str → Option Value} (T : Txt K mg) : PySem.W.typeIn K (.ref (T.a_Lost)) = some (.type "type") := (TopB.exc T 17 rfl : ExcT K mg "Lost").t
theorem Txt.i_Lost {K : PySem.W.Frag} {mg : Str → Option Value} (T : Txt K mg) : PySem.W.isClsIn K (T.a_Lost) = true := (TopB.exc T 17 rfl : ExcT K mg "Lost").i
theorem Txt.h_Lost {K : PySem.W.Frag} {mg : Str → Option Value} (T : Txt K mg) : PySem.W.hasDictIn K (T.a_Lost) = true := (TopB.exc T 17 rfl : ExcT K mg "Lost").h
theorem Txt.ga_Lost {K : PySem.W.Frag} {mg : Str → Option Value} (T : Txt K mg) : PySem.W.findIn K (.ref (T.a_Lost)) "__getattribute__" = some (some (.builtin "BaseException.__getattribute__")) := (TopB.exc T 17 rfl : ExcT K mg "Lost").ga
theorem Txt.gg_Lost {K : PySem.W.Frag} {mg : Str → Option Value} (T : Txt K mg) : PySem.W.findIn K (.ref (T.a_Lost)) "__getattr__" = some none := (TopB.exc T 17 rfl : ExcT K mg "Lost").gg
theorem Txt.cl_Lost {K : PySem.W.Frag} {mg : Str → Option Value} (T : Txt K mg) : PySem.W.findIn K (.ref (T.a_Lost)) "__class__" = some (some (.builtin "object.__class__")) := (TopB.exc T 17 rfl : ExcT K mg "Lost").cl
theorem Txt.mo_Lost {K : PySem.W.Frag} {mg : Str → Option Value} (T : Txt K mg) : PySem.W.mroIn K (T.a_Lost) (.type "object") = some true := (TopB.exc T 17 rfl : ExcT K mg "Lost").mo
theorem Txt.s_Lost_MastError {K : PySem.W.Frag} {mg : Str → Option Value} (T : Txt K mg) : PySem.W.subIn K (.ref (T.a_Lost)) (.ref (He.ga K "MastError")) = some true := (TopB.exc T 17 rfl : ExcT K mg "Lost").s
abbrev Txt.a_Legible {K : PySem.W.Frag} {mg : Str → Option Value} (T : Txt K mg) : Addr := He.ga K "Legible"
theorem Txt.g_Legible {K : PySem.W.Frag} {mg : Str → Option Value} (T : Txt K mg) : mg "Legible" = some (.ref (T.a_Legible)) := (TopB.exc T 18 rfl : ExcT K mg "Legible").g
theorem Txt.x_Legible {K : PySem.W.Frag} {mg : Str → Option Value} (T : Txt K mg) : PySem.W.excIn K (T.a_Legible) He.veBase "ValueError.__new__" = true := (TopB.exc T 18 rfl : ExcT K mg "Legible").x
theorem Txt.k_Legible {K : PySem.W.Frag} {mg : Str → Option Value} (T : Txt K mg) : PySem.W.keepIn K (.ref (T.a_Legible)) = true := (TopB.exc T 18 rfl : ExcT K mg "Legible").k
theorem Txt.b_Legible {K : PySem.W.Frag} {mg : Str → Option Value} (T : Txt K mg) : PySem.W.subIn K (.ref (T.a_Legible)) (.type "BaseException") = some true := (TopB.exc T 18 rfl : ExcT K mg "Legible").b
theorem Txt.t_Legible {K : PySem.W.Frag} {mg : Str → Option Value} (T : Txt K mg) : PySem.W.typeIn K (.ref (T.a_Legible)) = some (.type "type") := (TopB.exc T 18 rfl : ExcT K mg "Legible").t
theorem Txt.i_Legible {K : PySem.W.Frag} {mg : Str → Option Value} (T : Txt K mg) : PySem.W.isClsIn K (T.a_Legible) = true := (TopB.exc T 18 rfl : ExcT K mg "Legible").i
theorem Txt.h_Legible {K : PySem.W.Frag} {mg : Str → Option Value} (T : Txt K mg) : PySem.W.hasDictIn K (T.a_Legible) = true := (TopB.exc T 18 rfl : ExcT K mg "Legible").h
theorem Txt.ga_Legible {K : PySem.W.Frag} {mg : Str → Option Value} (T : Txt K mg) : PySem.W.findIn K (.ref (T.a_Legible)) "__getattribute__" = some (some (.builtin "BaseException.__getattribute__")) := (TopB.exc T 18 rfl : ExcT K mg "Legible").ga
theorem Txt.gg_Legible {K : PySem.W.Frag} {mg : Str → Option Value} (T : Txt K mg) : PySem.W.findIn K (.ref (T.a_Legible)) "__getattr__" = some none := (TopB.exc T 18 rfl : ExcT K mg "Legible").gg
theorem Txt.cl_Legible {K : PySem.W.Frag} {mg : Str → Option Value} (T : Txt K mg) : PySem.W.findIn K (.ref (T.a_Legible)) "__class__" = some (some (.builtin "object.__class__")) := (TopB.exc T 18 rfl : ExcT K mg "Legible").cl
theorem Txt.mo_Legible {K : PySem.W.Frag} {mg : Str → Option Value} (T : Txt K mg) : PySem.W.mroIn K (T.a_Legible) (.type "object") = some true := (TopB.exc T 18 rfl : ExcT K mg "Legible").mo
theorem Txt.s_Legible_MastError {K : PySem.W.Frag} {mg : Str → Option Value} (T : Txt K mg) : PySem.W.subIn K (.ref (T.a_Legible)) (.ref (He.ga K "MastError")) = some true := (TopB.exc T 18 rfl : ExcT K mg "Legible").s
abbrev Txt.a_NothingLeft {K : PySem.W.Frag} {mg : Str → Option Value} (T : Txt K mg) : Addr := He.ga K "NothingLeft"
theorem Txt.g_NothingLeft {K : PySem.W.Frag} {mg : Str → Option Value} (T : Txt K mg) : mg "NothingLeft" = some (.ref (T.a_NothingLeft)) := (TopB.exc T 19 rfl : ExcT K mg "NothingLeft").g
theorem Txt.x_NothingLeft {K : PySem.W.Frag} {mg : Str → Option Value} (T : Txt K mg) : PySem.W.excIn K (T.a_NothingLeft) He.veBase "ValueError.__new__" = true := (TopB.exc T 19 rfl : ExcT K mg "NothingLeft").x
theorem Txt.k_NothingLeft {K : PySem.W.Frag} {mg : Str → Option Value} (T : Txt K mg) : PySem.W.keepIn K (.ref (T.a_NothingLeft)) = true := (TopB.exc T 19 rfl : ExcT K mg "NothingLeft").k
theorem Txt.b_NothingLeft {K : PySem.W.Frag} {mg : Str → Option Value} (T : Txt K mg) : PySem.W.subIn K (.ref (T.a_NothingLeft)) (.type "BaseException") = some true := (TopB.exc T 19 rfl : ExcT K mg "NothingLeft").b
theorem Txt.t_NothingLeft {K : PySem.W.Frag} {mg : Str → Option Value} (T : Txt K mg) : PySem.W.typeIn K (.ref (T.a_NothingLeft)) = some (.type "type") := (TopB.exc T 19 rfl : ExcT K mg "NothingLeft").t
theorem Txt.i_NothingLeft {K : PySem.W.Frag} {mg : Str → Option Value} (T : Txt K mg) : PySem.W.isClsIn K (T.a_NothingLeft) = true := (TopB.exc T 19 rfl : ExcT K mg "NothingLeft").i
theorem Txt.h_NothingLeft {K : PySem.W.Frag} {mg : Str → Option Value} (T : Txt K mg) : PySem.W.hasDictIn K (T.a_NothingLeft) = true := (TopB.exc T 19 rfl : ExcT K mg "NothingLeft").h
theorem Txt.ga_NothingLeft {K : PySem.W.Frag} {mg : Str → Option Value} (T : Txt K mg) : PySem.W.findIn K (.ref (T.a_NothingLeft)) "__getattribute__" = some (some (.builtin "BaseException.__getattribute__")) := (TopB.exc T 19 rfl : ExcT K mg "NothingLeft").ga
theorem Txt.gg_NothingLeft {K : PySem.W.Frag} {mg : Str → Option Value} (T : Txt K mg) : PySem.W.findIn K (.ref (T.a_NothingLeft)) "__getattr__" = some none := (TopB.exc T 19 rfl : ExcT K mg "NothingLeft").gg
theorem Txt.cl_NothingLeft {K : PySem.W.Frag} {mg : Str → Option Value} (T : Txt K mg) : PySem.W.findIn K (.ref (T.a_NothingLeft)) "__class__" = some (some (.builtin "object.__class__")) := (TopB.exc T 19 rfl : ExcT K mg "NothingLeft").cl
theorem Txt.mo_NothingLeft {K : PySem.W.Frag} {mg : Str → Option Value} (T : Txt K mg) : PySem.W.mroIn K (T.a_NothingLeft) (.type "object") = some true := (TopB.exc T 19 rfl : ExcT K mg "NothingLeft").mo
theorem Txt.s_NothingLeft_MastError {K : PySem.W.Frag} {mg : Str → Option Value} (T : Txt K mg) : PySem.W.subIn K (.ref (T.a_NothingLeft)) (.ref (He.ga K "MastError")) = some true := (TopB.exc T 19 rfl : ExcT K mg "NothingLeft").s
abbrev Txt.a_BadPlace {K : PySem.W.Frag} {mg : Str → Option Value} (T : Txt K mg) : Addr := He.ga K "BadPlace"
theorem Txt.g_BadPlace {K : PySem.W.Frag} {mg : Str → Option Value} (T : Txt K mg) : mg "BadPlace" = some (.ref (T.a_BadPlace)) := (TopB.exc T 20 rfl : ExcT K mg "BadPlace").g
theorem Txt.x_BadPlace {K : PySem.W.Frag} {mg : Str → Option Value} (T : Txt K mg) : PySem.W.excIn K (T.a_BadPlace) He.veBase "ValueError.__new__" = true := (TopB.exc T 20 rfl : ExcT K mg "BadPlace").x
theorem Txt.k_BadPlace {K : PySem.W.Frag} {mg : Str → Option Value} (T : Txt K mg) : PySem.W.keepIn K (.ref (T.a_BadPlace)) = true := (TopB.exc T 20 rfl : ExcT K mg "BadPlace").k
theorem Txt.b_BadPlace {K : PySem.W.Frag} {mg : Str → Option Value} (T : Txt K mg) : PySem.W.subIn K (.ref (T.a_BadPlace)) (.type "BaseException") = some true := (TopB.exc T 20 rfl : ExcT K mg "BadPlace").b
theorem Txt.t_BadPlace {K : PySem.W.Frag} {mg : Str → Option Value} (T : Txt K mg) : PySem.W.typeIn K (.ref (T.a_BadPlace)) = some (.type "type") := (TopB.exc T 20 rfl : ExcT K mg "BadPlace").t
theorem Txt.i_BadPlace {K : PySem.W.Frag} {mg : Str → Option Value} (T : Txt K mg) : PySem.W.isClsIn K (T.a_BadPlace) = true := (TopB.exc T 20 rfl : ExcT K mg "BadPlace").i
theorem Txt.h_BadPlace {K : PySem.W.Frag} {mg : Str → Option Value} (T : Txt K mg) : PySem.W.hasDictIn K (T.a_BadPlace) = true := (TopB.exc T 20 rfl : ExcT K mg "BadPlace").h
theorem Txt.ga_BadPlace {K : PySem.W.Frag} {mg : Str → Option Value} (T : Txt K mg) : PySem.W.findIn K (.ref (T.a_BadPlace)) "__getattribute__" = some (some (.builtin "BaseException.__getattribute__")) := (TopB.exc T 20 rfl : ExcT K mg "BadPlace").ga
theorem Txt.gg_BadPlace {K : PySem.W.Frag} {mg : Str → Option Value} (T : Txt K mg) : PySem.W.findIn K (.ref (T.a_BadPlace)) "__getattr__" = some none := (TopB.exc T 20 rfl : ExcT K mg "BadPlace").gg
theorem Txt.cl_BadPlace {K : PySem.W.Frag} {mg : Str → Option Value} (T : Txt K mg) : PySem.W.findIn K (.ref (T.a_BadPlace)) "__class__" = some (some (.builtin "object.__class__")) := (TopB.exc T 20 rfl : ExcT K mg "BadPlace").cl
theorem Txt.mo_BadPlace {K : PySem.W.Frag} {mg : Str → Option Value} (T : Txt K mg) : PySem.W.mroIn K (T.a_BadPlace) (.type "object") = some true := (TopB.exc T 20 rfl : ExcT K mg "BadPlace").mo
theorem Txt.s_BadPlace_MastError {K : PySem.W.Frag} {mg : Str → Option Value} (T : Txt K mg) : PySem.W.subIn K (.ref (T.a_BadPlace)) (.ref (He.ga K "MastError")) = some true := (TopB.exc T 20 rfl : ExcT K mg "BadPlace").s
abbrev Txt.a_BadWord {K : PySem.W.Frag} {mg : Str → Option Value} (T : Txt K mg) : Addr := He.ga K "BadWord"
theorem Txt.g_BadWord {K : PySem.W.Frag} {mg : Str → Option Value} (T : Txt K mg) : mg "BadWord" = some (.ref (T.a_BadWord)) := (TopB.exc T 21 rfl : ExcT K mg "BadWord").g
theorem Txt.x_BadWord {K : PySem.W.Frag} {mg : Str → Option Value} (T : Txt K mg) : PySem.W.excIn K (T.a_BadWord) He.veBase "ValueError.__new__" = true := (TopB.exc T 21 rfl : ExcT K mg "BadWord").x
theorem Txt.k_BadWord {K : PySem.W.Frag} {mg : Str → Option Value} (T : Txt K mg) : PySem.W.keepIn K (.ref (T.a_BadWord)) = true := (TopB.exc T 21 rfl : ExcT K mg "BadWord").k
theorem Txt.b_BadWord {K : PySem.W.Frag} {mg : Str → Option Value} (T : Txt K mg) : PySem.W.subIn K (.ref (T.a_BadWord)) (.type "BaseException") = some true := (TopB.exc T 21 rfl : ExcT K mg "BadWord").b
theorem Txt.t_BadWord {K : PySem.W.Frag} {mg : Str → Option Value} (T : Txt K mg) : PySem.W.typeIn K (.ref (T.a_BadWord)) = some (.type "type") := (TopB.exc T 21 rfl : ExcT K mg "BadWord").t
theorem Txt.i_BadWord {K : PySem.W.Frag} {mg : Str → Option Value} (T : Txt K mg) : PySem.W.isClsIn K (T.a_BadWord) = true := (TopB.exc T 21 rfl : ExcT K mg "BadWord").i
theorem Txt.h_BadWord {K : PySem.W.Frag} {mg : Str → Option Value} (T : Txt K mg) : PySem.W.hasDictIn K (T.a_BadWord) = true := (TopB.exc T 21 rfl : ExcT K mg "BadWord").h
theorem Txt.ga_BadWord {K : PySem.W.Frag} {mg : Str → Option Value} (T : Txt K mg) : PySem.W.findIn K (.ref (T.a_BadWord)) "__getattribute__" = some (some (.builtin "BaseException.__getattribute__")) := (TopB.exc T 21 rfl : ExcT K mg "BadWord").ga
theorem Txt.gg_BadWord {K : PySem.W.Frag} {mg : Str → Option Value} (T : Txt K mg) : PySem.W.findIn K (.ref (T.a_BadWord)) "__getattr__" = some none := (TopB.exc T 21 rfl : ExcT K mg "BadWord").gg
theorem Txt.cl_BadWord {K : PySem.W.Frag} {mg : Str → Option Value} (T : Txt K mg) : PySem.W.findIn K (.ref (T.a_BadWord)) "__class__" = some (some (.builtin "object.__class__")) := (TopB.exc T 21 rfl : ExcT K mg "BadWord").cl
theorem Txt.mo_BadWord {K : PySem.W.Frag} {mg : Str → Option Value} (T : Txt K mg) : PySem.W.mroIn K (T.a_BadWord) (.type "object") = some true := (TopB.exc T 21 rfl : ExcT K mg "BadWord").mo
theorem Txt.s_BadWord_MastError {K : PySem.W.Frag} {mg : Str → Option Value} (T : Txt K mg) : PySem.W.subIn K (.ref (T.a_BadWord)) (.ref (He.ga K "MastError")) = some true := (TopB.exc T 21 rfl : ExcT K mg "BadWord").s
abbrev Txt.a_Taken {K : PySem.W.Frag} {mg : Str → Option Value} (T : Txt K mg) : Addr := He.ga K "Taken"
theorem Txt.g_Taken {K : PySem.W.Frag} {mg : Str → Option Value} (T : Txt K mg) : mg "Taken" = some (.ref (T.a_Taken)) := (TopB.exc T 22 rfl : ExcT K mg "Taken").g
theorem Txt.x_Taken {K : PySem.W.Frag} {mg : Str → Option Value} (T : Txt K mg) : PySem.W.excIn K (T.a_Taken) He.veBase "ValueError.__new__" = true := (TopB.exc T 22 rfl : ExcT K mg "Taken").x
theorem Txt.k_Taken {K : PySem.W.Frag} {mg : Str → Option Value} (T : Txt K mg) : PySem.W.keepIn K (.ref (T.a_Taken)) = true := (TopB.exc T 22 rfl : ExcT K mg "Taken").k
theorem Txt.b_Taken {K : PySem.W.Frag} {mg : Str → Option Value} (T : Txt K mg) : PySem.W.subIn K (.ref (T.a_Taken)) (.type "BaseException") = some true := (TopB.exc T 22 rfl : ExcT K mg "Taken").b
theorem Txt.t_Taken {K : PySem.W.Frag} {mg : Str → Option Value} (T : Txt K mg) : PySem.W.typeIn K (.ref (T.a_Taken)) = some (.type "type") := (TopB.exc T 22 rfl : ExcT K mg "Taken").t
theorem Txt.i_Taken {K : PySem.W.Frag} {mg : Str → Option Value} (T : Txt K mg) : PySem.W.isClsIn K (T.a_Taken) = true := (TopB.exc T 22 rfl : ExcT K mg "Taken").i
theorem Txt.h_Taken {K : PySem.W.Frag} {mg : Str → Option Value} (T : Txt K mg) : PySem.W.hasDictIn K (T.a_Taken) = true := (TopB.exc T 22 rfl : ExcT K mg "Taken").h
theorem Txt.ga_Taken {K : PySem.W.Frag} {mg : Str → Option Value} (T : Txt K mg) : PySem.W.findIn K (.ref (T.a_Taken)) "__getattribute__" = some (some (.builtin "BaseException.__getattribute__")) := (TopB.exc T 22 rfl : ExcT K mg "Taken").ga
theorem Txt.gg_Taken {K : PySem.W.Frag} {mg : Str → Option Value} (T : Txt K mg) : PySem.W.findIn K (.ref (T.a_Taken)) "__getattr__" = some none := (TopB.exc T 22 rfl : ExcT K mg "Taken").gg
theorem Txt.cl_Taken {K : PySem.W.Frag} {mg : Str → Option Value} (T : Txt K mg) : PySem.W.findIn K (.ref (T.a_Taken)) "__class__" = some (some (.builtin "object.__class__")) := (TopB.exc T 22 rfl : ExcT K mg "Taken").cl
theorem Txt.mo_Taken {K : PySem.W.Frag} {mg : Str → Option Value} (T : Txt K mg) : PySem.W.mroIn K (T.a_Taken) (.type "object") = some true := (TopB.exc T 22 rfl : ExcT K mg "Taken").mo
theorem Txt.s_Taken_MastError {K : PySem.W.Frag} {mg : Str → Option Value} (T : Txt K mg) : PySem.W.subIn K (.ref (T.a_Taken)) (.ref (He.ga K "MastError")) = some true := (TopB.exc T 22 rfl : ExcT K mg "Taken").s
abbrev Txt.a_Known {K : PySem.W.Frag} {mg : Str → Option Value} (T : Txt K mg) : Addr := He.ga K "Known"
theorem Txt.g_Known {K : PySem.W.Frag} {mg : Str → Option Value} (T : Txt K mg) : mg "Known" = some (.ref (T.a_Known)) := (TopB.exc T 23 rfl : ExcT K mg "Known").g
theorem Txt.x_Known {K : PySem.W.Frag} {mg : Str → Option Value} (T : Txt K mg) : PySem.W.excIn K (T.a_Known) He.veBase "ValueError.__new__" = true := (TopB.exc T 23 rfl : ExcT K mg "Known").x
theorem Txt.k_Known {K : PySem.W.Frag} {mg : Str → Option Value} (T : Txt K mg) : PySem.W.keepIn K (.ref (T.a_Known)) = true := (TopB.exc T 23 rfl : ExcT K mg "Known").k
theorem Txt.b_Known {K : PySem.W.Frag} {mg : Str → Option Value} (T : Txt K mg) : PySem.W.subIn K (.ref (T.a_Known)) (.type "BaseException") = some true := (TopB.exc T 23 rfl : ExcT K mg "Known").b
theorem Txt.t_Known {K : PySem.W.Frag} {mg : Str → Option Value} (T : Txt K mg) : PySem.W.typeIn K (.ref (T.a_Known)) = some (.type "type") := (TopB.exc T 23 rfl : ExcT K mg "Known").t
theorem Txt.i_Known {K : PySem.W.Frag} {mg : Str → Option Value} (T : Txt K mg) : PySem.W.isClsIn K (T.a_Known) = true := (TopB.exc T 23 rfl : ExcT K mg "Known").i
theorem Txt.h_Known {K : PySem.W.Frag} {mg : Str → Option Value} (T : Txt K mg) : PySem.W.hasDictIn K (T.a_Known) = true := (TopB.exc T 23 rfl : ExcT K mg "Known").h
theorem Txt.ga_Known {K : PySem.W.Frag} {mg : Str → Option Value} (T : Txt K mg) : PySem.W.findIn K (.ref (T.a_Known)) "__getattribute__" = some (some (.builtin "BaseException.__getattribute__")) := (TopB.exc T 23 rfl : ExcT K mg "Known").ga
theorem Txt.gg_Known {K : PySem.W.Frag} {mg : Str → Option Value} (T : Txt K mg) : PySem.W.findIn K (.ref (T.a_Known)) "__getattr__" = some none := (TopB.exc T 23 rfl : ExcT K mg "Known").gg
theorem Txt.cl_Known {K : PySem.W.Frag} {mg : Str → Option Value} (T : Txt K mg) : PySem.W.findIn K (.ref (T.a_Known)) "__class__" = some (some (.builtin "object.__class__")) := (TopB.exc T 23 rfl : ExcT K mg "Known").cl
theorem Txt.mo_Known {K : PySem.W.Frag} {mg : Str → Option Value} (T : Txt K mg) : PySem.W.mroIn K (T.a_Known) (.type "object") = some true := (TopB.exc T 23 rfl : ExcT K mg "Known").mo
theorem Txt.s_Known_MastError {K : PySem.W.Frag} {mg : Str → Option Value} (T : Txt K mg) : PySem.W.subIn K (.ref (T.a_Known)) (.ref (He.ga K "MastError")) = some true := (TopB.exc T 23 rfl : ExcT K mg "Known").s
abbrev Txt.a_NoWord {K : PySem.W.Frag} {mg : Str → Option Value} (T : Txt K mg) : Addr := He.ga K "NoWord"
theorem Txt.g_NoWord {K : PySem.W.Frag} {mg : Str → Option Value} (T : Txt K mg) : mg "NoWord" = some (.ref (T.a_NoWord)) := (TopB.exc T 24 rfl : ExcT K mg "NoWord").g
theorem Txt.x_NoWord {K : PySem.W.Frag} {mg : Str → Option Value} (T : Txt K mg) : PySem.W.excIn K (T.a_NoWord) He.veBase "ValueError.__new__" = true := (TopB.exc T 24 rfl : ExcT K mg "NoWord").x
theorem Txt.k_NoWord {K : PySem.W.Frag} {mg : Str → Option Value} (T : Txt K mg) : PySem.W.keepIn K (.ref (T.a_NoWord)) = true := (TopB.exc T 24 rfl : ExcT K mg "NoWord").k
theorem Txt.b_NoWord {K : PySem.W.Frag} {mg : Str → Option Value} (T : Txt K mg) : PySem.W.subIn K (.ref (T.a_NoWord)) (.type "BaseException") = some true := (TopB.exc T 24 rfl : ExcT K mg "NoWord").b
theorem Txt.t_NoWord {K : PySem.W.Frag} {mg : Str → Option Value} (T : Txt K mg) : PySem.W.typeIn K (.ref (T.a_NoWord)) = some (.type "type") := (TopB.exc T 24 rfl : ExcT K mg "NoWord").t
theorem Txt.i_NoWord {K : PySem.W.Frag} {mg : Str → Option Value} (T : Txt K mg) : PySem.W.isClsIn K (T.a_NoWord) = true := (TopB.exc T 24 rfl : ExcT K mg "NoWord").i
theorem Txt.h_NoWord {K : PySem.W.Frag} {mg : Str → Option Value} (T : Txt K mg) : PySem.W.hasDictIn K (T.a_NoWord) = true := (TopB.exc T 24 rfl : ExcT K mg "NoWord").h
theorem Txt.ga_NoWord {K : PySem.W.Frag} {mg : Str → Option Value} (T : Txt K mg) : PySem.W.findIn K (.ref (T.a_NoWord)) "__getattribute__" = some (some (.builtin "BaseException.__getattribute__")) := (TopB.exc T 24 rfl : ExcT K mg "NoWord").ga
theorem Txt.gg_NoWord {K : PySem.W.Frag} {mg : Str → Option Value} (T : Txt K mg) : PySem.W.findIn K (.ref (T.a_NoWord)) "__getattr__" = some none := (TopB.exc T 24 rfl : ExcT K mg "NoWord").gg
theorem Txt.cl_NoWord {K : PySem.W.Frag} {mg : Str → Option Value} (T : Txt K mg) : PySem.W.findIn K (.ref (T.a_NoWord)) "__class__" = some (some (.builtin "object.__class__")) := (TopB.exc T 24 rfl : ExcT K mg "NoWord").cl
theorem Txt.mo_NoWord {K : PySem.W.Frag} {mg : Str → Option Value} (T : Txt K mg) : PySem.W.mroIn K (T.a_NoWord) (.type "object") = some true := (TopB.exc T 24 rfl : ExcT K mg "NoWord").mo
theorem Txt.s_NoWord_MastError {K : PySem.W.Frag} {mg : Str → Option Value} (T : Txt K mg) : PySem.W.subIn K (.ref (T.a_NoWord)) (.ref (He.ga K "MastError")) = some true := (TopB.exc T 24 rfl : ExcT K mg "NoWord").s
abbrev Txt.a_Phrasebook {K : PySem.W.Frag} {mg : Str → Option Value} (T : Txt K mg) : Addr := He.ga K "Phrasebook"
theorem Txt.g_Phrasebook {K : PySem.W.Frag} {mg : Str → Option Value} (T : Txt K mg) : mg "Phrasebook" = some (.ref (T.a_Phrasebook)) := TopB.glo T 1 rfl
theorem Txt.cl_Phrasebook {K : PySem.W.Frag} {mg : Str → Option Value} (T : Txt K mg) : Cls K (T.a_Phrasebook) := He.cls_ok (TopB.one T (f := .cls "Phrasebook") 2 rfl)
theorem Txt.n_Phrasebook_word_by_place {K : PySem.W.Frag} {mg : Str → Option Value} (T : Txt K mg) : NoAttr K (T.a_Phrasebook) "word_by_place" := He.noat_ok (TopB.one T (f := .noat "Phrasebook" "word_by_place") 3 rfl)
theorem Txt.n_Phrasebook_place_by_word {K : PySem.W.Frag} {mg : Str → Option Value} (T : Txt K mg) : NoAttr K (T.a_Phrasebook) "place_by_word" := He.noat_ok (TopB.one T (f := .noat "Phrasebook" "place_by_word") 4 rfl)
theorem Txt.K_Phrasebook {K : PySem.W.Frag} {mg : Str → Option Value} (T : Txt K mg) : Mk K (T.a_Phrasebook) (He.fAd K ("Phrasebook", some "__init__")) := He.mkr_ok (TopB.one T (f := .mkr "Phrasebook") 5 rfl)
abbrev Txt.a_State {K : PySem.W.Frag} {mg : Str → Option Value} (T : Txt K mg) : Addr := He.ga K "State"
theorem Txt.g_State {K : PySem.W.Frag} {mg : Str → Option Value} (T : Txt K mg) : mg "State" = some (.ref (T.a_State)) := TopB.glo T 6 rfl
theorem Txt.cl_State {K : PySem.W.Frag} {mg : Str → Option Value} (T : Txt K mg) : Cls K (T.a_State) := He.cls_ok (TopB.one T (f := .cls "State") 7 rfl)
theorem Txt.n_State_rows {K : PySem.W.Frag} {mg : Str → Option Value} (T : Txt K mg) : NoAttr K (T.a_State) "rows" := He.noat_ok (TopB.one T (f := .noat "State" "rows") 8 rfl)
theorem Txt.n_State_phrasebook {K : PySem.W.Frag} {mg : Str → Option Value} (T : Txt K mg) : NoAttr K (T.a_State) "phrasebook" := He.noat_ok (TopB.one T (f := .noat "State" "phrasebook") 9 rfl)
theorem Txt.K_State {K : PySem.W.Frag} {mg : Str → Option Value} (T : Txt K mg) : Mk K (T.a_State) (He.fAd K ("State", some "__init__")) := He.mkr_ok (TopB.one T (f := .mkr "State") 10 rfl)
abbrev Txt.a_Line {K : PySem.W.Frag} {mg : Str → Option Value} (T : Txt K mg) : Addr := He.ga K "Line"
theorem Txt.g_Line {K : PySem.W.Frag} {mg : Str → Option Value} (T : Txt K mg) : mg "Line" = some (.ref (T.a_Line)) := TopB.glo T 11 rfl
theorem Txt.cl_Line {K : PySem.W.Frag} {mg : Str → Option Value} (T : Txt K mg) : Cls K (T.a_Line) := He.cls_ok (TopB.one T (f := .cls "Line") 12 rfl)
theorem Txt.n_Line_state {K : PySem.W.Frag} {mg : Str → Option Value} (T : Txt K mg) : NoAttr K (T.a_Line) "state" := He.noat_ok (TopB.one T (f := .noat "Line" "state") 13 rfl)
theorem Txt.n_Line_past {K : PySem.W.Frag} {mg : Str → Option Value} (T : Txt K mg) : NoAttr K (T.a_Line) "past" := He.noat_ok (TopB.one T (f := .noat "Line" "past") 14 rfl)
theorem Txt.n_Line_future {K : PySem.W.Frag} {mg : Str → Option Value} (T : Txt K mg) : NoAttr K (T.a_Line) "future" := He.noat_ok (TopB.one T (f := .noat "Line" "future") 15 rfl)
theorem Txt.K_Line {K : PySem.W.Frag} {mg : Str → Option Value} (T : Txt K mg) : Mk K (T.a_Line) (He.fAd K ("Line", some "__init__")) := He.mkr_ok (TopB.one T (f := .mkr "Line") 16 rfl)
abbrev Txt.f_p_is_sign {K : PySem.W.Frag} {mg : Str → Option Value} (T : Txt K mg) : Addr := He.fAd K ("is_sign", none)
abbrev Txt.d_p_is_sign {K : PySem.W.Frag} {mg : Str → Option Value} (T : Txt K mg) : FuncData := fdOf K (He.fAd K ("is_sign", none))
theorem Txt.F_p_is_sign {K : PySem.W.Frag} {mg : Str → Option Value} (T : Txt K mg) : Fun K "is_sign" "is_sign" s_p_is_sign (T.f_p_is_sign) (T.d_p_is_sign) := TopB.fun_ T (a := ("is_sign", none)) 0 rfl
theorem Txt.b_p_is_sign {K : PySem.W.Frag} {mg : Str → Option Value} (T : Txt K mg) : Binds K (T.d_p_is_sign) ["number"] [] := (T.F_p_is_sign).binds (ps := ["number"]) fun _ _ _ _ _ _ us hl => match us, hl with | [_], _ => rfl
theorem Txt.g_p_is_sign {K : PySem.W.Frag} {mg : Str → Option Value} (T : Txt K mg) : mg "is_sign" = some (.ref (T.f_p_is_sign)) := TopB.glo T 17 rfl
abbrev Txt.f_p_check_signs {K : PySem.W.Frag} {mg : Str → Option Value} (T : Txt K mg) : Addr := He.fAd K ("check_signs", none)
abbrev Txt.d_p_check_signs {K : PySem.W.Frag} {mg : Str → Option Value} (T : Txt K mg) : FuncData := fdOf K (He.fAd K ("check_signs", none))
theorem Txt.F_p_check_signs {K : PySem.W.Frag} {mg : Str → Option Value} (T : Txt K mg) : Fun K "check_signs" "check_signs" s_p_check_signs (T.f_p_check_signs) (T.d_p_check_signs) := TopB.fun_ T (a := ("check_signs", none)) 1 rfl
theorem Txt.b_p_check_signs {K : PySem.W.Frag} {mg : Str → Option Value} (T : Txt K mg) : Binds K (T.d_p_check_signs) ["numbers"] [] := (T.F_p_check_signs).binds (ps := ["numbers"]) fun _ _ _ _ _ _ us hl => match us, hl with | [_], _ => rfl
theorem Txt.g_p_check_signs {K : PySem.W.Frag} {mg : Str → Option Value} (T : Txt K mg) : mg "check_signs" = some (.ref (T.f_p_check_signs)) := TopB.glo T 18 rfl
abbrev Txt.f_p_is_word {K : PySem.W.Frag} {mg : Str → Option Value} (T : Txt K mg) : Addr := He.fAd K ("is_word", none)
abbrev Txt.d_p_is_word {K : PySem.W.Frag} {mg : Str → Option Value} (T : Txt K mg) : FuncData := fdOf K (He.fAd K ("is_word", none))
theorem Txt.F_p_is_word {K : PySem.W.Frag} {mg : Str → Option Value} (T : Txt K mg) : Fun K "is_word" "is_word" s_p_is_word (T.f_p_is_word) (T.d_p_is_word) := TopB.fun_ T (a := ("is_word", none)) 2 rfl
theorem Txt.b_p_is_word {K : PySem.W.Frag} {mg : Str → Option Value} (T : Txt K mg) : Binds K (T.d_p_is_word) ["text"] [] := (T.F_p_is_word).binds (ps := ["text"]) fun _ _ _ _ _ _ us hl => match us, hl with | [_], _ => rfl
theorem Txt.g_p_is_word {K : PySem.W.Frag} {mg : Str → Option Value} (T : Txt K mg) : mg "is_word" = some (.ref (T.f_p_is_word)) := TopB.glo T 19 rfl
abbrev Txt.f_p_check_word {K : PySem.W.Frag} {mg : Str → Option Value} (T : Txt K mg) : Addr := He.fAd K ("check_word", none)
abbrev Txt.d_p_check_word {K : PySem.W.Frag} {mg : Str → Option Value} (T : Txt K mg) : FuncData := fdOf K (He.fAd K ("check_word", none))
theorem Txt.F_p_check_word {K : PySem.W.Frag} {mg : Str → Option Value} (T : Txt K mg) : Fun K "check_word" "check_word" s_p_check_word (T.f_p_check_word) (T.d_p_check_word) := TopB.fun_ T (a := ("check_word", none)) 3 rfl
theorem Txt.b_p_check_word {K : PySem.W.Frag} {mg : Str → Option Value} (T : Txt K mg) : Binds K (T.d_p_check_word) ["text"] [] := (T.F_p_check_word).binds (ps := ["text"]) fun _ _ _ _ _ _ us hl => match us, hl with | [_], _ => rfl
theorem Txt.g_p_check_word {K : PySem.W.Frag} {mg : Str → Option Value} (T : Txt K mg) : mg "check_word" = some (.ref (T.f_p_check_word)) := TopB.glo T 20 rfl
abbrev Txt.f_p_check_place {K : PySem.W.Frag} {mg : Str → Option Value} (T : Txt K mg) : Addr := He.fAd K ("check_place", none)
abbrev Txt.d_p_check_place {K : PySem.W.Frag} {mg : Str → Option Value} (T : Txt K mg) : FuncData := fdOf K (He.fAd K ("check_place", none))
theorem Txt.F_p_check_place {K : PySem.W.Frag} {mg : Str → Option Value} (T : Txt K mg) : Fun K "check_place" "check_place" s_p_check_place (T.f_p_check_place) (T.d_p_check_place) := TopB.fun_ T (a := ("check_place", none)) 4 rfl
theorem Txt.b_p_check_place {K : PySem.W.Frag} {mg : Str → Option Value} (T : Txt K mg) : Binds K (T.d_p_check_place) ["page", "line"] [] := (T.F_p_check_place).binds (ps := ["page", "line"]) fun _ _ _ _ _ _ us hl => match us, hl with | [_, _], _ => rfl
theorem Txt.g_p_check_place {K : PySem.W.Frag} {mg : Str → Option Value} (T : Txt K mg) : mg "check_place" = some (.ref (T.f_p_check_place)) := TopB.glo T 21 rfl
abbrev Txt.f_p_Phrasebook_init {K : PySem.W.Frag} {mg : Str → Option Value} (T : Txt K mg) : Addr := He.fAd K ("Phrasebook", some "__init__")
abbrev Txt.d_p_Phrasebook_init {K : PySem.W.Frag} {mg : Str → Option Value} (T : Txt K mg) : FuncData := fdOf K (He.fAd K ("Phrasebook", some "__init__"))
theorem Txt.F_p_Phrasebook_init {K : PySem.W.Frag} {mg : Str → Option Value} (T : Txt K mg) : Fun K "__init__" "Phrasebook.__init__" s_p_Phrasebook_init (T.f_p_Phrasebook_init) (T.d_p_Phrasebook_init) := TopB.fun_ T (a := ("Phrasebook", some "__init__")) 5 rfl
theorem Txt.b_p_Phrasebook_init {K : PySem.W.Frag} {mg : Str → Option Value} (T : Txt K mg) : Binds K (T.d_p_Phrasebook_init) ["self"] [] := (T.F_p_Phrasebook_init).binds (ps := ["self"]) fun _ _ _ _ _ _ us hl => match us, hl with | [_], _ => rfl
theorem Txt.M_p_Phrasebook_init {K : PySem.W.Frag} {mg : Str → Option Value} (T : Txt K mg) : Meth K (T.a_Phrasebook) "__init__" (T.f_p_Phrasebook_init) := He.meth_ok (TopB.one T (f := .meth "Phrasebook" "__init__") 22 rfl)
abbrev Txt.f_p_Phrasebook_enter {K : PySem.W.Frag} {mg : Str → Option Value} (T : Txt K mg) : Addr := He.fAd K ("Phrasebook", some "enter")
abbrev Txt.d_p_Phrasebook_enter {K : PySem.W.Frag} {mg : Str → Option Value} (T : Txt K mg) : FuncData := fdOf K (He.fAd K ("Phrasebook", some "enter"))
theorem Txt.F_p_Phrasebook_enter {K : PySem.W.Frag} {mg : Str → Option Value} (T : Txt K mg) : Fun K "enter" "Phrasebook.enter" s_p_Phrasebook_enter (T.f_p_Phrasebook_enter) (T.d_p_Phrasebook_enter) := TopB.fun_ T (a := ("Phrasebook", some "enter")) 6 rfl
theorem Txt.b_p_Phrasebook_enter {K : PySem.W.Frag} {mg : Str → Option Value} (T : Txt K mg) : Binds K (T.d_p_Phrasebook_enter) ["self", "page", "line", "word"] [] := (T.F_p_Phrasebook_enter).binds (ps := ["self", "page", "line", "word"]) fun _ _ _ _ _ _ us hl => match us, hl with | [_, _, _, _], _ => rfl
theorem Txt.M_p_Phrasebook_enter {K : PySem.W.Frag} {mg : Str → Option Value} (T : Txt K mg) : Meth K (T.a_Phrasebook) "enter" (T.f_p_Phrasebook_enter) := He.meth_ok (TopB.one T (f := .meth "Phrasebook" "enter") 23 rfl)
abbrev Txt.f_p_Phrasebook_strike {K : PySem.W.Frag} {mg : Str → Option Value} (T : Txt K mg) : Addr := He.fAd K ("Phrasebook", some "strike")
abbrev Txt.d_p_Phrasebook_strike {K : PySem.W.Frag} {mg : Str → Option Value} (T : Txt K mg) : FuncData := fdOf K (He.fAd K ("Phrasebook", some "strike"))
theorem Txt.F_p_Phrasebook_strike {K : PySem.W.Frag} {mg : Str → Option Value} (T : Txt K mg) : Fun K "strike" "Phrasebook.strike" s_p_Phrasebook_strike (T.f_p_Phrasebook_strike) (T.d_p_Phrasebook_strike) := TopB.fun_ T (a := ("Phrasebook", some "strike")) 7 rfl
theorem Txt.b_p_Phrasebook_strike {K : PySem.W.Frag} {mg : Str → Option Value} (T : Txt K mg) : Binds K (T.d_p_Phrasebook_strike) ["self", "page", "line"] [] := (T.F_p_Phrasebook_strike).binds (ps := ["self", "page", "line"]) fun _ _ _ _ _ _ us hl => match us, hl with | [_, _, _], _ => rfl
theorem Txt.M_p_Phrasebook_strike {K : PySem.W.Frag} {mg : Str → Option Value} (T : Txt K mg) : Meth K (T.a_Phrasebook) "strike" (T.f_p_Phrasebook_strike) := He.meth_ok (TopB.one T (f := .meth "Phrasebook" "strike") 24 rfl)
abbrev Txt.f_p_Phrasebook_word_at {K : PySem.W.Frag} {mg : Str → Option Value} (T : Txt K mg) : Addr := He.fAd K ("Phrasebook", some "word_at")
abbrev Txt.d_p_Phrasebook_word_at {K : PySem.W.Frag} {mg : Str → Option Value} (T : Txt K mg) : FuncData := fdOf K (He.fAd K ("Phrasebook", some "word_at"))
theorem Txt.F_p_Phrasebook_word_at {K : PySem.W.Frag} {mg : Str → Option Value} (T : Txt K mg) : Fun K "word_at" "Phrasebook.word_at" s_p_Phrasebook_word_at (T.f_p_Phrasebook_word_at) (T.d_p_Phrasebook_word_at) := TopB.fun_ T (a := ("Phrasebook", some "word_at")) 8 rfl
theorem Txt.b_p_Phrasebook_word_at {K : PySem.W.Frag} {mg : Str → Option Value} (T : Txt K mg) : Binds K (T.d_p_Phrasebook_word_at) ["self", "page", "line"] [] := (T.F_p_Phrasebook_word_at).binds (ps := ["self", "page", "line"]) fun _ _ _ _ _ _ us hl => match us, hl with | [_, _, _], _ => rfl
theorem Txt.M_p_Phrasebook_word_at {K : PySem.W.Frag} {mg : Str → Option Value} (T : Txt K mg) : Meth K (T.a_Phrasebook) "word_at" (T.f_p_Phrasebook_word_at) := He.meth_ok (TopB.one T (f := .meth "Phrasebook" "word_at") 25 rfl)
abbrev Txt.f_p_check_way {K : PySem.W.Frag} {mg : Str → Option Value} (T : Txt K mg) : Addr := He.fAd K ("check_way", none)
abbrev Txt.d_p_check_way {K : PySem.W.Frag} {mg : Str → Option Value} (T : Txt K mg) : FuncData := fdOf K (He.fAd K ("check_way", none))
theorem Txt.F_p_check_way {K : PySem.W.Frag} {mg : Str → Option Value} (T : Txt K mg) : Fun K "check_way" "check_way" s_p_check_way (T.f_p_check_way) (T.d_p_check_way) := TopB.fun_ T (a := ("check_way", none)) 9 rfl
theorem Txt.b_p_check_way {K : PySem.W.Frag} {mg : Str → Option Value} (T : Txt K mg) : Binds K (T.d_p_check_way) ["way"] [] := (T.F_p_check_way).binds (ps := ["way"]) fun _ _ _ _ _ _ us hl => match us, hl with | [_], _ => rfl
theorem Txt.g_p_check_way {K : PySem.W.Frag} {mg : Str → Option Value} (T : Txt K mg) : mg "check_way" = some (.ref (T.f_p_check_way)) := TopB.glo T 26 rfl
abbrev Txt.f_p_check_mast {K : PySem.W.Frag} {mg : Str → Option Value} (T : Txt K mg) : Addr := He.fAd K ("check_mast", none)
abbrev Txt.d_p_check_mast {K : PySem.W.Frag} {mg : Str → Option Value} (T : Txt K mg) : FuncData := fdOf K (He.fAd K ("check_mast", none))
theorem Txt.F_p_check_mast {K : PySem.W.Frag} {mg : Str → Option Value} (T : Txt K mg) : Fun K "check_mast" "check_mast" s_p_check_mast (T.f_p_check_mast) (T.d_p_check_mast) := TopB.fun_ T (a := ("check_mast", none)) 10 rfl
theorem Txt.b_p_check_mast {K : PySem.W.Frag} {mg : Str → Option Value} (T : Txt K mg) : Binds K (T.d_p_check_mast) ["masts", "mast"] [] := (T.F_p_check_mast).binds (ps := ["masts", "mast"]) fun _ _ _ _ _ _ us hl => match us, hl with | [_, _], _ => rfl
theorem Txt.g_p_check_mast {K : PySem.W.Frag} {mg : Str → Option Value} (T : Txt K mg) : mg "check_mast" = some (.ref (T.f_p_check_mast)) := TopB.glo T 27 rfl
abbrev Txt.f_p_place_of {K : PySem.W.Frag} {mg : Str → Option Value} (T : Txt K mg) : Addr := He.fAd K ("place_of", none)
abbrev Txt.d_p_place_of {K : PySem.W.Frag} {mg : Str → Option Value} (T : Txt K mg) : FuncData := fdOf K (He.fAd K ("place_of", none))
theorem Txt.F_p_place_of {K : PySem.W.Frag} {mg : Str → Option Value} (T : Txt K mg) : Fun K "place_of" "place_of" s_p_place_of (T.f_p_place_of) (T.d_p_place_of) := TopB.fun_ T (a := ("place_of", none)) 11 rfl
theorem Txt.b_p_place_of {K : PySem.W.Frag} {mg : Str → Option Value} (T : Txt K mg) : Binds K (T.d_p_place_of) ["way", "masts", "mast"] [] := (T.F_p_place_of).binds (ps := ["way", "masts", "mast"]) fun _ _ _ _ _ _ us hl => match us, hl with | [_, _, _], _ => rfl
theorem Txt.g_p_place_of {K : PySem.W.Frag} {mg : Str → Option Value} (T : Txt K mg) : mg "place_of" = some (.ref (T.f_p_place_of)) := TopB.glo T 28 rfl
abbrev Txt.f_p_along {K : PySem.W.Frag} {mg : Str → Option Value} (T : Txt K mg) : Addr := He.fAd K ("along", none)
abbrev Txt.d_p_along {K : PySem.W.Frag} {mg : Str → Option Value} (T : Txt K mg) : FuncData := fdOf K (He.fAd K ("along", none))
theorem Txt.F_p_along {K : PySem.W.Frag} {mg : Str → Option Value} (T : Txt K mg) : Fun K "along" "along" s_p_along (T.f_p_along) (T.d_p_along) := TopB.fun_ T (a := ("along", none)) 12 rfl
theorem Txt.b_p_along {K : PySem.W.Frag} {mg : Str → Option Value} (T : Txt K mg) : Binds K (T.d_p_along) ["way", "row"] [] := (T.F_p_along).binds (ps := ["way", "row"]) fun _ _ _ _ _ _ us hl => match us, hl with | [_, _], _ => rfl
theorem Txt.g_p_along {K : PySem.W.Frag} {mg : Str → Option Value} (T : Txt K mg) : mg "along" = some (.ref (T.f_p_along)) := TopB.glo T 29 rfl
abbrev Txt.f_p_queue_of {K : PySem.W.Frag} {mg : Str → Option Value} (T : Txt K mg) : Addr := He.fAd K ("queue_of", none)
abbrev Txt.d_p_queue_of {K : PySem.W.Frag} {mg : Str → Option Value} (T : Txt K mg) : FuncData := fdOf K (He.fAd K ("queue_of", none))
theorem Txt.F_p_queue_of {K : PySem.W.Frag} {mg : Str → Option Value} (T : Txt K mg) : Fun K "queue_of" "queue_of" s_p_queue_of (T.f_p_queue_of) (T.d_p_queue_of) := TopB.fun_ T (a := ("queue_of", none)) 13 rfl
theorem Txt.b_p_queue_of {K : PySem.W.Frag} {mg : Str → Option Value} (T : Txt K mg) : Binds K (T.d_p_queue_of) ["way"] [] := (T.F_p_queue_of).binds (ps := ["way"]) fun _ _ _ _ _ _ us hl => match us, hl with | [_], _ => rfl
theorem Txt.g_p_queue_of {K : PySem.W.Frag} {mg : Str → Option Value} (T : Txt K mg) : mg "queue_of" = some (.ref (T.f_p_queue_of)) := TopB.glo T 30 rfl
abbrev Txt.f_p_book_of {K : PySem.W.Frag} {mg : Str → Option Value} (T : Txt K mg) : Addr := He.fAd K ("book_of", none)
abbrev Txt.d_p_book_of {K : PySem.W.Frag} {mg : Str → Option Value} (T : Txt K mg) : FuncData := fdOf K (He.fAd K ("book_of", none))
theorem Txt.F_p_book_of {K : PySem.W.Frag} {mg : Str → Option Value} (T : Txt K mg) : Fun K "book_of" "book_of" s_p_book_of (T.f_p_book_of) (T.d_p_book_of) := TopB.fun_ T (a := ("book_of", none)) 14 rfl
theorem Txt.b_p_book_of {K : PySem.W.Frag} {mg : Str → Option Value} (T : Txt K mg) : Binds K (T.d_p_book_of) ["way", "mast"] [] := (T.F_p_book_of).binds (ps := ["way", "mast"]) fun _ _ _ _ _ _ us hl => match us, hl with | [_, _], _ => rfl
theorem Txt.g_p_book_of {K : PySem.W.Frag} {mg : Str → Option Value} (T : Txt K mg) : mg "book_of" = some (.ref (T.f_p_book_of)) := TopB.glo T 31 rfl
abbrev Txt.f_p_new_rows {K : PySem.W.Frag} {mg : Str → Option Value} (T : Txt K mg) : Addr := He.fAd K ("new_rows", none)
abbrev Txt.d_p_new_rows {K : PySem.W.Frag} {mg : Str → Option Value} (T : Txt K mg) : FuncData := fdOf K (He.fAd K ("new_rows", none))
theorem Txt.F_p_new_rows {K : PySem.W.Frag} {mg : Str → Option Value} (T : Txt K mg) : Fun K "new_rows" "new_rows" s_p_new_rows (T.f_p_new_rows) (T.d_p_new_rows) := TopB.fun_ T (a := ("new_rows", none)) 15 rfl
theorem Txt.b_p_new_rows {K : PySem.W.Frag} {mg : Str → Option Value} (T : Txt K mg) : Binds K (T.d_p_new_rows) ["masts"] [] := (T.F_p_new_rows).binds (ps := ["masts"]) fun _ _ _ _ _ _ us hl => match us, hl with | [_], _ => rfl
theorem Txt.g_p_new_rows {K : PySem.W.Frag} {mg : Str → Option Value} (T : Txt K mg) : mg "new_rows" = some (.ref (T.f_p_new_rows)) := TopB.glo T 32 rfl
abbrev Txt.f_p_State_init {K : PySem.W.Frag} {mg : Str → Option Value} (T : Txt K mg) : Addr := He.fAd K ("State", some "__init__")
abbrev Txt.d_p_State_init {K : PySem.W.Frag} {mg : Str → Option Value} (T : Txt K mg) : FuncData := fdOf K (He.fAd K ("State", some "__init__"))
theorem Txt.F_p_State_init {K : PySem.W.Frag} {mg : Str → Option Value} (T : Txt K mg) : Fun K "__init__" "State.__init__" s_p_State_init (T.f_p_State_init) (T.d_p_State_init) := TopB.fun_ T (a := ("State", some "__init__")) 16 rfl
theorem Txt.b_p_State_init {K : PySem.W.Frag} {mg : Str → Option Value} (T : Txt K mg) : Binds K (T.d_p_State_init) ["self", "masts"] [] := (T.F_p_State_init).binds (ps := ["self", "masts"]) fun _ _ _ _ _ _ us hl => match us, hl with | [_, _], _ => rfl
theorem Txt.M_p_State_init {K : PySem.W.Frag} {mg : Str → Option Value} (T : Txt K mg) : Meth K (T.a_State) "__init__" (T.f_p_State_init) := He.meth_ok (TopB.one T (f := .meth "State" "__init__") 33 rfl)
abbrev Txt.f_p_State_make {K : PySem.W.Frag} {mg : Str → Option Value} (T : Txt K mg) : Addr := He.fAd K ("State", some "make")
abbrev Txt.d_p_State_make {K : PySem.W.Frag} {mg : Str → Option Value} (T : Txt K mg) : FuncData := fdOf K (He.fAd K ("State", some "make"))
theorem Txt.F_p_State_make {K : PySem.W.Frag} {mg : Str → Option Value} (T : Txt K mg) : Fun K "make" "State.make" s_p_State_make (T.f_p_State_make) (T.d_p_State_make) := TopB.fun_ T (a := ("State", some "make")) 17 rfl
theorem Txt.b_p_State_make {K : PySem.W.Frag} {mg : Str → Option Value} (T : Txt K mg) : Binds K (T.d_p_State_make) ["self", "changes"] [] := (T.F_p_State_make).binds (ps := ["self", "changes"]) fun _ _ _ _ _ _ us hl => match us, hl with | [_, _], _ => rfl
theorem Txt.M_p_State_make {K : PySem.W.Frag} {mg : Str → Option Value} (T : Txt K mg) : Meth K (T.a_State) "make" (T.f_p_State_make) := He.meth_ok (TopB.one T (f := .meth "State" "make") 34 rfl)
abbrev Txt.f_p_State_swap {K : PySem.W.Frag} {mg : Str → Option Value} (T : Txt K mg) : Addr := He.fAd K ("State", some "swap")
abbrev Txt.d_p_State_swap {K : PySem.W.Frag} {mg : Str → Option Value} (T : Txt K mg) : FuncData := fdOf K (He.fAd K ("State", some "swap"))
theorem Txt.F_p_State_swap {K : PySem.W.Frag} {mg : Str → Option Value} (T : Txt K mg) : Fun K "swap" "State.swap" s_p_State_swap (T.f_p_State_swap) (T.d_p_State_swap) := TopB.fun_ T (a := ("State", some "swap")) 18 rfl
theorem Txt.b_p_State_swap {K : PySem.W.Frag} {mg : Str → Option Value} (T : Txt K mg) : Binds K (T.d_p_State_swap) ["self", "where", "at", "taken", "put"] [] := (T.F_p_State_swap).binds (ps := ["self", "where", "at", "taken", "put"]) fun _ _ _ _ _ _ us hl => match us, hl with | [_, _, _, _, _], _ => rfl
theorem Txt.M_p_State_swap {K : PySem.W.Frag} {mg : Str → Option Value} (T : Txt K mg) : Meth K (T.a_State) "swap" (T.f_p_State_swap) := He.meth_ok (TopB.one T (f := .meth "State" "swap") 35 rfl)
abbrev Txt.f_p_State_swap_word {K : PySem.W.Frag} {mg : Str → Option Value} (T : Txt K mg) : Addr := He.fAd K ("State", some "swap_word")
abbrev Txt.d_p_State_swap_word {K : PySem.W.Frag} {mg : Str → Option Value} (T : Txt K mg) : FuncData := fdOf K (He.fAd K ("State", some "swap_word"))
theorem Txt.F_p_State_swap_word {K : PySem.W.Frag} {mg : Str → Option Value} (T : Txt K mg) : Fun K "swap_word" "State.swap_word" s_p_State_swap_word (T.f_p_State_swap_word) (T.d_p_State_swap_word) := TopB.fun_ T (a := ("State", some "swap_word")) 19 rfl
theorem Txt.b_p_State_swap_word {K : PySem.W.Frag} {mg : Str → Option Value} (T : Txt K mg) : Binds K (T.d_p_State_swap_word) ["self", "at", "taken", "put"] [] := (T.F_p_State_swap_word).binds (ps := ["self", "at", "taken", "put"]) fun _ _ _ _ _ _ us hl => match us, hl with | [_, _, _, _], _ => rfl
theorem Txt.M_p_State_swap_word {K : PySem.W.Frag} {mg : Str → Option Value} (T : Txt K mg) : Meth K (T.a_State) "swap_word" (T.f_p_State_swap_word) := He.meth_ok (TopB.one T (f := .meth "State" "swap_word") 36 rfl)
abbrev Txt.f_p_State_size {K : PySem.W.Frag} {mg : Str → Option Value} (T : Txt K mg) : Addr := He.fAd K ("State", some "size")
abbrev Txt.d_p_State_size {K : PySem.W.Frag} {mg : Str → Option Value} (T : Txt K mg) : FuncData := fdOf K (He.fAd K ("State", some "size"))
theorem Txt.F_p_State_size {K : PySem.W.Frag} {mg : Str → Option Value} (T : Txt K mg) : Fun K "size" "State.size" s_p_State_size (T.f_p_State_size) (T.d_p_State_size) := TopB.fun_ T (a := ("State", some "size")) 20 rfl
theorem Txt.b_p_State_size {K : PySem.W.Frag} {mg : Str → Option Value} (T : Txt K mg) : Binds K (T.d_p_State_size) ["self"] [] := (T.F_p_State_size).binds (ps := ["self"]) fun _ _ _ _ _ _ us hl => match us, hl with | [_], _ => rfl
theorem Txt.M_p_State_size {K : PySem.W.Frag} {mg : Str → Option Value} (T : Txt K mg) : Meth K (T.a_State) "size" (T.f_p_State_size) := He.meth_ok (TopB.one T (f := .meth "State" "size") 37 rfl)
abbrev Txt.f_p_State_queue_on {K : PySem.W.Frag} {mg : Str → Option Value} (T : Txt K mg) : Addr := He.fAd K ("State", some "queue_on")
abbrev Txt.d_p_State_queue_on {K : PySem.W.Frag} {mg : Str → Option Value} (T : Txt K mg) : FuncData := fdOf K (He.fAd K ("State", some "queue_on"))
theorem Txt.F_p_State_queue_on {K : PySem.W.Frag} {mg : Str → Option Value} (T : Txt K mg) : Fun K "queue_on" "State.queue_on" s_p_State_queue_on (T.f_p_State_queue_on) (T.d_p_State_queue_on) := TopB.fun_ T (a := ("State", some "queue_on")) 21 rfl
theorem Txt.b_p_State_queue_on {K : PySem.W.Frag} {mg : Str → Option Value} (T : Txt K mg) : Binds K (T.d_p_State_queue_on) ["self", "way"] [] := (T.F_p_State_queue_on).binds (ps := ["self", "way"]) fun _ _ _ _ _ _ us hl => match us, hl with | [_, _], _ => rfl
theorem Txt.M_p_State_queue_on {K : PySem.W.Frag} {mg : Str → Option Value} (T : Txt K mg) : Meth K (T.a_State) "queue_on" (T.f_p_State_queue_on) := He.meth_ok (TopB.one T (f := .meth "State" "queue_on") 38 rfl)
abbrev Txt.f_p_Line_init {K : PySem.W.Frag} {mg : Str → Option Value} (T : Txt K mg) : Addr := He.fAd K ("Line", some "__init__")
abbrev Txt.d_p_Line_init {K : PySem.W.Frag} {mg : Str → Option Value} (T : Txt K mg) : FuncData := fdOf K (He.fAd K ("Line", some "__init__"))
theorem Txt.F_p_Line_init {K : PySem.W.Frag} {mg : Str → Option Value} (T : Txt K mg) : Fun K "__init__" "Line.__init__" s_p_Line_init (T.f_p_Line_init) (T.d_p_Line_init) := TopB.fun_ T (a := ("Line", some "__init__")) 22 rfl
theorem Txt.b_p_Line_init {K : PySem.W.Frag} {mg : Str → Option Value} (T : Txt K mg) : Binds K (T.d_p_Line_init) ["self", "masts"] [] := (T.F_p_Line_init).binds (ps := ["self", "masts"]) fun _ _ _ _ _ _ us hl => match us, hl with | [_, _], _ => rfl
theorem Txt.M_p_Line_init {K : PySem.W.Frag} {mg : Str → Option Value} (T : Txt K mg) : Meth K (T.a_Line) "__init__" (T.f_p_Line_init) := He.meth_ok (TopB.one T (f := .meth "Line" "__init__") 39 rfl)
abbrev Txt.f_p_Line_do {K : PySem.W.Frag} {mg : Str → Option Value} (T : Txt K mg) : Addr := He.fAd K ("Line", some "do")
abbrev Txt.d_p_Line_do {K : PySem.W.Frag} {mg : Str → Option Value} (T : Txt K mg) : FuncData := fdOf K (He.fAd K ("Line", some "do"))
theorem Txt.F_p_Line_do {K : PySem.W.Frag} {mg : Str → Option Value} (T : Txt K mg) : Fun K "do" "Line.do" s_p_Line_do (T.f_p_Line_do) (T.d_p_Line_do) := TopB.fun_ T (a := ("Line", some "do")) 23 rfl
theorem Txt.b_p_Line_do {K : PySem.W.Frag} {mg : Str → Option Value} (T : Txt K mg) : Binds K (T.d_p_Line_do) ["self", "deed", "changes"] [] := (T.F_p_Line_do).binds (ps := ["self", "deed", "changes"]) fun _ _ _ _ _ _ us hl => match us, hl with | [_, _, _], _ => rfl
theorem Txt.M_p_Line_do {K : PySem.W.Frag} {mg : Str → Option Value} (T : Txt K mg) : Meth K (T.a_Line) "do" (T.f_p_Line_do) := He.meth_ok (TopB.one T (f := .meth "Line" "do") 40 rfl)
abbrev Txt.f_p_Line_send {K : PySem.W.Frag} {mg : Str → Option Value} (T : Txt K mg) : Addr := He.fAd K ("Line", some "send")
abbrev Txt.d_p_Line_send {K : PySem.W.Frag} {mg : Str → Option Value} (T : Txt K mg) : FuncData := fdOf K (He.fAd K ("Line", some "send"))
theorem Txt.F_p_Line_send {K : PySem.W.Frag} {mg : Str → Option Value} (T : Txt K mg) : Fun K "send" "Line.send" s_p_Line_send (T.f_p_Line_send) (T.d_p_Line_send) := TopB.fun_ T (a := ("Line", some "send")) 24 rfl
theorem Txt.b_p_Line_send {K : PySem.W.Frag} {mg : Str → Option Value} (T : Txt K mg) : Binds K (T.d_p_Line_send) ["self", "way", "signs"] [] := (T.F_p_Line_send).binds (ps := ["self", "way", "signs"]) fun _ _ _ _ _ _ us hl => match us, hl with | [_, _, _], _ => rfl
theorem Txt.M_p_Line_send {K : PySem.W.Frag} {mg : Str → Option Value} (T : Txt K mg) : Meth K (T.a_Line) "send" (T.f_p_Line_send) := He.meth_ok (TopB.one T (f := .meth "Line" "send") 41 rfl)
abbrev Txt.f_p_Line_express {K : PySem.W.Frag} {mg : Str → Option Value} (T : Txt K mg) : Addr := He.fAd K ("Line", some "express")
abbrev Txt.d_p_Line_express {K : PySem.W.Frag} {mg : Str → Option Value} (T : Txt K mg) : FuncData := fdOf K (He.fAd K ("Line", some "express"))
theorem Txt.F_p_Line_express {K : PySem.W.Frag} {mg : Str → Option Value} (T : Txt K mg) : Fun K "express" "Line.express" s_p_Line_express (T.f_p_Line_express) (T.d_p_Line_express) := TopB.fun_ T (a := ("Line", some "express")) 25 rfl
theorem Txt.b_p_Line_express {K : PySem.W.Frag} {mg : Str → Option Value} (T : Txt K mg) : Binds K (T.d_p_Line_express) ["self", "way", "signs"] [] := (T.F_p_Line_express).binds (ps := ["self", "way", "signs"]) fun _ _ _ _ _ _ us hl => match us, hl with | [_, _, _], _ => rfl
theorem Txt.M_p_Line_express {K : PySem.W.Frag} {mg : Str → Option Value} (T : Txt K mg) : Meth K (T.a_Line) "express" (T.f_p_Line_express) := He.meth_ok (TopB.one T (f := .meth "Line" "express") 42 rfl)
abbrev Txt.f_p_Line_let_wait {K : PySem.W.Frag} {mg : Str → Option Value} (T : Txt K mg) : Addr := He.fAd K ("Line", some "let_wait")
abbrev Txt.d_p_Line_let_wait {K : PySem.W.Frag} {mg : Str → Option Value} (T : Txt K mg) : FuncData := fdOf K (He.fAd K ("Line", some "let_wait"))
theorem Txt.F_p_Line_let_wait {K : PySem.W.Frag} {mg : Str → Option Value} (T : Txt K mg) : Fun K "let_wait" "Line.let_wait" s_p_Line_let_wait (T.f_p_Line_let_wait) (T.d_p_Line_let_wait) := TopB.fun_ T (a := ("Line", some "let_wait")) 26 rfl
theorem Txt.b_p_Line_let_wait {K : PySem.W.Frag} {mg : Str → Option Value} (T : Txt K mg) : Binds K (T.d_p_Line_let_wait) ["self", "deed", "at", "signs"] [] := (T.F_p_Line_let_wait).binds (ps := ["self", "deed", "at", "signs"]) fun _ _ _ _ _ _ us hl => match us, hl with | [_, _, _, _], _ => rfl
theorem Txt.M_p_Line_let_wait {K : PySem.W.Frag} {mg : Str → Option Value} (T : Txt K mg) : Meth K (T.a_Line) "let_wait" (T.f_p_Line_let_wait) := He.meth_ok (TopB.one T (f := .meth "Line" "let_wait") 43 rfl)
abbrev Txt.f_p_Line_recall {K : PySem.W.Frag} {mg : Str → Option Value} (T : Txt K mg) : Addr := He.fAd K ("Line", some "recall")
abbrev Txt.d_p_Line_recall {K : PySem.W.Frag} {mg : Str → Option Value} (T : Txt K mg) : FuncData := fdOf K (He.fAd K ("Line", some "recall"))
theorem Txt.F_p_Line_recall {K : PySem.W.Frag} {mg : Str → Option Value} (T : Txt K mg) : Fun K "recall" "Line.recall" s_p_Line_recall (T.f_p_Line_recall) (T.d_p_Line_recall) := TopB.fun_ T (a := ("Line", some "recall")) 27 rfl
theorem Txt.b_p_Line_recall {K : PySem.W.Frag} {mg : Str → Option Value} (T : Txt K mg) : Binds K (T.d_p_Line_recall) ["self", "way"] [] := (T.F_p_Line_recall).binds (ps := ["self", "way"]) fun _ _ _ _ _ _ us hl => match us, hl with | [_, _], _ => rfl
theorem Txt.M_p_Line_recall {K : PySem.W.Frag} {mg : Str → Option Value} (T : Txt K mg) : Meth K (T.a_Line) "recall" (T.f_p_Line_recall) := He.meth_ok (TopB.one T (f := .meth "Line" "recall") 44 rfl)
abbrev Txt.f_p_Line_waiting {K : PySem.W.Frag} {mg : Str → Option Value} (T : Txt K mg) : Addr := He.fAd K ("Line", some "waiting")
abbrev Txt.d_p_Line_waiting {K : PySem.W.Frag} {mg : Str → Option Value} (T : Txt K mg) : FuncData := fdOf K (He.fAd K ("Line", some "waiting"))
theorem Txt.F_p_Line_waiting {K : PySem.W.Frag} {mg : Str → Option Value} (T : Txt K mg) : Fun K "waiting" "Line.waiting" s_p_Line_waiting (T.f_p_Line_waiting) (T.d_p_Line_waiting) := TopB.fun_ T (a := ("Line", some "waiting")) 28 rfl
theorem Txt.b_p_Line_waiting {K : PySem.W.Frag} {mg : Str → Option Value} (T : Txt K mg) : Binds K (T.d_p_Line_waiting) ["self", "way"] [] := (T.F_p_Line_waiting).binds (ps := ["self", "way"]) fun _ _ _ _ _ _ us hl => match us, hl with | [_, _], _ => rfl
theorem Txt.M_p_Line_waiting {K : PySem.W.Frag} {mg : Str → Option Value} (T : Txt K mg) : Meth K (T.a_Line) "waiting" (T.f_p_Line_waiting) := He.meth_ok (TopB.one T (f := .meth "Line" "waiting") 45 rfl)
abbrev Txt.f_l_cell {K : PySem.W.Frag} {mg : Str → Option Value} (T : Txt K mg) : Addr := He.fAd K ("_law_cell", none)
abbrev Txt.d_l_cell {K : PySem.W.Frag} {mg : Str → Option Value} (T : Txt K mg) : FuncData := fdOf K (He.fAd K ("_law_cell", none))
theorem Txt.F_l_cell {K : PySem.W.Frag} {mg : Str → Option Value} (T : Txt K mg) : Fun K "_law_cell" "_law_cell" s_l_cell (T.f_l_cell) (T.d_l_cell) := TopB.fun_ T (a := ("_law_cell", none)) 29 rfl
theorem Txt.b_l_cell {K : PySem.W.Frag} {mg : Str → Option Value} (T : Txt K mg) : Binds K (T.d_l_cell) ["_law_script", "_law_at"] [] := (T.F_l_cell).binds (ps := ["_law_script", "_law_at"]) fun _ _ _ _ _ _ us hl => match us, hl with | [_, _], _ => rfl
theorem Txt.g_l_cell {K : PySem.W.Frag} {mg : Str → Option Value} (T : Txt K mg) : mg "_law_cell" = some (.ref (T.f_l_cell)) := TopB.glo T 46 rfl
abbrev Txt.f_l_row {K : PySem.W.Frag} {mg : Str → Option Value} (T : Txt K mg) : Addr := He.fAd K ("_law_row", none)
abbrev Txt.d_l_row {K : PySem.W.Frag} {mg : Str → Option Value} (T : Txt K mg) : FuncData := fdOf K (He.fAd K ("_law_row", none))
theorem Txt.F_l_row {K : PySem.W.Frag} {mg : Str → Option Value} (T : Txt K mg) : Fun K "_law_row" "_law_row" s_l_row (T.f_l_row) (T.d_l_row) := TopB.fun_ T (a := ("_law_row", none)) 30 rfl
theorem Txt.b_l_row {K : PySem.W.Frag} {mg : Str → Option Value} (T : Txt K mg) : Binds K (T.d_l_row) ["_law_cell_here", "_law_many", "_law_size"] [] := (T.F_l_row).binds (ps := ["_law_cell_here", "_law_many", "_law_size"]) fun _ _ _ _ _ _ us hl => match us, hl with | [_, _, _], _ => rfl
theorem Txt.g_l_row {K : PySem.W.Frag} {mg : Str → Option Value} (T : Txt K mg) : mg "_law_row" = some (.ref (T.f_l_row)) := TopB.glo T 47 rfl
abbrev Txt.f_l_like {K : PySem.W.Frag} {mg : Str → Option Value} (T : Txt K mg) : Addr := He.fAd K ("_law_like", none)
abbrev Txt.d_l_like {K : PySem.W.Frag} {mg : Str → Option Value} (T : Txt K mg) : FuncData := fdOf K (He.fAd K ("_law_like", none))
theorem Txt.F_l_like {K : PySem.W.Frag} {mg : Str → Option Value} (T : Txt K mg) : Fun K "_law_like" "_law_like" s_l_like (T.f_l_like) (T.d_l_like) := TopB.fun_ T (a := ("_law_like", none)) 31 rfl
theorem Txt.b_l_like {K : PySem.W.Frag} {mg : Str → Option Value} (T : Txt K mg) : Binds K (T.d_l_like) ["_law_found", "_law_due"] [] := (T.F_l_like).binds (ps := ["_law_found", "_law_due"]) fun _ _ _ _ _ _ us hl => match us, hl with | [_, _], _ => rfl
theorem Txt.g_l_like {K : PySem.W.Frag} {mg : Str → Option Value} (T : Txt K mg) : mg "_law_like" = some (.ref (T.f_l_like)) := TopB.glo T 48 rfl
abbrev Txt.f_l_end_deed {K : PySem.W.Frag} {mg : Str → Option Value} (T : Txt K mg) : Addr := He.fAd K ("_law_end_deed", none)
abbrev Txt.d_l_end_deed {K : PySem.W.Frag} {mg : Str → Option Value} (T : Txt K mg) : FuncData := fdOf K (He.fAd K ("_law_end_deed", none))
theorem Txt.F_l_end_deed {K : PySem.W.Frag} {mg : Str → Option Value} (T : Txt K mg) : Fun K "_law_end_deed" "_law_end_deed" s_l_end_deed (T.f_l_end_deed) (T.d_l_end_deed) := TopB.fun_ T (a := ("_law_end_deed", none)) 32 rfl
theorem Txt.b_l_end_deed {K : PySem.W.Frag} {mg : Str → Option Value} (T : Txt K mg) : Binds K (T.d_l_end_deed) ["_law_state", "_law_deed"] [] := (T.F_l_end_deed).binds (ps := ["_law_state", "_law_deed"]) fun _ _ _ _ _ _ us hl => match us, hl with | [_, _], _ => rfl
theorem Txt.g_l_end_deed {K : PySem.W.Frag} {mg : Str → Option Value} (T : Txt K mg) : mg "_law_end_deed" = some (.ref (T.f_l_end_deed)) := TopB.glo T 49 rfl
abbrev Txt.f_l_kind {K : PySem.W.Frag} {mg : Str → Option Value} (T : Txt K mg) : Addr := He.fAd K ("_law_kind", none)
abbrev Txt.d_l_kind {K : PySem.W.Frag} {mg : Str → Option Value} (T : Txt K mg) : FuncData := fdOf K (He.fAd K ("_law_kind", none))
theorem Txt.F_l_kind {K : PySem.W.Frag} {mg : Str → Option Value} (T : Txt K mg) : Fun K "_law_kind" "_law_kind" s_l_kind (T.f_l_kind) (T.d_l_kind) := TopB.fun_ T (a := ("_law_kind", none)) 33 rfl
theorem Txt.b_l_kind {K : PySem.W.Frag} {mg : Str → Option Value} (T : Txt K mg) : Binds K (T.d_l_kind) ["_law_e"] [] := (T.F_l_kind).binds (ps := ["_law_e"]) fun _ _ _ _ _ _ us hl => match us, hl with | [_], _ => rfl
theorem Txt.g_l_kind {K : PySem.W.Frag} {mg : Str → Option Value} (T : Txt K mg) : mg "_law_kind" = some (.ref (T.f_l_kind)) := TopB.glo T 50 rfl
abbrev Txt.f_l_end {K : PySem.W.Frag} {mg : Str → Option Value} (T : Txt K mg) : Addr := He.fAd K ("_law_end", none)
abbrev Txt.d_l_end {K : PySem.W.Frag} {mg : Str → Option Value} (T : Txt K mg) : FuncData := fdOf K (He.fAd K ("_law_end", none))
theorem Txt.F_l_end {K : PySem.W.Frag} {mg : Str → Option Value} (T : Txt K mg) : Fun K "_law_end" "_law_end" s_l_end (T.f_l_end) (T.d_l_end) := TopB.fun_ T (a := ("_law_end", none)) 34 rfl
theorem Txt.b_l_end {K : PySem.W.Frag} {mg : Str → Option Value} (T : Txt K mg) : Binds K (T.d_l_end) ["_law_script", "_law_at"] [] := (T.F_l_end).binds (ps := ["_law_script", "_law_at"]) fun _ _ _ _ _ _ us hl => match us, hl with | [_, _], _ => rfl
theorem Txt.g_l_end {K : PySem.W.Frag} {mg : Str → Option Value} (T : Txt K mg) : mg "_law_end" = some (.ref (T.f_l_end)) := TopB.glo T 51 rfl
abbrev Txt.f_l_tried {K : PySem.W.Frag} {mg : Str → Option Value} (T : Txt K mg) : Addr := He.fAd K ("_law_tried", none)
abbrev Txt.d_l_tried {K : PySem.W.Frag} {mg : Str → Option Value} (T : Txt K mg) : FuncData := fdOf K (He.fAd K ("_law_tried", none))
theorem Txt.F_l_tried {K : PySem.W.Frag} {mg : Str → Option Value} (T : Txt K mg) : Fun K "_law_tried" "_law_tried" s_l_tried (T.f_l_tried) (T.d_l_tried) := TopB.fun_ T (a := ("_law_tried", none)) 35 rfl
theorem Txt.b_l_tried {K : PySem.W.Frag} {mg : Str → Option Value} (T : Txt K mg) : Binds K (T.d_l_tried) ["_law_line", "_law_deed"] [] := (T.F_l_tried).binds (ps := ["_law_line", "_law_deed"]) fun _ _ _ _ _ _ us hl => match us, hl with | [_, _], _ => rfl
theorem Txt.g_l_tried {K : PySem.W.Frag} {mg : Str → Option Value} (T : Txt K mg) : mg "_law_tried" = some (.ref (T.f_l_tried)) := TopB.glo T 52 rfl
abbrev Txt.u_REST {K : PySem.W.Frag} {mg : Str → Option Value} (T : Txt K mg) : Value := (mg "REST").getD .none
theorem Txt.c_REST {K : PySem.W.Frag} {mg : Str → Option Value} (T : Txt K mg) : mg "REST" = some (T.u_REST) := (TopB.int T (x := "REST") (z := 0) 53 rfl).1
theorem Txt.r_REST {K : PySem.W.Frag} {mg : Str → Option Value} (T : Txt K mg) : RelV (.int 0) (T.u_REST) := (TopB.int T (x := "REST") (z := 0) 53 rfl).2
abbrev Txt.u_LETTERS {K : PySem.W.Frag} {mg : Str → Option Value} (T : Txt K mg) : Value := (mg "LETTERS").getD .none
theorem Txt.c_LETTERS {K : PySem.W.Frag} {mg : Str → Option Value} (T : Txt K mg) : mg "LETTERS" = some (T.u_LETTERS) := (TopB.str T (x := "LETTERS") (z := "abcdefghijklmnopqrstuvwxyz") 54 rfl).1
theorem Txt.r_LETTERS {K : PySem.W.Frag} {mg : Str → Option Value} (T : Txt K mg) : RelV (.str "abcdefghijklmnopqrstuvwxyz") (T.u_LETTERS) := (TopB.str T (x := "LETTERS") (z := "abcdefghijklmnopqrstuvwxyz") 54 rfl).2
abbrev Txt.u_LAST_PAGE {K : PySem.W.Frag} {mg : Str → Option Value} (T : Txt K mg) : Value := (mg "LAST_PAGE").getD .none
theorem Txt.c_LAST_PAGE {K : PySem.W.Frag} {mg : Str → Option Value} (T : Txt K mg) : mg "LAST_PAGE" = some (T.u_LAST_PAGE) := (TopB.int T (x := "LAST_PAGE") (z := 40) 55 rfl).1
theorem Txt.r_LAST_PAGE {K : PySem.W.Frag} {mg : Str → Option Value} (T : Txt K mg) : RelV (.int 40) (T.u_LAST_PAGE) := (TopB.int T (x := "LAST_PAGE") (z := 40) 55 rfl).2
abbrev Txt.u_LAST_SIGN {K : PySem.W.Frag} {mg : Str → Option Value} (T : Txt K mg) : Value := (mg "LAST_SIGN").getD .none
theorem Txt.c_LAST_SIGN {K : PySem.W.Frag} {mg : Str → Option Value} (T : Txt K mg) : mg "LAST_SIGN" = some (T.u_LAST_SIGN) := (TopB.int T (x := "LAST_SIGN") (z := 94) 56 rfl).1
theorem Txt.r_LAST_SIGN {K : PySem.W.Frag} {mg : Str → Option Value} (T : Txt K mg) : RelV (.int 94) (T.u_LAST_SIGN) := (TopB.int T (x := "LAST_SIGN") (z := 94) 56 rfl).2
abbrev Txt.u_LONGEST_WORD {K : PySem.W.Frag} {mg : Str → Option Value} (T : Txt K mg) : Value := (mg "LONGEST_WORD").getD .none
theorem Txt.c_LONGEST_WORD {K : PySem.W.Frag} {mg : Str → Option Value} (T : Txt K mg) : mg "LONGEST_WORD" = some (T.u_LONGEST_WORD) := (TopB.int T (x := "LONGEST_WORD") (z := 12) 57 rfl).1
theorem Txt.r_LONGEST_WORD {K : PySem.W.Frag} {mg : Str → Option Value} (T : Txt K mg) : RelV (.int 12) (T.u_LONGEST_WORD) := (TopB.int T (x := "LONGEST_WORD") (z := 12) 57 rfl).2
abbrev Txt.u_UP {K : PySem.W.Frag} {mg : Str → Option Value} (T : Txt K mg) : Value := (mg "UP").getD .none
theorem Txt.c_UP {K : PySem.W.Frag} {mg : Str → Option Value} (T : Txt K mg) : mg "UP" = some (T.u_UP) := (TopB.str T (x := "UP") (z := "up") 58 rfl).1
theorem Txt.r_UP {K : PySem.W.Frag} {mg : Str → Option Value} (T : Txt K mg) : RelV (.str "up") (T.u_UP) := (TopB.str T (x := "UP") (z := "up") 58 rfl).2
abbrev Txt.u_DOWN {K : PySem.W.Frag} {mg : Str → Option Value} (T : Txt K mg) : Value := (mg "DOWN").getD .none
theorem Txt.c_DOWN {K : PySem.W.Frag} {mg : Str → Option Value} (T : Txt K mg) : mg "DOWN" = some (T.u_DOWN) := (TopB.str T (x := "DOWN") (z := "down") 59 rfl).1
theorem Txt.r_DOWN {K : PySem.W.Frag} {mg : Str → Option Value} (T : Txt K mg) : RelV (.str "down") (T.u_DOWN) := (TopB.str T (x := "DOWN") (z := "down") 59 rfl).2
abbrev Txt.u_FEWEST_MASTS {K : PySem.W.Frag} {mg : Str → Option Value} (T : Txt K mg) : Value := (mg "FEWEST_MASTS").getD .none
theorem Txt.c_FEWEST_MASTS {K : PySem.W.Frag} {mg : Str → Option Value} (T : Txt K mg) : mg "FEWEST_MASTS" = some (T.u_FEWEST_MASTS) := (TopB.int T (x := "FEWEST_MASTS") (z := 2) 60 rfl).1
theorem Txt.r_FEWEST_MASTS {K : PySem.W.Frag} {mg : Str → Option Value} (T : Txt K mg) : RelV (.int 2) (T.u_FEWEST_MASTS) := (TopB.int T (x := "FEWEST_MASTS") (z := 2) 60 rfl).2
abbrev Txt.u_MOST_MASTS {K : PySem.W.Frag} {mg : Str → Option Value} (T : Txt K mg) : Value := (mg "MOST_MASTS").getD .none
theorem Txt.c_MOST_MASTS {K : PySem.W.Frag} {mg : Str → Option Value} (T : Txt K mg) : mg "MOST_MASTS" = some (T.u_MOST_MASTS) := (TopB.int T (x := "MOST_MASTS") (z := 12) 61 rfl).1
theorem Txt.r_MOST_MASTS {K : PySem.W.Frag} {mg : Str → Option Value} (T : Txt K mg) : RelV (.int 12) (T.u_MOST_MASTS) := (TopB.int T (x := "MOST_MASTS") (z := 12) 61 rfl).2
abbrev Txt.u_WAY {K : PySem.W.Frag} {mg : Str → Option Value} (T : Txt K mg) : Value := (mg "WAY").getD .none
theorem Txt.c_WAY {K : PySem.W.Frag} {mg : Str → Option Value} (T : Txt K mg) : mg "WAY" = some (T.u_WAY) := (TopB.str T (x := "WAY") (z := "way") 62 rfl).1
theorem Txt.r_WAY {K : PySem.W.Frag} {mg : Str → Option Value} (T : Txt K mg) : RelV (.str "way") (T.u_WAY) := (TopB.str T (x := "WAY") (z := "way") 62 rfl).2
abbrev Txt.u_ARMS {K : PySem.W.Frag} {mg : Str → Option Value} (T : Txt K mg) : Value := (mg "ARMS").getD .none
theorem Txt.c_ARMS {K : PySem.W.Frag} {mg : Str → Option Value} (T : Txt K mg) : mg "ARMS" = some (T.u_ARMS) := (TopB.str T (x := "ARMS") (z := "arms") 63 rfl).1
theorem Txt.r_ARMS {K : PySem.W.Frag} {mg : Str → Option Value} (T : Txt K mg) : RelV (.str "arms") (T.u_ARMS) := (TopB.str T (x := "ARMS") (z := "arms") 63 rfl).2
abbrev Txt.u_SLEEP {K : PySem.W.Frag} {mg : Str → Option Value} (T : Txt K mg) : Value := (mg "SLEEP").getD .none
theorem Txt.c_SLEEP {K : PySem.W.Frag} {mg : Str → Option Value} (T : Txt K mg) : mg "SLEEP" = some (T.u_SLEEP) := (TopB.str T (x := "SLEEP") (z := "sleep") 64 rfl).1
theorem Txt.r_SLEEP {K : PySem.W.Frag} {mg : Str → Option Value} (T : Txt K mg) : RelV (.str "sleep") (T.u_SLEEP) := (TopB.str T (x := "SLEEP") (z := "sleep") 64 rfl).2
abbrev Txt.u_FOG {K : PySem.W.Frag} {mg : Str → Option Value} (T : Txt K mg) : Value := (mg "FOG").getD .none
theorem Txt.c_FOG {K : PySem.W.Frag} {mg : Str → Option Value} (T : Txt K mg) : mg "FOG" = some (T.u_FOG) := (TopB.str T (x := "FOG") (z := "fog") 65 rfl).1
theorem Txt.r_FOG {K : PySem.W.Frag} {mg : Str → Option Value} (T : Txt K mg) : RelV (.str "fog") (T.u_FOG) := (TopB.str T (x := "FOG") (z := "fog") 65 rfl).2
abbrev Txt.u_WORDS {K : PySem.W.Frag} {mg : Str → Option Value} (T : Txt K mg) : Value := (mg "WORDS").getD .none
theorem Txt.c_WORDS {K : PySem.W.Frag} {mg : Str → Option Value} (T : Txt K mg) : mg "WORDS" = some (T.u_WORDS) := (TopB.str T (x := "WORDS") (z := "words") 66 rfl).1
theorem Txt.r_WORDS {K : PySem.W.Frag} {mg : Str → Option Value} (T : Txt K mg) : RelV (.str "words") (T.u_WORDS) := (TopB.str T (x := "WORDS") (z := "words") 66 rfl).2
abbrev Txt.u_MOST_WAITING {K : PySem.W.Frag} {mg : Str → Option Value} (T : Txt K mg) : Value := (mg "MOST_WAITING").getD .none
theorem Txt.c_MOST_WAITING {K : PySem.W.Frag} {mg : Str → Option Value} (T : Txt K mg) : mg "MOST_WAITING" = some (T.u_MOST_WAITING) := (TopB.int T (x := "MOST_WAITING") (z := 60) 67 rfl).1
theorem Txt.r_MOST_WAITING {K : PySem.W.Frag} {mg : Str → Option Value} (T : Txt K mg) : RelV (.int 60) (T.u_MOST_WAITING) := (TopB.int T (x := "MOST_WAITING") (z := 60) 67 rfl).2
theorem Txt.m_all {K : PySem.W.Frag} {mg : Str → Option Value} (T : Txt K mg) : mg "all" = none := TopB.free T 68 rfl
theorem Txt.m_bool {K : PySem.W.Frag} {mg : Str → Option Value} (T : Txt K mg) : mg "bool" = none := TopB.free T 69 rfl
theorem Txt.m_enumerate {K : PySem.W.Frag} {mg : Str → Option Value} (T : Txt K mg) : mg "enumerate" = none := TopB.free T 70 rfl
theorem Txt.m_int {K : PySem.W.Frag} {mg : Str → Option Value} (T : Txt K mg) : mg "int" = none := TopB.free T 71 rfl
theorem Txt.m_isinstance {K : PySem.W.Frag} {mg : Str → Option Value} (T : Txt K mg) : mg "isinstance" = none := TopB.free T 72 rfl
theorem Txt.m_len {K : PySem.W.Frag} {mg : Str → Option Value} (T : Txt K mg) : mg "len" = none := TopB.free T 73 rfl
theorem Txt.m_list {K : PySem.W.Frag} {mg : Str → Option Value} (T : Txt K mg) : mg "list" = none := TopB.free T 74 rfl
theorem Txt.m_max {K : PySem.W.Frag} {mg : Str → Option Value} (T : Txt K mg) : mg "max" = none := TopB.free T 75 rfl
theorem Txt.m_min {K : PySem.W.Frag} {mg : Str → Option Value} (T : Txt K mg) : mg "min" = none := TopB.free T 76 rfl
theorem Txt.m_range {K : PySem.W.Frag} {mg : Str → Option Value} (T : Txt K mg) : mg "range" = none := TopB.free T 77 rfl
theorem Txt.m_reversed {K : PySem.W.Frag} {mg : Str → Option Value} (T : Txt K mg) : mg "reversed" = none := TopB.free T 78 rfl
theorem Txt.m_sorted {K : PySem.W.Frag} {mg : Str → Option Value} (T : Txt K mg) : mg "sorted" = none := TopB.free T 79 rfl
theorem Txt.m_str {K : PySem.W.Frag} {mg : Str → Option Value} (T : Txt K mg) : mg "str" = none := TopB.free T 80 rfl
theorem Txt.m_tuple {K : PySem.W.Frag} {mg : Str → Option Value} (T : Txt K mg) : mg "tuple" = none := TopB.free T 81 rfl
theorem Txt.g_al_check_mast_ways {K : PySem.W.Frag} {mg : Str → Option Value} (T : Txt K mg) : mg "check_mast_ways" = some (.ref (He.fAd K ("check_mast", none))) := TopB.ali T (p := ("check_mast_ways", "check_mast")) 0 rfl
abbrev Txt.c_tab {K : PySem.W.Frag} {mg : Str → Option Value} (T : Txt K mg) : Addr := He.codeOf K ("is_word", none)
abbrev Txt.P_tab {K : PySem.W.Frag} {mg : Str → Option Value} (T : Txt K mg) : Addr := He.tabOf K (He.codeOf K ("is_word", none))
theorem Txt.W_p_is_word {K : PySem.W.Frag} {mg : Str → Option Value} (T : Txt K mg) : FunC K "is_word" "is_word" s_p_is_word (T.f_p_is_word) (T.d_p_is_word) (T.c_tab) := funC_of (T.F_p_is_word)
abbrev Txt.c_tabS {K : PySem.W.Frag} {mg : Str → Option Value} (T : Txt K mg) : Addr := He.codeOf K ("check_signs", none)
abbrev Txt.P_tabS {K : PySem.W.Frag} {mg : Str → Option Value} (T : Txt K mg) : Addr := He.tabOf K (He.codeOf K ("check_signs", none))
theorem Txt.W_p_check_signs {K : PySem.W.Frag} {mg : Str → Option Value} (T : Txt K mg) : FunC K "check_signs" "check_signs" s_p_check_signs (T.f_p_check_signs) (T.d_p_check_signs) (T.c_tabS) := funC_of (T.F_p_check_signs)
theorem Txt.oc_get {K : PySem.W.Frag} {mg : Str → Option Value} (T : Txt K mg) : PySem.W.specialIn K (.builtin "object.__class__") "__get__" = some (some (.builtin "getset_descriptor.__get__")) := TopB.oget T
theorem Txt.oc_tak {K : PySem.W.Frag} {mg : Str → Option Value} (T : Txt K mg) : PySem.W.takesIn K (.builtin "object.__class__") = some true := TopB.otak T
def looseL : List PySem.Str := (["_wall", "REST", "READY", "reason", "hindrance_behind", "hindrance_ahead", "ready", "MastError", "BadCount", "NoMast", "BadWay", "BadSign", "Full", "NothingWaits", "NotReady", "NotRaising", "BadSlip", "Asleep", "Awake", "Fogged", "Clear", "Busy", "NoRow", "NoBook", "Lost", "Legible", "NothingLeft", "BadPlace", "BadWord", "Taken"] : List Str) ++ (["Known", "NoWord", "LETTERS", "LAST_PAGE", "FIRST_LETTER", "END", "LAST_SIGN", "is_sign", "check_signs", "sign_of", "LONGEST_WORD", "is_word", "check_word", "check_place", "Phrasebook", "signs_of", "UP", "DOWN", "FEWEST_MASTS", "MOST_MASTS", "check_way", "check_mast", "check_mast_ways", "place_of", "mast_at", "along", "deed_text", "Motion", "WAY", "ARMS"] : List Str) ++ (["SLEEP", "FOG", "WORDS", "queue_of", "book_of", "new_rows", "State", "MOST_WAITING", "Line", "_law_cell", "_law_row", "_law_like", "_law_is_word", "_law_signs_of", "_law_end_deed", "_law_kind", "_law_end", "_law_tried"] : List Str)
abbrev rowR : PySem.W.OpenRow := PySem.W.OpenLaw.row PySem.Challenge.rw_mastword_k22_signs_that_wait
def obL (s : PySem.W.SharedT) : Bool × List He.FnW := obsBT asL factsL fnL tfL (HandSHeadRun.getT s)
theorem obL_eq (s : PySem.W.SharedT) : obL s = (hookBT asL factsL fnL tfL).obs s.abs := obsBT_eq (HandSHeadRun.getT_eq s)
theorem runL (w : World) : HandSHeadRun.RunEq rowR (PySem.W.view rowR.prog [88]) (hookBT asL factsL fnL tfL) obL 16000 looseL w := by
  intro os
  kernel_rfl

section
variable {P : Program} {w : World} {K : PySem.W.Frag} {mg : Str → Option Value} {base : Heap}
/-! ### _law_cell: an int of the script -/
def cellV (ns : List Int) (j : Nat) : Int :=
  if j < ns.length then ns.getD j 0 else if ns.length = 0 then 29 * (j : Int) + 5 else ns.getD (j % ns.length) 0 % 1000003 + 103 * (j : Int)
def sp_l_cell (K : PySem.W.Frag) : Sp := fun vs H Q _ => ∃ (l : Addr) (ns : List Int) (j : Nat), vs = [.ref l, .int j] ∧ SqL K H l (ns.map V.int) ∧ j ≤ 100000 ∧ Q (.int (cellV ns j)) H
theorem getD_at {ns : List Int} {j : Nat} (h : j < ns.length) : atI (ns.map V.int) (j : Int) = some (.int (ns.getD j 0)) := by
  rw [at_int h, List.getD_eq_getElem?_getD, List.getElem?_eq_getElem h]
  rfl
theorem ok_l_cell (T : Txt K mg) : FnOk P w K mg base CX0 1 T.f_l_cell T.d_l_cell ["_law_script", "_law_at"] (sp_l_cell K) := by
  refine T.F_l_cell.ok sc_l_cell (fun vs H Q E h => ?_) (fun cdv A outer s H vs Q E hr h => ?_)
  · obtain ⟨l, ns, j, rfl, _⟩ := h
    rfl
  · obtain ⟨l, ns, j, rfl, hS, hj, k⟩ := h
    have hlen : ((ns.map V.int).length : Int) = (ns.length : Int) := by rw [List.length_map]
    refine ⟨_, (pss_cons (ps_if (pt_cmpR op_lt (pv 1) (pe_callB call_len_seq (by rfl) T.m_len PySem.boot_len (pa_cons (pv 0) pa_nil)) (nomark _))
      (pss_one (ps_ret (pe_ix ix_list (pv 0) (pv 1) (fun _ _ => rfl))))
      pss_nil)
      (pss_cons (ps_if (pt_cmpR op_eq (pe_callB call_len_seq (by rfl) T.m_len PySem.boot_len (pa_cons (pv 0) pa_nil)) pe_int (nomark _))
      (pss_one (ps_ret (pe_op op_add (pe_op op_mul pe_int (pv 1)) pe_int)))
      pss_nil)
      (pss_one (ps_ret (pe_op op_add (pe_op op_mod (pe_ix ix_list (pv 0) (pe_op op_mod (pv 1) (pe_callB call_len_seq (by rfl) T.m_len PySem.boot_len (pa_cons (pv 0) pa_nil))) (fun _ _ => rfl)) pe_int) (pe_op op_mul pe_int (pv 1))))))), ?_⟩
    refine ⟨_, rfl, _, rfl, l, _, rfl, .inl hS, _, _, rfl, rfl, _, rfl, iteD (fun c => ?_) (fun c => ?_)⟩
    · rw [hlen] at c
      refine ⟨_, rfl, _, rfl, l, _, _, _, rfl, rfl, hS, getD_at (show j < ns.length by omega), ?_⟩
      have e : cellV ns j = ns.getD j 0 := if_pos (by omega)
      rw [e] at k
      exact k
    · rw [hlen] at c
      refine ⟨_, rfl, l, _, rfl, .inl hS, rfl, _, rfl, iteD (fun c2 => ?_) (fun c2 => ?_)⟩
      · have c3 : (ns.length : Int) = 0 := by
          have z := V.int.inj c2
          rw [hlen] at z
          exact z
        have e : cellV ns j = 29 * (j : Int) + 5 := by
          unfold cellV
          rw [if_neg (by omega), if_pos (by omega)]
        rw [e] at k
        exact ⟨_, rfl, _, _, rfl, rfl, .inl ⟨by decide, by decide⟩, _, _, rfl, rfl, k⟩
      · have c3 : ns.length ≠ 0 := fun z => c2 (by rw [hlen, z]; rfl)
        have hm : j % ns.length < ns.length := Nat.mod_lt _ (by omega)
        have e : cellV ns j = ns.getD (j % ns.length) 0 % 1000003 + 103 * (j : Int) := by
          unfold cellV
          rw [if_neg (by omega), if_neg c3]
        rw [e] at k
        have ea : atI (ns.map V.int) ((j : Int) % ((ns.map V.int).length : Int)) = some (.int (ns.getD (j % ns.length) 0)) := by
          rw [hlen, ← Int.natCast_emod]
          exact getD_at hm
        exact ⟨_, rfl, _, rfl, _, rfl, l, _, rfl, .inl hS, _, _, rfl, rfl, (by show (0 : Int) < ((ns.map V.int).length : Int); rw [hlen]; omega), l, _, _, _, rfl, rfl, hS, ea, _, _, rfl, rfl, (by show (0 : Int) < 1000003; decide), _, rfl, _, _, rfl, rfl, .inl ⟨by decide, by decide⟩, _, _, rfl, rfl, k⟩
/-! ### _law_like of one datum with itself -/
inductive Dn : Nat → PyData → Prop
  | non (n : Nat) : Dn (n + 1) .none
  | bl (n : Nat) (b : Bool) : Dn (n + 1) (.bool b)
  | int (n : Nat) (i : Int) : Dn (n + 1) (.int i)
  | str (n : Nat) (x : Str) : Dn (n + 1) (.str x)
  | lst {n : Nat} {ds : List PyData} : (∀ d ∈ ds, Dn n d) → ds.length ≤ 10000 → Dn (n + 1) (.list ds)
  | tup {n : Nat} {ds : List PyData} : (∀ d ∈ ds, Dn n d) → ds.length ≤ 10000 → Dn (n + 1) (.tuple ds)
def tyN : PyData → String
  | .none => "NoneType" | .bool _ => "bool" | .int _ => "int" | .str _ => "str" | .list _ => "list" | .tuple _ => "tuple" | .dict _ => "dict"
theorem ty_of {K : PySem.W.Frag} {H : Hp} {v : V} {d : PyData} (h : Dp K H v d) : TyX K H v (.type (tyN d)) := by
  cases h with
  | non => exact .base .non
  | bl b => exact .base (.bl b)
  | int i => exact .base (.int i)
  | str x => exact .base (.str x)
  | lst h _ =>
    rcases h with (h | ⟨o, h⟩) | ⟨o, its, n, e, c, _⟩
    · exact .base (.lst h)
    · exact .base (.frz h)
    · exact .kList e c
  | tup h _ =>
    rcases h with (h | ⟨o, h⟩) | ⟨o, its, n, e, c, _⟩
    · exact .base (.tup h)
    · exact .fTuple h
    · exact .kTuple e c
def sp_l_like (K : PySem.W.Frag) (n : Nat) : Sp := fun vs H Q _ => ∃ (u v : V) (d : PyData), vs = [u, v] ∧ Dp K H u d ∧ Dp K H v d ∧ Dn n d ∧ ∀ H', Kp H H' → Q (.bl true) H'
theorem fn_none {P : Program} {w : World} {K : PySem.W.Frag} {mg : Str → Option Value} {base : Heap} {f : Addr} {fd : FuncData} {ps : List Str} {sp : Sp} {k : Nat} (h : ∀ vs H Q E, ¬ sp vs H Q E) : FnOk P w K mg base CX0 k f fd ps sp :=
  ⟨fun vs H Q E q => (h vs H Q E q).elim, fun _ _ _ H _ _ vs Q E _ _ _ _ q => (h vs H Q E q).elim⟩
theorem bl_all {n : Nat} : ((List.replicate n true).map V.bl) = List.replicate n (V.bl true) := List.map_replicate
theorem all_rep (n : Nat) : (List.replicate n true).all id = true := by
  rw [List.all_eq_true]
  intro x hx
  rw [List.eq_of_mem_replicate hx]
  rfl
theorem k_bb : kitB "bool" "bool" = some true := by decide +kernel
theorem k_bi : kitB "bool" "int" = some true := by decide +kernel
theorem k_bs : kitB "bool" "str" = some false := by decide +kernel
theorem k_bl : kitB "bool" "list" = some false := by decide +kernel
theorem k_bt : kitB "bool" "tuple" = some false := by decide +kernel
theorem k_ib : kitB "int" "bool" = some false := by decide +kernel
theorem k_ii : kitB "int" "int" = some true := by decide +kernel
theorem k_is : kitB "int" "str" = some false := by decide +kernel
theorem k_il : kitB "int" "list" = some false := by decide +kernel
theorem k_it : kitB "int" "tuple" = some false := by decide +kernel
theorem k_sb : kitB "str" "bool" = some false := by decide +kernel
theorem k_si : kitB "str" "int" = some false := by decide +kernel
theorem k_ss : kitB "str" "str" = some true := by decide +kernel
theorem k_sl : kitB "str" "list" = some false := by decide +kernel
theorem k_st : kitB "str" "tuple" = some false := by decide +kernel
theorem k_lb : kitB "list" "bool" = some false := by decide +kernel
theorem k_li : kitB "list" "int" = some false := by decide +kernel
theorem k_ls : kitB "list" "str" = some false := by decide +kernel
theorem k_ll : kitB "list" "list" = some true := by decide +kernel
theorem k_lt : kitB "list" "tuple" = some false := by decide +kernel
theorem k_tb : kitB "tuple" "bool" = some false := by decide +kernel
theorem k_ti : kitB "tuple" "int" = some false := by decide +kernel
theorem k_ts : kitB "tuple" "str" = some false := by decide +kernel
theorem k_tl : kitB "tuple" "list" = some false := by decide +kernel
theorem k_tt : kitB "tuple" "tuple" = some true := by decide +kernel
theorem dec_self {x : V} : decide (x = x) = true := decide_eq_true rfl
theorem ok_l_like (T : Txt K mg) : ∀ n : Nat, FnOk P w K mg base CX0 n T.f_l_like T.d_l_like ["_law_found", "_law_due"] (sp_l_like K n)
  | 0 => fn_none fun vs H Q E ⟨u, v, d, _, _, _, h, _⟩ => nomatch h
  | n + 1 => by
    have IH := ok_l_like T n
    refine T.F_l_like.ok sc_l_like (fun vs H Q E h => ?_) (fun cdv A outer s H vs Q E hr h => ?_)
    · obtain ⟨u, v, d, rfl, _⟩ := h
      rfl
    · obtain ⟨u, v, d, rfl, hu, hv, hn, k⟩ := h
      have tu := ty_of hu
      have tv := ty_of hv
      refine ⟨_, (pss_cons (ps_if (pt_cmpR op_isN (pv 1) pe_non (nomark _))
      (pss_one (ps_ret (pe_cmpR op_isN (pv 0) pe_non (nomark _))))
      pss_nil)
      (pss_cons (ps_if (pt_val (pe_callB call_isi (by rfl) T.m_isinstance (by decide +kernel) (pa_cons (pv 1) (pa_cons (pe_bltn (v := .ty "bool") (by rfl) T.m_bool (by decide +kernel) rfl) pa_nil))))
      (pss_one (ps_ret (pe_and (pe_callB call_isi (by rfl) T.m_isinstance (by decide +kernel) (pa_cons (pv 0) (pa_cons (pe_bltn (v := .ty "bool") (by rfl) T.m_bool (by decide +kernel) rfl) pa_nil))) (pe_one (pe_cmpR op_eq (pv 0) (pv 1) (nomark _))))))
      pss_nil)
      (pss_cons (ps_if (pt_val (pe_callB call_isi (by rfl) T.m_isinstance (by decide +kernel) (pa_cons (pv 1) (pa_cons (pe_bltn (v := .ty "int") (by rfl) T.m_int (by decide +kernel) rfl) pa_nil))))
      (pss_one (ps_ret (pe_and (pe_callB call_isi (by rfl) T.m_isinstance (by decide +kernel) (pa_cons (pv 0) (pa_cons (pe_bltn (v := .ty "int") (by rfl) T.m_int (by decide +kernel) rfl) pa_nil))) (pe_and (pe_not (pe_callB call_isi (by rfl) T.m_isinstance (by decide +kernel) (pa_cons (pv 0) (pa_cons (pe_bltn (v := .ty "bool") (by rfl) T.m_bool (by decide +kernel) rfl) pa_nil)))) (pe_one (pe_cmpR op_eq (pv 0) (pv 1) (nomark _)))))))
      pss_nil)
      (pss_cons (ps_if (pt_val (pe_callB call_isi (by rfl) T.m_isinstance (by decide +kernel) (pa_cons (pv 1) (pa_cons (pe_bltn (v := .ty "str") (by rfl) T.m_str (by decide +kernel) rfl) pa_nil))))
      (pss_one (ps_ret (pe_and (pe_callB call_isi (by rfl) T.m_isinstance (by decide +kernel) (pa_cons (pv 0) (pa_cons (pe_bltn (v := .ty "str") (by rfl) T.m_str (by decide +kernel) rfl) pa_nil))) (pe_one (pe_cmpR op_eq (pv 0) (pv 1) (nomark _))))))
      pss_nil)
      (pss_cons (ps_if (PW.pt (pw_or (pt_cmpR op_ne (pe_callB call_isi (by rfl) T.m_isinstance (by decide +kernel) (pa_cons (pv 1) (pa_cons (pe_bltn (v := .ty "list") (by rfl) T.m_list (by decide +kernel) rfl) pa_nil))) (pe_callB call_isi (by rfl) T.m_isinstance (by decide +kernel) (pa_cons (pv 0) (pa_cons (pe_bltn (v := .ty "list") (by rfl) T.m_list (by decide +kernel) rfl) pa_nil))) (nomark _)) (pw_or1 (pt_cmpR op_ne (pe_callB call_isi (by rfl) T.m_isinstance (by decide +kernel) (pa_cons (pv 1) (pa_cons (pe_bltn (v := .ty "tuple") (by rfl) T.m_tuple (by decide +kernel) rfl) pa_nil))) (pe_callB call_isi (by rfl) T.m_isinstance (by decide +kernel) (pa_cons (pv 0) (pa_cons (pe_bltn (v := .ty "tuple") (by rfl) T.m_tuple (by decide +kernel) rfl) pa_nil))) (nomark _)))))
      (pss_one (ps_ret pe_bl))
      pss_nil)
      (pss_one (ps_ret (pe_and (pe_cmpR op_eq (pe_callB call_len (by rfl) T.m_len PySem.boot_len (pa_cons (pv 0) pa_nil)) (pe_callB call_len (by rfl) T.m_len PySem.boot_len (pa_cons (pv 1) pa_nil)) (nomark _)) (pe_one (pe_callB (cr_all rfl) (by rfl) T.m_all (by decide +kernel) (pa_cons (pe_lc (own := [("_law_k", 2)]) (g := gName 2) (tt := tYes) (by rfl) sc_l_like.nd (pi_range1 (by rfl) T.m_range (pa_cons (pe_callB call_len (by rfl) T.m_len PySem.boot_len (pa_cons (pv 1) pa_nil)) pa_nil)) (blkOk_by (own := [("_law_k", 2)]) (N := ["_law_found", "_law_due", "_law_k"]) (sc := defScope s_l_like) (by decide +kernel)) (fun _ _ _ _ _ => (pg_name (i := 2) sc_l_like.nd rfl (by first | exact Or.inl rfl | exact Or.inr rfl))) (fun _ _ _ _ _ => pts_nil) (fun _ _ _ _ _ => (pe_call IH hr rfl T.g_l_like T.F_l_like.kp T.b_l_like .nil pass0 (pa_cons (pe_ix (ix_seqK K rfl) (pv 0) (pv 2) (fun _ _ => rfl)) (pa_cons (pe_ix (ix_seqK K rfl) (pv 1) (pv 2) (fun _ _ => rfl)) pa_nil))))) pa_nil))))))))))), ?_⟩
      cases hn with
      | non n =>
        cases hu
        cases hv
        refine ⟨_, rfl, rfl, _, rfl, iteTo dec_self ?_⟩
        exact ⟨_, rfl, rfl, k _ (.refl _)⟩
      | bl n b =>
        cases hu
        cases hv
        refine ⟨_, rfl, rfl, _, rfl, iteFo rfl ?_⟩
        refine ⟨_, rfl, _, _, _, _, true, rfl, .ty _, tv, kit_ty k_bb, _, rfl, iteTo rfl ?_⟩
        refine ⟨_, rfl, _, _, _, _, true, rfl, .ty _, tu, kit_ty k_bb, _, rfl, iteTo rfl ?_⟩
        refine ⟨_, rfl, _, rfl, rfl, ?_⟩
        rw [dec_self]
        exact k _ (.refl _)
      | int n i =>
        cases hu
        cases hv
        refine ⟨_, rfl, rfl, _, rfl, iteFo rfl ?_⟩
        refine ⟨_, rfl, _, _, _, _, false, rfl, .ty _, tv, kit_ty k_ib, _, rfl, iteFo rfl ?_⟩
        refine ⟨_, rfl, _, _, _, _, true, rfl, .ty _, tv, kit_ty k_ii, _, rfl, iteTo rfl ?_⟩
        refine ⟨_, rfl, _, _, _, _, true, rfl, .ty _, tu, kit_ty k_ii, _, rfl, iteTo rfl ?_⟩
        refine ⟨_, rfl, _, _, _, _, false, rfl, .ty _, tu, kit_ty k_ib, _, rfl, _, rfl, iteTo rfl ?_⟩
        refine ⟨_, rfl, _, rfl, rfl, ?_⟩
        rw [dec_self]
        exact k _ (.refl _)
      | str n x =>
        cases hu
        cases hv
        refine ⟨_, rfl, rfl, _, rfl, iteFo rfl ?_⟩
        refine ⟨_, rfl, _, _, _, _, false, rfl, .ty _, tv, kit_ty k_sb, _, rfl, iteFo rfl ?_⟩
        refine ⟨_, rfl, _, _, _, _, false, rfl, .ty _, tv, kit_ty k_si, _, rfl, iteFo rfl ?_⟩
        refine ⟨_, rfl, _, _, _, _, true, rfl, .ty _, tv, kit_ty k_ss, _, rfl, iteTo rfl ?_⟩
        refine ⟨_, rfl, _, _, _, _, true, rfl, .ty _, tu, kit_ty k_ss, _, rfl, iteTo rfl ?_⟩
        refine ⟨_, rfl, _, rfl, rfl, ?_⟩
        rw [dec_self]
        exact k _ (.refl _)
      | lst hd hl =>
        rename_i ds
        cases hu with | lst hsu hau =>
        cases hv with | lst hsv hav =>
        rename_i a xs b ys
        have lx := DpAll.len hau
        have ly := DpAll.len hav
        refine ⟨_, rfl, rfl, _, rfl, iteFo rfl ?_⟩
        refine ⟨_, rfl, _, _, _, _, false, rfl, .ty _, tv, kit_ty k_lb, _, rfl, iteFo rfl ?_⟩
        refine ⟨_, rfl, _, _, _, _, false, rfl, .ty _, tv, kit_ty k_li, _, rfl, iteFo rfl ?_⟩
        refine ⟨_, rfl, _, _, _, _, false, rfl, .ty _, tv, kit_ty k_ls, _, rfl, iteFo rfl ?_⟩
        refine ⟨_, rfl, _, _, _, _, true, rfl, .ty _, tv, kit_ty k_ll, _, rfl, _, _, _, _, true, rfl, .ty _, tu, kit_ty k_ll, rfl, _, rfl, iteFo rfl ?_⟩
        refine ⟨_, rfl, _, _, _, _, false, rfl, .ty _, tv, kit_ty k_lt, _, rfl, _, _, _, _, false, rfl, .ty _, tu, kit_ty k_lt, rfl, _, rfl, iteFo rfl ?_⟩
        refine ⟨_, rfl, _, _, rfl, .inl ⟨_, hsu, rfl⟩, _, rfl, _, _, rfl, .inl ⟨_, hsv, rfl⟩, rfl, _, rfl, iteTo (decide_eq_true (congrArg (fun z : Nat => V.int (z : Int)) (lx.trans ly.symm))) ?_⟩
        refine ⟨_, rfl, _, _, rfl, .inl ⟨_, hsv, rfl⟩, _, rfl, by omega, by omega, fun D hD => ?_⟩
        rw [Int.toNat_natCast]
        refine lc_range (lo := 0) (n := ys.length) (fun i H' => Kp H H' ∧ H' D = some (.lst (List.replicate i (V.bl true)))) ⟨Kp.new hD, upd_same⟩ (fun i H' hi ⟨kp, hDl⟩ => ?_) (fun H' ⟨kp, hDl⟩ => ?_)
        · have e0 : (0 : Int) + (i : Int) = (i : Int) := Int.zero_add _
          obtain ⟨d, hdi⟩ : ∃ d, ds[i]? = some d := ⟨_, List.getElem?_eq_getElem (by omega)⟩
          obtain ⟨x, hx, dx⟩ := DpAll.get hau hdi
          obtain ⟨y, hy, dy⟩ := DpAll.get hav hdi
          refine ⟨rfl, ?_⟩
          refine ⟨_, rfl, _, rfl, .inl ⟨_, _, _, x, rfl, rfl, kp.sqL hsu, by rw [e0]; exact atI_nat hx, _, rfl, _, rfl, .inl ⟨_, _, _, y, rfl, rfl, kp.sqL hsv, by rw [e0]; exact atI_nat hy, ?_⟩⟩⟩
          refine ⟨x, y, d, rfl, kp.dp dx, kp.dp dy, hd d (List.mem_of_getElem? hdi), fun H2 k2 => ⟨_, k2.same _ _ rfl hDl, szt (by rw [List.length_replicate]; omega), ?_⟩⟩
          exact ⟨(kp.trans k2).mut hD, by rw [upd_same, List.replicate_succ']⟩
        · refine ⟨D, List.replicate ys.length true, rfl, .inl (.inl (by rw [bl_all]; exact hDl)), ?_⟩
          rw [all_rep]
          exact k _ kp
      | tup hd hl =>
        rename_i ds
        cases hu with | tup hsu hau =>
        cases hv with | tup hsv hav =>
        rename_i a xs b ys
        have lx := DpAll.len hau
        have ly := DpAll.len hav
        refine ⟨_, rfl, rfl, _, rfl, iteFo rfl ?_⟩
        refine ⟨_, rfl, _, _, _, _, false, rfl, .ty _, tv, kit_ty k_tb, _, rfl, iteFo rfl ?_⟩
        refine ⟨_, rfl, _, _, _, _, false, rfl, .ty _, tv, kit_ty k_ti, _, rfl, iteFo rfl ?_⟩
        refine ⟨_, rfl, _, _, _, _, false, rfl, .ty _, tv, kit_ty k_ts, _, rfl, iteFo rfl ?_⟩
        refine ⟨_, rfl, _, _, _, _, false, rfl, .ty _, tv, kit_ty k_tl, _, rfl, _, _, _, _, false, rfl, .ty _, tu, kit_ty k_tl, rfl, _, rfl, iteFo rfl ?_⟩
        refine ⟨_, rfl, _, _, _, _, true, rfl, .ty _, tv, kit_ty k_tt, _, rfl, _, _, _, _, true, rfl, .ty _, tu, kit_ty k_tt, rfl, _, rfl, iteFo rfl ?_⟩
        refine ⟨_, rfl, _, _, rfl, .inr ⟨_, hsu, rfl⟩, _, rfl, _, _, rfl, .inr ⟨_, hsv, rfl⟩, rfl, _, rfl, iteTo (decide_eq_true (congrArg (fun z : Nat => V.int (z : Int)) (lx.trans ly.symm))) ?_⟩
        refine ⟨_, rfl, _, _, rfl, .inr ⟨_, hsv, rfl⟩, _, rfl, by omega, by omega, fun D hD => ?_⟩
        rw [Int.toNat_natCast]
        refine lc_range (lo := 0) (n := ys.length) (fun i H' => Kp H H' ∧ H' D = some (.lst (List.replicate i (V.bl true)))) ⟨Kp.new hD, upd_same⟩ (fun i H' hi ⟨kp, hDl⟩ => ?_) (fun H' ⟨kp, hDl⟩ => ?_)
        · have e0 : (0 : Int) + (i : Int) = (i : Int) := Int.zero_add _
          obtain ⟨d, hdi⟩ : ∃ d, ds[i]? = some d := ⟨_, List.getElem?_eq_getElem (by omega)⟩
          obtain ⟨x, hx, dx⟩ := DpAll.get hau hdi
          obtain ⟨y, hy, dy⟩ := DpAll.get hav hdi
          refine ⟨rfl, ?_⟩
          refine ⟨_, rfl, _, rfl, .inr (.inl ⟨_, _, _, x, rfl, rfl, kp.sqT hsu, by rw [e0]; exact atI_nat hx, _, rfl, _, rfl, .inr (.inl ⟨_, _, _, y, rfl, rfl, kp.sqT hsv, by rw [e0]; exact atI_nat hy, ?_⟩)⟩)⟩
          refine ⟨x, y, d, rfl, kp.dp dx, kp.dp dy, hd d (List.mem_of_getElem? hdi), fun H2 k2 => ⟨_, k2.same _ _ rfl hDl, szt (by rw [List.length_replicate]; omega), ?_⟩⟩
          exact ⟨(kp.trans k2).mut hD, by rw [upd_same, List.replicate_succ']⟩
        · refine ⟨D, List.replicate ys.length true, rfl, .inl (.inl (by rw [bl_all]; exact hDl)), ?_⟩
          rw [all_rep]
          exact k _ kp
/-! ### _law_row: so many ints from nought to below a size -/
def Drawn0 (many size : Int) (xs : List Int) : Prop := (xs.length : Int) = many ∧ ∀ x ∈ xs, 0 ≤ x ∧ x < size
def sp_l_row : Sp := fun vs H Q _ => ∃ (c many size : Int), vs = [.int c, .int many, .int size] ∧ 0 ≤ many ∧ many ≤ 1000 ∧ 0 < size ∧ size < 1073741824 ∧
  ∀ (xs : List Int) (p : Addr) (H' : Hp), H p = none → Kp H H' → H' p = some (.lst (xs.map V.int)) → Drawn0 many size xs → Q (.ref p) H'
theorem snoc_in {size z : Int} {xs : List Int} (hs : 0 < size) (h : ∀ x ∈ xs, 0 ≤ x ∧ x < size) : ∀ x ∈ xs ++ [z % size], 0 ≤ x ∧ x < size := by
  intro x hx
  rcases List.mem_append.mp hx with hx | hx
  · exact h x hx
  · rw [List.mem_singleton.mp hx]
    exact ⟨Int.emod_nonneg _ (by omega), Int.emod_lt_of_pos _ hs⟩
theorem ok_l_row (T : Txt K mg) : FnOk P w K mg base CX0 1 T.f_l_row T.d_l_row ["_law_cell_here", "_law_many", "_law_size"] sp_l_row := by
  refine T.F_l_row.ok sc_l_row (fun vs H Q E h => ?_) (fun cdv A outer s H vs Q E hr h => ?_)
  · obtain ⟨c, many, size, rfl, _⟩ := h
    rfl
  · obtain ⟨c, many, size, rfl, hm0, hm1, hs0, hs1, k⟩ := h
    refine ⟨_, (pss_cons (ps_set (i := 3) sc_l_row.nd rfl (by first | exact Or.inl rfl | exact Or.inr rfl) (pe_lst pa_nil))
      (pss_cons (ps_if (pt_cmpR op_ge (pv 0) (pe_op op_pow pe_int pe_int) (nomark _))
      (pss_cons (ps_set (i := 4) sc_l_row.nd rfl (by first | exact Or.inl rfl | exact Or.inr rfl) (pe_op op_sub (pv 0) (pe_op op_pow pe_int pe_int)))
      (pss_cons (ps_for PassesOwn.never rfl (pi_range1 (by rfl) T.m_range (pa_cons (pv 1) pa_nil)) (pg_name (i := 5) sc_l_row.nd rfl (by first | exact Or.inl rfl | exact Or.inr rfl))
      (pss_cons (ps_expr (pe_bm PySem.F.plainAttrs_list PySem.F.slot_list_append PySem.F.type_list_append mt_append (pv 3) (pa_cons (pe_op op_mod (pv 4) (pv 2)) pa_nil)))
      (pss_one (ps_set (i := 4) sc_l_row.nd rfl (by first | exact Or.inl rfl | exact Or.inr rfl) (pe_op op_fdiv (pv 4) (pv 2))))))
      (pss_one (ps_ret (pv 3)))))
      pss_nil)
      (pss_cons (ps_set (i := 6) sc_l_row.nd rfl (by first | exact Or.inl rfl | exact Or.inr rfl) (pe_op op_mod (pv 0) pe_int))
      (pss_cons (ps_for PassesOwn.never rfl (pi_range1 (by rfl) T.m_range (pa_cons (pv 1) pa_nil)) (pg_name (i := 5) sc_l_row.nd rfl (by first | exact Or.inl rfl | exact Or.inr rfl))
      (pss_cons (ps_set (i := 6) sc_l_row.nd rfl (by first | exact Or.inl rfl | exact Or.inr rfl) (pe_op op_mod (pe_op op_add (pe_op op_add (pe_op op_mul (pv 6) pe_int) pe_int) (pv 5)) pe_int))
      (pss_cons (ps_set (i := 7) sc_l_row.nd rfl (by first | exact Or.inl rfl | exact Or.inr rfl) (pe_op op_mod (pe_op op_fdiv (pe_op op_mul (pv 6) (pe_op op_add (pe_op op_mod (pv 6) pe_int) pe_int)) pe_int) pe_int))
      (pss_one (ps_expr (pe_bm PySem.F.plainAttrs_list PySem.F.slot_list_append PySem.F.type_list_append mt_append (pv 3) (pa_cons (pe_op op_mod (pv 7) (pv 2)) pa_nil)))))))
      (pss_one (ps_ret (pv 3))))))), ?_⟩
    refine ⟨Nat.zero_le _, fun p np => ?_⟩
    generalize h_H1 : upd H p _ = H1
    have k_H1 : Kp H H1 := by rw [← h_H1]; exact .new np
    have q_H1 := (congrFun h_H1 p).symm.trans upd_same
    clear h_H1
    refine ⟨_, rfl, _, _, rfl, rfl, ⟨by decide, by decide, by decide⟩, _, _, rfl, rfl, _, rfl, iteD (fun c1 => ?_) (fun c1 => ?_)⟩
    · refine ⟨_, rfl, _, _, rfl, rfl, ⟨by decide, by decide, by decide⟩, _, _, rfl, rfl, ?_⟩
      refine ⟨_, rfl, many, rfl, by omega, by omega, ?_⟩
      refine for_range (lo := 0) (n := many.toNat) (fun i σ H' => ∃ (xs : List Int) (r : Int) (y : Option V), σ = [some (.int c), some (.int many), some (.int size), some (.ref p), some (.int r), y, none, none] ∧ Kp H H' ∧ H' p = some (.lst (xs.map V.int)) ∧ xs.length = i ∧ ∀ x ∈ xs, 0 ≤ x ∧ x < size)
        ⟨[], _, none, rfl, k_H1, q_H1, rfl, by simp⟩ ?_ ?_
      · rintro i σ H' hi ⟨xs, r, y, rfl, kp, hp, hl, hb⟩
        refine ⟨_, rfl, .inl ⟨rfl, _, SqL.of hp⟩, _, rfl, _, rfl, _, _, rfl, rfl, hs0, p, _, _, rfl, rfl, hp, szt (by rw [List.length_map]; omega), ?_⟩
        refine ⟨_, rfl, _, rfl, _, _, rfl, rfl, ⟨hs0, hs1⟩, ?_⟩
        refine ⟨xs ++ [r % size], _, _, rfl, kp.mut np, ?_, by rw [List.length_append, hl]; rfl, snoc_in hs0 hb⟩
        rw [upd_same, List.map_append]
        rfl
      · rintro σ H' ⟨xs, r, y, rfl, kp, hp, hl, hb⟩
        exact ⟨_, rfl, k xs p H' np kp hp ⟨by omega, hb⟩⟩
    · refine ⟨_, rfl, _, _, rfl, rfl, (by show (0 : Int) < 2147483647; decide), ?_⟩
      refine ⟨_, rfl, many, rfl, by omega, by omega, ?_⟩
      refine for_range (lo := 0) (n := many.toNat) (fun i σ H' => ∃ (xs : List Int) (r : Int) (y y2 : Option V), σ = [some (.int c), some (.int many), some (.int size), some (.ref p), none, y, some (.int r), y2] ∧ Kp H H' ∧ H' p = some (.lst (xs.map V.int)) ∧ xs.length = i ∧ ∀ x ∈ xs, 0 ≤ x ∧ x < size)
        ⟨[], _, none, none, rfl, k_H1, q_H1, rfl, by simp⟩ ?_ ?_
      · rintro i σ H' hi ⟨xs, r, y, y2, rfl, kp, hp, hl, hb⟩
        refine ⟨_, rfl, _, _, rfl, rfl, .inr ⟨by decide, by decide⟩, _, _, rfl, rfl, _, rfl, _, _, rfl, rfl, _, _, rfl, rfl, (by show (0 : Int) < 2147483647; decide), ?_⟩
        generalize hr2 : (fun (i j : Int) => V.int (i % j)) _ _ = sv
        obtain ⟨r2, rfl⟩ : ∃ r2 : Int, sv = .int r2 := ⟨_, hr2.symm⟩
        clear hr2
        have b0 : 0 ≤ r2 % 65521 := Int.emod_nonneg _ (by decide)
        have b1 : r2 % 65521 < 65521 := Int.emod_lt_of_pos _ (by decide)
        refine ⟨_, rfl, _, rfl, _, _, rfl, rfl, (by show (0 : Int) < 65521; decide), _, _, rfl, rfl, _, _, rfl, rfl, .inr ⟨by omega, by omega⟩, _, _, rfl, rfl, ⟨by decide, by decide⟩, _, _, rfl, rfl, (by show (0 : Int) < 1000003; decide), ?_⟩
        refine ⟨_, rfl, .inl ⟨rfl, _, SqL.of hp⟩, _, rfl, _, rfl, _, _, rfl, rfl, hs0, p, _, _, rfl, rfl, hp, szt (by rw [List.length_map]; omega), ?_⟩
        refine ⟨xs ++ [r2 * (r2 % 65521 + 3) / 1009 % 1000003 % size], r2, _, _, rfl, kp.mut np, ?_, by rw [List.length_append, hl]; rfl, snoc_in hs0 hb⟩
        rw [upd_same, List.map_append]
        rfl
      · rintro σ H' ⟨xs, r, y, y2, rfl, kp, hp, hl, hb⟩
        exact ⟨_, rfl, k xs p H' np kp hp ⟨by omega, hb⟩⟩
/-! ### words -/
def abcW : Str := "abcdefghijklmnopqrstuvwxyz"
def isW (t : Str) : Bool := decide (1 ≤ (t.length : Int)) && (decide ((t.length : Int) ≤ 12) && t.cps.toList.all fun c => decide (c ∈ abcW.cps.toList))
def sp_p_is_word (P : Addr) : Sp := fun vs H Q _ => ∃ t : Str, vs = [.str t] ∧ t.length ≤ 1000 ∧ GxR.TabG H P ∧ ∀ H', Kp H H' → Q (.bl (isW t)) H'
theorem ok_p_is_word (T : Txt K mg) (TB : GxR.TabB base mg T.c_tab T.P_tab) : FnOk P w K mg base CX0 2 T.f_p_is_word T.d_p_is_word ["text"] (sp_p_is_word T.P_tab) := by
  obtain ⟨tl, hu⟩ := T.r_LETTERS
  have hL : mg "LETTERS" = some (.str abcW tl) := by rw [T.c_LETTERS, hu]; rfl
  refine T.W_p_is_word.ok sc_p_is_word (fun vs H Q E h => ?_) (fun A outer s H vs Q E hr h => ?_)
  · obtain ⟨t, rfl, _⟩ := h
    rfl
  · obtain ⟨t, rfl, hl, hT, k⟩ := h
    refine ⟨_, (pss_one (ps_ret (pe_and (pe_chain op_le op_le pe_int (pe_callB call_len_str (by rfl) T.m_len PySem.boot_len (pa_cons (pv 0) pa_nil)) (pe_glob rfl T.c_LONGEST_WORD T.r_LONGEST_WORD)) (pe_one (pe_allG hr (by rfl) T.m_all (by decide +kernel) TB rfl ⟨rfl, rfl, noCell (by decide +kernel), rfl, rfl, noFree (by decide +kernel)⟩ (pv 0) (elt_inG rfl rfl rfl hL) (fun _ => rfl)))))), ?_⟩
    refine ⟨_, rfl, t, rfl, szl (by omega), _, _, rfl, rfl, _, rfl, ?_⟩
    unfold isW at k
    by_cases c1 : 1 ≤ (t.length : Int)
    · rw [decide_eq_true c1] at k
      refine iteTo (decide_eq_true c1) ⟨_, _, rfl, rfl, _, rfl, ?_⟩
      by_cases c2 : (t.length : Int) ≤ 12
      · rw [decide_eq_true c2] at k
        exact iteTo (decide_eq_true c2) ⟨_, rfl, t, rfl, hT, fun H2 t2 => k _ (kp_tabbed hT t2)⟩
      · rw [decide_eq_false c2] at k
        exact iteFo (decide_eq_false c2) (k _ (.refl _))
    · rw [decide_eq_false c1] at k
      exact iteFo (decide_eq_false c1) ⟨_, rfl, iteF (k _ (.refl _))⟩
def sp_p_check_word (P C : Addr) : Sp := fun vs H Q E => ∃ t : Str, vs = [.str t] ∧ t.length ≤ 1000 ∧ GxR.TabG H P ∧ (isW t = true → ∀ H', Kp H H' → Q .non H') ∧ (isW t = false → ∀ H', Kp H H' → E (.ref C) none H')
theorem ok_p_check_word (T : Txt K mg) (TB : GxR.TabB base mg T.c_tab T.P_tab) : FnOk P w K mg base (L2.CX P w) 4 T.f_p_check_word T.d_p_check_word ["text"] (sp_p_check_word T.P_tab T.a_BadWord) := by
  refine T.F_p_check_word.okX sc_p_check_word (fun vs H Q E h => ?_) (fun cdv A outer s H vs Q E hr h => ?_)
  · obtain ⟨t, rfl, _⟩ := h
    rfl
  · obtain ⟨t, rfl, hl, hT, k, kE⟩ := h
    refine ⟨_, (pss_one (ps_if (pt_not (pt_val (pe_call (ok_p_is_word T TB) (hr.mono (by decide)) rfl T.g_p_is_word T.F_p_is_word.kp T.b_p_is_word .nil pass0 (pa_cons (pv 0) pa_nil))))
      (pss_one (ps_raise rfl (takes_of rfl rfl rfl rfl) (pmk_own PySem.F.excBase_ValueError T.x_BadWord T.g_BadWord T.k_BadWord (raises_own T.b_BadWord T.t_BadWord) rfl)))
      pss_nil)), ?_⟩
    refine ⟨_, rfl, t, rfl, hl, hT, fun H' kp => ⟨_, rfl, iteB (fun c => ?_) (fun c => ?_)⟩⟩
    · exact kE (by simpa using c) H' kp
    · exact k (by simpa using c) H' kp
def let1 (c : Nat) : Int := 41 + ((c - 97 : Nat) : Int)
def letS (w : Str) : List Int := w.cps.toList.map let1
theorem isW_len {t : Str} (h : isW t = true) : 1 ≤ t.length ∧ t.length ≤ 12 := by
  unfold isW at h
  simp only [Bool.and_eq_true, decide_eq_true_eq] at h
  omega
theorem abcW_mem {c : Nat} : c ∈ abcW.cps.toList ↔ 97 ≤ c ∧ c < 123 := by
  have e : abcW.cps.toList = (List.range 26).map (97 + ·) := by decide +kernel
  rw [e]
  constructor
  · intro h
    obtain ⟨j, hj, rfl⟩ := List.mem_map.mp h
    have := List.mem_range.mp hj
    omega
  · intro h
    exact List.mem_map.mpr ⟨c - 97, List.mem_range.mpr (by omega), by omega⟩
theorem isW_signs {t : Str} (h : isW t = true) : ∀ c ∈ t.cps.toList, 97 ≤ c ∧ c < 123 := by
  unfold isW at h
  simp only [Bool.and_eq_true] at h
  intro c hc
  exact abcW_mem.mp (of_decide_eq_true (List.all_eq_true.mp h.2.2 c hc))
/-! ### a phrasebook -/
/-- what is kept but at the places of S -/
structure KpE (S : List Addr) (H H' : Hp) : Prop where
  same : ∀ a o, isT o = false → a ∉ S → H a = some o → H' a = some o
  tab : ∀ a, GxR.TabG H a → GxR.TabG H' a
  free : ∀ a, H' a = none → H a = none
theorem KpE.kp {S : List Addr} {H0 H H' : Hp} (k : Kp H0 H) (e : KpE S H H') (h : ∀ b ∈ S, H0 b = none) : Kp H0 H' :=
  ⟨fun a o t q => e.same a o t (fun m => by rw [h a m] at q; cases q) (k.same a o t q), fun a q => e.tab a (k.tab a q), fun a q => k.free a (e.free a q)⟩
theorem KpE.of {S : List Addr} {H H' : Hp} (k : Kp H H') : KpE S H H' := ⟨fun a o t _ q => k.same a o t q, k.tab, k.free⟩
theorem KpE.trans {S : List Addr} {H H1 H2 : Hp} (a : KpE S H H1) (b : KpE S H1 H2) : KpE S H H2 :=
  ⟨fun x o t m q => b.same x o t m (a.same x o t m q), fun x q => b.tab x (a.tab x q), fun x q => a.free x (b.free x q)⟩
theorem KpE.put {S : List Addr} {H : Hp} {d : Addr} {o u : HO} (hd : H d = some u) (nt : isT u = false) (m : d ∈ S) : KpE S H (upd H d o) := by
  refine ⟨fun a v t n q => ?_, fun a ⟨ps, q, tr⟩ => ⟨ps, ?_, tr⟩, fun a q => ?_⟩
  · rw [upd_ne (fun z => n (by rw [z]; exact m))]
    exact q
  · have ne : a ≠ d := fun z => by
      rw [z, hd] at q
      cases q
      cases nt
    rw [upd_ne ne]
    exact q
  · by_cases z : a = d
    · rw [z, upd_same] at q
      cases q
    · rw [upd_ne z] at q
      exact q
abbrev Ent := (Str × Int × Int) × Addr
def flds (d1 d2 : Addr) : List (Str × V) := putF "place_by_word" (.ref d2) (putF "word_by_place" (.ref d1) [])
theorem flds_place (d1 d2 : Addr) : (flds d1 d2).lookup ("place_by_word" : Str) = some (.ref d2) := by
  unfold flds
  rw [lookup_putF, if_pos rfl]
theorem flds_word (d1 d2 : Addr) : (flds d1 d2).lookup ("word_by_place" : Str) = some (.ref d1) := by
  unfold flds
  rw [lookup_putF, if_neg (by decide +kernel), lookup_putF, if_pos rfl]
theorem flds_no (d1 d2 : Addr) {m : Str} (h1 : ¬ m = "place_by_word") (h2 : ¬ m = "word_by_place") : (flds d1 d2).lookup m = none := by
  unfold flds
  rw [lookup_putF, if_neg h1, lookup_putF, if_neg h2]
  rfl
def kvP (bs : List Ent) : List (List Key × V) := bs.map fun b => ([Sum.inl b.1.2.1, Sum.inl b.1.2.2], V.str b.1.1)
def kvW (bs : List Ent) : List (Key × V) := bs.map fun b => (Sum.inr b.1.1, V.ref b.2)
def atP (bs : List Ent) (p l : Int) : Option Ent := bs.find? fun b => decide (b.1.2.1 = p ∧ b.1.2.2 = l)
def atW (bs : List Ent) (t : Str) : Option Ent := bs.find? fun b => decide (b.1.1 = t)
theorem valP (bs : List Ent) (p l : Int) : valV (kvP bs) [Sum.inl p, Sum.inl l] = (atP bs p l).map fun b => V.str b.1.1 := by
  unfold valV kvP atP
  rw [List.find?_map, Option.map_map]
  have e : ((fun kv : List Key × V => decide (kv.1 = ([Sum.inl p, Sum.inl l] : List Key))) ∘ fun b : Ent => (([Sum.inl b.1.2.1, Sum.inl b.1.2.2] : List Key), V.str b.1.1)) = fun b => decide (b.1.2.1 = p ∧ b.1.2.2 = l) := by
    funext b
    simp
  rw [e]
  rfl
theorem valW (bs : List Ent) (t : Str) : valV (kvW bs) (Sum.inr t) = (atW bs t).map fun b => V.ref b.2 := by
  unfold valV kvW atW
  rw [List.find?_map, Option.map_map]
  have e : ((fun kv : Key × V => decide (kv.1 = (Sum.inr t : Key))) ∘ fun b : Ent => ((Sum.inr b.1.1 : Key), V.ref b.2)) = fun b => decide (b.1.1 = t) := by
    funext b
    simp
  rw [e]
  rfl
structure BookAt (C : Addr) (H : Hp) (p d1 d2 : Addr) (bs : List Ent) : Prop where
  ob : ∃ dx, H p = some (.ins C dx (flds d1 d2))
  pl : H d1 = some (.dT (kvP bs))
  wd : H d2 = some (.dK (kvW bs))
  tu : ∀ b ∈ bs, H b.2 = some (.tup [.int b.1.2.1, .int b.1.2.2])
theorem BookAt.kp {C : Addr} {H H' : Hp} {p d1 d2 : Addr} {bs : List Ent} (b : BookAt C H p d1 d2 bs) (k : Kp H H') : BookAt C H' p d1 d2 bs :=
  ⟨let ⟨dx, h⟩ := b.ob; ⟨dx, k.same _ _ rfl h⟩, k.same _ _ rfl b.pl, k.same _ _ rfl b.wd, fun e he => k.same _ _ rfl (b.tu e he)⟩
theorem BookAt.ne {C : Addr} {H : Hp} {p d1 d2 : Addr} {bs : List Ent} (b : BookAt C H p d1 d2 bs) : p ≠ d1 ∧ p ≠ d2 ∧ d1 ≠ d2 := by
  obtain ⟨dx, h⟩ := b.ob
  exact ⟨ne_of h b.pl (by intro z; cases z), ne_of h b.wd (by intro z; cases z), ne_of b.pl b.wd (by intro z; cases z)⟩
def okP (p l : Int) : Bool := (decide (1 ≤ p) && decide (p ≤ 40)) && (decide (1 ≤ l) && decide (l ≤ 40))
def sp_p_check_place (C : Addr) : Sp := fun vs H Q E => ∃ p l : Int, vs = [.int p, .int l] ∧ (okP p l = true → Q .non H) ∧ (okP p l = false → E (.ref C) none H)
theorem ok_p_check_place (T : Txt K mg) : FnOk P w K mg base (L2.CX P w) 2 T.f_p_check_place T.d_p_check_place ["page", "line"] (sp_p_check_place T.a_BadPlace) := by
  refine T.F_p_check_place.okX sc_p_check_place (fun vs H Q E h => ?_) (fun cdv A outer s H vs Q E hr h => ?_)
  · obtain ⟨p, l, rfl, _⟩ := h
    rfl
  · obtain ⟨p, l, rfl, k, kE⟩ := h
    refine ⟨_, (pss_one (ps_if (pt_not (PW.pt (pw_and (pt_chain op_le op_le pe_int (pv 0) (pe_glob rfl T.c_LAST_PAGE T.r_LAST_PAGE)) (pw_and1 (pt_chain op_le op_le pe_int (pv 1) (pe_glob rfl T.c_LAST_PAGE T.r_LAST_PAGE))))))
      (pss_one (ps_raise rfl (takes_of rfl rfl rfl rfl) (pmk_own PySem.F.excBase_ValueError T.x_BadPlace T.g_BadPlace T.k_BadPlace (raises_own T.b_BadPlace T.t_BadPlace) rfl)))
      pss_nil)), ?_⟩
    unfold okP at k kE
    refine ⟨_, rfl, _, _, rfl, rfl, _, rfl, ?_⟩
    by_cases c1 : 1 ≤ p
    · rw [decide_eq_true c1] at k kE
      refine iteTo (decide_eq_true c1) ⟨_, _, rfl, rfl, _, rfl, ?_⟩
      by_cases c2 : p ≤ 40
      · rw [decide_eq_true c2] at k kE
        refine iteTo (decide_eq_true c2) ⟨_, rfl, _, _, rfl, rfl, _, rfl, ?_⟩
        by_cases c3 : 1 ≤ l
        · rw [decide_eq_true c3] at k kE
          refine iteTo (decide_eq_true c3) ⟨_, _, rfl, rfl, _, rfl, ?_⟩
          by_cases c4 : l ≤ 40
          · rw [decide_eq_true c4] at k
            exact iteFo (by rw [decide_eq_true c4]; rfl) (k rfl)
          · rw [decide_eq_false c4] at kE
            exact iteTo (by rw [decide_eq_false c4]; rfl) (kE rfl)
        · rw [decide_eq_false c3] at kE
          exact iteFo (decide_eq_false c3) ⟨_, rfl, iteT (kE rfl)⟩
      · rw [decide_eq_false c2] at kE
        exact iteFo (decide_eq_false c2) (iteT (kE rfl))
    · rw [decide_eq_false c1] at kE
      exact iteFo (decide_eq_false c1) ⟨_, rfl, iteF (iteT (kE rfl))⟩
/-! ### Phrasebook's methods -/
def sp_p_Phrasebook_init (C : Addr) : Sp := fun vs H Q _ => ∃ (p dx : Addr), vs = [.ref p] ∧ H p = some (.ins C dx []) ∧ ∀ (d1 d2 : Addr) (H' : Hp), H d1 = none → H d2 = none → BookAt C H' p d1 d2 [] → KpE [p] H H' → Q .non H'
theorem ok_p_Phrasebook_init (T : Txt K mg) : FnOk P w K mg base CX0 1 T.f_p_Phrasebook_init T.d_p_Phrasebook_init ["self"] (sp_p_Phrasebook_init T.a_Phrasebook) := by
  refine T.F_p_Phrasebook_init.ok sc_p_Phrasebook_init (fun vs H Q E h => ?_) (fun cdv A outer s H vs Q E hr h => ?_)
  · obtain ⟨p, dx, rfl, _⟩ := h
    rfl
  · obtain ⟨p, dx, rfl, hp, k⟩ := h
    refine ⟨_, (pss_cons (ps_fld (pv 0) pe_dnewT rfl)
      (pss_one (ps_fld (pv 0) pe_dnewK rfl))), ?_⟩
    intro d1 h1
    have n1 : p ≠ d1 := ne_of_none hp h1
    refine ⟨_, rfl, p, _, dx, [], rfl, (by rw [upd_ne n1]; exact hp), T.cl_Phrasebook, T.n_Phrasebook_word_by_place, (by show 0 < 1000; decide), ?_⟩
    intro d2 h2
    have n2 : p ≠ d2 := ne_of_none upd_same h2
    have n12 : d1 ≠ d2 := fun e => by
      rw [← e, upd_ne n1.symm, upd_same] at h2
      cases h2
    refine ⟨_, rfl, p, _, dx, _, rfl, (by rw [upd_ne n2]; exact upd_same), T.cl_Phrasebook, T.n_Phrasebook_place_by_word, (by show 1 < 1000; decide), ?_⟩
    have f2 : H d2 = none := by
      rw [upd_ne n2.symm, upd_ne n12.symm] at h2
      exact h2
    have hp1 : (upd H d1 (.dT [])) p = some (.ins T.a_Phrasebook dx []) := by rw [upd_ne n1]; exact hp
    have e1 : KpE [p] H (upd (upd H d1 (.dT [])) p (.ins T.a_Phrasebook dx (putF "word_by_place" (.ref d1) []))) := (KpE.of (Kp.new h1)).trans (KpE.put hp1 rfl List.mem_cons_self)
    refine k d1 d2 _ h1 f2 ⟨⟨dx, upd_same⟩, ?_, ?_, by simp⟩ (e1.trans ((KpE.of (Kp.new h2)).trans (KpE.put (by rw [upd_ne n2]; exact upd_same) rfl List.mem_cons_self)))
    · rw [upd_ne n1.symm, upd_ne n12, upd_ne n1.symm, upd_same]
      rfl
    · rw [upd_ne n2.symm, upd_same]
      rfl
theorem kp_made {C H H1 x dx} (nx : H x = none) (ndx : H dx = none) (ne : dx ≠ x) (k : KpE [x] (upd (upd H dx (.own x)) x (.ins C dx [])) H1) : Kp H H1 :=
  KpE.kp ((Kp.new ndx).trans (.new (by rw [upd_ne ne.symm]; exact nx))) ⟨k.same, k.tab, k.free⟩ (fun b hb => by rw [List.mem_singleton.mp hb]; exact nx)
def sp_p_Phrasebook_word_at (C B : Addr) : Sp := fun vs H Q E => ∃ (p d1 d2 : Addr) (bs : List Ent) (a l : Int), vs = [.ref p, .int a, .int l] ∧ BookAt C H p d1 d2 bs ∧
  (okP a l = true → ∀ H', Kp H H' → Q (((atP bs a l).map fun b => V.str b.1.1).getD .non) H') ∧ (okP a l = false → E (.ref B) none H)
theorem ok_p_Phrasebook_word_at (T : Txt K mg) : FnOk P w K mg base (L2.CX P w) 3 T.f_p_Phrasebook_word_at T.d_p_Phrasebook_word_at ["self", "page", "line"] (sp_p_Phrasebook_word_at T.a_Phrasebook T.a_BadPlace) := by
  refine T.F_p_Phrasebook_word_at.okX sc_p_Phrasebook_word_at (fun vs H Q E h => ?_) (fun cdv A outer s H vs Q E hr h => ?_)
  · obtain ⟨p, d1, d2, bs, a, l, rfl, _⟩ := h
    rfl
  · obtain ⟨p, d1, d2, bs, a, l, rfl, hB, k, kE⟩ := h
    have hu := hu_of hr
    refine ⟨_, (pss_cons (ps_expr (pe_call (ok_p_check_place T) (hr.mono (by decide)) rfl T.g_p_check_place T.F_p_check_place.kp T.b_p_check_place .nil (passes_call (takes_of rfl rfl rfl rfl) (fun _ _ _ _ z => z)) (pa_cons (pv 1) (pa_cons (pv 2) pa_nil))))
      (pss_one (ps_ret (pe_dget1 hu (pe_fld (pv 0) rfl) (pe_tup (pa_cons (pv 1) (pa_cons (pv 2) pa_nil))) ⟨rfl, rfl, rfl, rfl⟩)))), ?_⟩
    refine ⟨_, rfl, _, rfl, a, l, rfl, fun c => ?_, fun c => kE c⟩
    obtain ⟨dx, hp⟩ := hB.ob
    refine ⟨_, rfl, p, _, dx, _, _, rfl, hp, T.cl_Phrasebook, T.n_Phrasebook_word_by_place, flds_word _ _, d1, rfl, .inr ⟨_, .inl hB.pl⟩, _, rfl, _, rfl, szl (by show 2 ≤ 100000; decide), fun t nt => ?_⟩
    generalize h_H1 : upd H t _ = H1
    have k_H1 : Kp H H1 := by rw [← h_H1]; exact .new nt
    have q_H1 := (congrFun h_H1 t).symm.trans upd_same
    clear h_H1
    have B1 := hB.kp k_H1
    have z := k c _ k_H1
    rw [← valP] at z
    exact ⟨_, DGet.t (k := [Sum.inl a, Sum.inl l]) B1.pl q_H1, z⟩
/-- why a word is not entered: the place, the word, the place has one, the word has one -/
inductive Why where
  | place | word | taken | known
def enterV (bs : List Ent) (a l : Int) (t : Str) : Option Why :=
  if okP a l = false then some .place else if isW t = false then some .word else if (atP bs a l).isSome then some .taken else if (atW bs t).isSome then some .known else none
def sp_p_Phrasebook_enter (T : Txt K mg) : Sp := fun vs H Q E => ∃ (p d1 d2 : Addr) (bs : List Ent) (a l : Int) (t : Str), vs = [.ref p, .int a, .int l, .str t] ∧ BookAt T.a_Phrasebook H p d1 d2 bs ∧ bs.length ≤ 1000 ∧ t.length ≤ 1000 ∧ GxR.TabG H T.P_tab ∧
  (enterV bs a l t = none → ∀ (u : Addr) (H' : Hp), KpE [d1, d2] H H' → BookAt T.a_Phrasebook H' p d1 d2 (bs ++ [((t, a, l), u)]) → Q .non H') ∧
  (∀ y, enterV bs a l t = some y → ∀ H', Kp H H' → E (.ref (match y with | .place => T.a_BadPlace | .word => T.a_BadWord | .taken => T.a_Taken | .known => T.a_Known)) none H')
theorem ok_p_Phrasebook_enter (T : Txt K mg) (TB : GxR.TabB base mg T.c_tab T.P_tab) : FnOk P w K mg base (L2.CX P w) 5 T.f_p_Phrasebook_enter T.d_p_Phrasebook_enter ["self", "page", "line", "word"] (sp_p_Phrasebook_enter T) := by
  refine T.F_p_Phrasebook_enter.okX sc_p_Phrasebook_enter (fun vs H Q E h => ?_) (fun cdv A outer s H vs Q E hr h => ?_)
  · obtain ⟨p, d1, d2, bs, a, l, t, rfl, _⟩ := h
    rfl
  · obtain ⟨p, d1, d2, bs, a, l, t, rfl, hB, hbl, hl, hT, k, kE⟩ := h
    have hu := hu_of hr
    refine ⟨_, (pss_cons (ps_expr (pe_call (ok_p_check_place T) (hr.mono (by decide)) rfl T.g_p_check_place T.F_p_check_place.kp T.b_p_check_place .nil (passes_call (takes_of rfl rfl rfl rfl) (fun _ _ _ _ z => z)) (pa_cons (pv 1) (pa_cons (pv 2) pa_nil))))
      (pss_cons (ps_expr (pe_call (ok_p_check_word T TB) (hr.mono (by decide)) rfl T.g_p_check_word T.F_p_check_word.kp T.b_p_check_word .nil (passes_call (takes_of rfl rfl rfl rfl) (fun _ _ _ _ z => z)) (pa_cons (pv 3) pa_nil)))
      (pss_cons (ps_if (pt_cmp (pc_din hu (pe_tup (pa_cons (pv 1) (pa_cons (pv 2) pa_nil))) (pe_fld (pv 0) rfl)))
      (pss_one (ps_raise rfl (takes_of rfl rfl rfl rfl) (pmk_own PySem.F.excBase_ValueError T.x_Taken T.g_Taken T.k_Taken (raises_own T.b_Taken T.t_Taken) rfl)))
      pss_nil)
      (pss_cons (ps_if (pt_cmp (pc_din hu (pv 3) (pe_fld (pv 0) rfl)))
      (pss_one (ps_raise rfl (takes_of rfl rfl rfl rfl) (pmk_own PySem.F.excBase_ValueError T.x_Known T.g_Known T.k_Known (raises_own T.b_Known T.t_Known) rfl)))
      pss_nil)
      (pss_cons (ps_dput hu (pe_fld (pv 0) rfl) (pe_tup (pa_cons (pv 1) (pa_cons (pv 2) pa_nil))) (pv 3) rfl)
      (pss_one (ps_dput hu (pe_fld (pv 0) rfl) (pv 3) (pe_tup (pa_cons (pv 1) (pa_cons (pv 2) pa_nil))) rfl))))))), ?_⟩
    refine ⟨_, rfl, _, rfl, a, l, rfl, fun c1 => ?_, fun c1 => kE .place (by unfold enterV; rw [if_pos c1]) H (.refl _)⟩
    have v1 : enterV bs a l t = if isW t = false then some .word else if (atP bs a l).isSome then some .taken else if (atW bs t).isSome then some .known else none := by
      unfold enterV
      rw [if_neg (by rw [c1]; decide)]
    refine ⟨_, rfl, t, rfl, hl, hT, fun c2 H1 k1 => ?_, fun c2 H1 k1 => kE .word (by rw [v1, if_pos c2]) H1 k1⟩
    rw [if_neg (by rw [c2]; decide)] at v1
    have B1 := hB.kp k1
    obtain ⟨dx, hp⟩ := B1.ob
    refine ⟨_, rfl, _, rfl, szl (by show 2 ≤ 100000; decide), fun u nu => ?_⟩
    generalize h_H2 : upd H1 u _ = H2
    have k_H2 : Kp H1 H2 := by rw [← h_H2]; exact .new nu
    have q_H2 := (congrFun h_H2 u).symm.trans upd_same
    clear h_H2
    have B2 := B1.kp k_H2
    have hp2 := k_H2.same _ _ rfl hp
    refine ⟨_, rfl, p, _, dx, _, _, rfl, hp2, T.cl_Phrasebook, T.n_Phrasebook_word_by_place, flds_word _ _, d1, _, rfl, DGet.t (k := [Sum.inl a, Sum.inl l]) B2.pl q_H2, _, rfl, ?_⟩
    cases e1 : atP bs a l with
    | some b =>
      refine iteTo (by rw [valP, e1]; rfl) ?_
      exact kE .taken (by rw [v1, e1]; rfl) H2 (k1.trans k_H2)
    | none =>
      refine iteFo (by rw [valP, e1]; rfl) ?_
      rw [e1] at v1
      refine ⟨_, rfl, _, rfl, p, _, dx, _, _, rfl, hp2, T.cl_Phrasebook, T.n_Phrasebook_place_by_word, flds_place _ _, d2, _, rfl, DGet.k (k := Sum.inr t) B2.wd, _, rfl, ?_⟩
      cases e2 : atW bs t with
      | some b =>
        refine iteTo (by rw [valW, e2]; rfl) ?_
        exact kE .known (by rw [v1, e2]; rfl) H2 (k1.trans k_H2)
      | none =>
        refine iteFo (by rw [valW, e2]; rfl) ?_
        rw [e2] at v1
        obtain ⟨np1, np2, n12⟩ := B2.ne
        have hbl1 : (kvP bs).length < sizeLine := szt (by unfold kvP; rw [List.length_map]; omega)
        have hbl2 : (kvW bs).length < sizeLine := szt (by unfold kvW; rw [List.length_map]; omega)
        refine ⟨_, rfl, _, rfl, p, _, dx, _, _, rfl, hp2, T.cl_Phrasebook, T.n_Phrasebook_word_by_place, flds_word _ _, _, rfl, _, rfl, szl (by show 2 ≤ 100000; decide), fun u3 nu3 => ?_⟩
        generalize h_H3 : upd H2 u3 _ = H3
        have k_H3 : Kp H2 H3 := by rw [← h_H3]; exact .new nu3
        have q_H3 := (congrFun h_H3 u3).symm.trans upd_same
        clear h_H3
        have B3 := B2.kp k_H3
        have hp3 := k_H3.same _ _ rfl hp2
        refine ⟨d1, _, rfl, DPut.t (k := [Sum.inl a, Sum.inl l]) B3.pl q_H3 hbl1, ?_⟩
        have eP : putK (kvP bs) [Sum.inl a, Sum.inl l] (V.str t) = kvP (bs ++ [((t, a, l), 0)]) := by
          rw [putK_new _ (by rw [valP, e1]; rfl)]
          unfold kvP
          rw [List.map_append]
          rfl
        rw [eP]
        have m1 : KpE [d1, d2] H3 (upd H3 d1 (.dT (kvP (bs ++ [((t, a, l), 0)])))) := KpE.put B3.pl rfl List.mem_cons_self
        refine ⟨_, rfl, _, rfl, szl (by show 2 ≤ 100000; decide), fun u4 nu4 => ?_⟩
        have n41 : d1 ≠ u4 := ne_of_none upd_same nu4
        have n42 : d2 ≠ u4 := ne_of_none (by rw [upd_ne n12.symm]; exact B3.wd) nu4
        have n4p : p ≠ u4 := ne_of_none (by rw [upd_ne np1]; exact hp3) nu4
        have w4 : (upd (upd H3 d1 (.dT (kvP (bs ++ [((t, a, l), 0)])))) u4 (.tup [V.int a, V.int l])) d2 = some (.dK (kvW bs)) := by
          rw [upd_ne n42, upd_ne n12.symm]
          exact B3.wd
        refine ⟨_, rfl, p, _, dx, _, _, rfl, (by rw [upd_ne n4p, upd_ne np1]; exact hp3), T.cl_Phrasebook, T.n_Phrasebook_place_by_word, flds_place _ _, _, rfl, d2, _, rfl, DPut.k (k := Sum.inr t) w4 hbl2, ?_⟩
        have eW : putK (kvW bs) (Sum.inr t) (V.ref u4) = kvW (bs ++ [((t, a, l), u4)]) := by
          rw [putK_new _ (by rw [valW, e2]; rfl)]
          unfold kvW
          rw [List.map_append]
          rfl
        rw [eW]
        have eP2 : kvP (bs ++ [((t, a, l), 0)]) = kvP (bs ++ [((t, a, l), u4)]) := by
          unfold kvP
          rw [List.map_append, List.map_append]
          rfl
        refine k (by rw [v1]; rfl) u4 _ (((KpE.of ((k1.trans k_H2).trans k_H3)).trans m1).trans ((KpE.of (Kp.new nu4)).trans (KpE.put w4 rfl (List.mem_cons_of_mem _ List.mem_cons_self)))) ⟨⟨dx, ?_⟩, ?_, upd_same, fun e he => ?_⟩
        · rw [upd_ne np2, upd_ne n4p, upd_ne np1]
          exact hp3
        · rw [upd_ne n12, upd_ne n41, upd_same, eP2]
        · rcases List.mem_append.mp he with he | he
          · have q := B3.tu e he
            have x1 : e.2 ≠ d1 := ne_of q B3.pl (by intro z; cases z)
            have x2 : e.2 ≠ d2 := ne_of q B3.wd (by intro z; cases z)
            have x4 : e.2 ≠ u4 := ne_of_none (by rw [upd_ne x1]; exact q) nu4
            rw [upd_ne x2, upd_ne x4, upd_ne x1]
            exact q
          · rw [List.mem_singleton.mp he]
            rw [upd_ne n42.symm, upd_same]
theorem Kp.unlock {H H' : Hp} {d : Addr} {u : HO} {od : Obj} (hd : H d = some u) (nt : isT u = false) (k : Kp (upd H d (.frz od u)) H') : Kp H (upd H' d u) := by
  refine ⟨fun a o t q => ?_, fun a ⟨ps, q, tr⟩ => ?_, fun a q => ?_⟩
  · by_cases e : a = d
    · rw [e] at q ⊢
      rw [hd] at q
      rw [upd_same, Option.some.inj q]
    · rw [upd_ne e]
      exact k.same a o t (by rw [upd_ne e]; exact q)
  · have e : a ≠ d := fun z => by
      rw [z, hd] at q
      rw [Option.some.inj q] at nt
      cases nt
    obtain ⟨ps', h1, h2⟩ := k.tab a ⟨ps, by rw [upd_ne e]; exact q, tr⟩
    exact ⟨ps', by rw [upd_ne e]; exact h1, h2⟩
  · by_cases e : a = d
    · rw [e, upd_same] at q
      cases q
    · rw [upd_ne e] at q
      have z := k.free a q
      rw [upd_ne e] at z
      exact z
/-! ### Phrasebook.strike -/
def sp_p_Phrasebook_strike (T : Txt K mg) : Sp := fun vs H Q E => ∃ (p d1 d2 : Addr) (bs : List Ent) (a l : Int), vs = [.ref p, .int a, .int l] ∧ BookAt T.a_Phrasebook H p d1 d2 bs ∧
  (okP a l = false → ∀ H', Kp H H' → E (.ref T.a_BadPlace) none H') ∧ (okP a l = true → atP bs a l = none → ∀ H', Kp H H' → E (.ref T.a_NoWord) none H') ∧
  (okP a l = true → ∀ b, atP bs a l = some b → ∃ bs2 : List Ent, dropK (kvP bs) [Sum.inl a, Sum.inl l] = kvP bs2 ∧ dropK (kvW bs) (Sum.inr b.1.1) = kvW bs2 ∧ (∀ e ∈ bs2, e ∈ bs) ∧
    ∀ H', KpE [d1, d2] H H' → BookAt T.a_Phrasebook H' p d1 d2 bs2 → Q .non H')
theorem ok_p_Phrasebook_strike (T : Txt K mg) : FnOk P w K mg base (L2.CX P w) 4 T.f_p_Phrasebook_strike T.d_p_Phrasebook_strike ["self", "page", "line"] (sp_p_Phrasebook_strike T) := by
  refine T.F_p_Phrasebook_strike.okX sc_p_Phrasebook_strike (fun vs H Q E h => ?_) (fun cdv A outer s H vs Q E hr h => ?_)
  · obtain ⟨p, d1, d2, bs, a, l, rfl, _⟩ := h
    rfl
  · obtain ⟨p, d1, d2, bs, a, l, rfl, hB, kP, kN, k⟩ := h
    have hu := hu_of hr
    refine ⟨_, (pss_cons (ps_set (i := 3) sc_p_Phrasebook_strike.nd rfl (by first | exact Or.inl rfl | exact Or.inr rfl) (pe_meth (pv 0) T.cl_Phrasebook T.M_p_Phrasebook_word_at (ok_p_Phrasebook_word_at T) (hr.mono (by decide)) T.b_p_Phrasebook_word_at .nil (passes_call (takes_of rfl rfl rfl rfl) (fun _ _ _ _ z => z)) (pa_cons (pv 1) (pa_cons (pv 2) pa_nil))))
      (pss_cons (ps_if (pt_cmpR op_isN (pv 3) pe_non (nomark _))
      (pss_one (ps_raise rfl (takes_of rfl rfl rfl rfl) (pmk_own PySem.F.excBase_ValueError T.x_NoWord T.g_NoWord T.k_NoWord (raises_own T.b_NoWord T.t_NoWord) rfl)))
      pss_nil)
      (pss_cons (ps_ddelT hu (pe_fld (pv 0) rfl) (pe_tup (pa_cons (pv 1) (pa_cons (pv 2) pa_nil))))
      (pss_one (ps_ddel (pe_fld (pv 0) rfl) (pv 3)))))), ?_⟩
    obtain ⟨dx, hp⟩ := hB.ob
    refine ⟨_, rfl, p, dx, _, rfl, hp, flds_no _ _ (by decide +kernel) (by decide +kernel), _, rfl, _, rfl, p, d1, d2, bs, a, l, rfl, hB, fun c H1 k1 => ?_, fun c => kP c H (.refl _)⟩
    cases e : atP bs a l with
    | none =>
      refine ⟨_, rfl, rfl, _, rfl, iteTo dec_self ?_⟩
      exact kN c e H1 k1
    | some b =>
      refine ⟨_, rfl, rfl, _, rfl, iteFo rfl ?_⟩
      obtain ⟨bs2, e1, e2, sub, k⟩ := k c b e
      have B1 := hB.kp k1
      obtain ⟨np1, np2, n12⟩ := B1.ne
      have hp1 := k1.same _ _ rfl hp
      refine ⟨_, rfl, p, _, dx, _, _, rfl, hp1, T.cl_Phrasebook, T.n_Phrasebook_word_by_place, flds_word _ _, _, rfl, _, rfl, szl (by show 2 ≤ 100000; decide), fun t nt => ?_⟩
      generalize h_H2 : upd H1 t _ = H2
      have k_H2 : Kp H1 H2 := by rw [← h_H2]; exact .new nt
      have q_H2 := (congrFun h_H2 t).symm.trans upd_same
      clear h_H2
      have B2 := B1.kp k_H2
      have hp2 := k_H2.same _ _ rfl hp1
      refine ⟨d1, t, _, [Sum.inl a, Sum.inl l], rfl, rfl, B2.pl, q_H2, by rw [valP, e]; rfl, ?_⟩
      rw [e1]
      have m1 : KpE [d1, d2] H2 (upd H2 d1 (.dT (kvP bs2))) := KpE.put B2.pl rfl List.mem_cons_self
      have w2 : (upd H2 d1 (.dT (kvP bs2))) d2 = some (.dK (kvW bs)) := by rw [upd_ne n12.symm]; exact B2.wd
      have hbb : (atW bs b.1.1).isSome = true := by
        unfold atW
        rw [List.find?_isSome]
        exact ⟨b, List.mem_of_find?_eq_some e, by simp⟩
      refine ⟨_, rfl, p, _, dx, _, _, rfl, (by rw [upd_ne np1]; exact hp2), T.cl_Phrasebook, T.n_Phrasebook_place_by_word, flds_place _ _, _, rfl, d2, _, Sum.inr b.1.1, rfl, w2, rfl, by rw [valW, Option.isSome_map]; exact hbb, ?_⟩
      rw [e2]
      refine k _ (((KpE.of (k1.trans k_H2)).trans m1).trans (KpE.put w2 rfl (List.mem_cons_of_mem _ List.mem_cons_self))) ⟨⟨dx, ?_⟩, ?_, upd_same, fun x hx => ?_⟩
      · rw [upd_ne np2, upd_ne np1]
        exact hp2
      · rw [upd_ne n12, upd_same]
      · have q := B2.tu x (sub x hx)
        have x1 : x.2 ≠ d1 := ne_of q B2.pl (by intro z; cases z)
        have x2 : x.2 ≠ d2 := ne_of q B2.wd (by intro z; cases z)
        rw [upd_ne x2, upd_ne x1]
        exact q
/-! ### deeds -/
abbrev Tri := Str × Int × Int
def hereT (a l : Int) (x : Tri) : Bool := decide (x.2.1 = a ∧ x.2.2 = l)
def hereF (a l : Int) (e : Ent) : Bool := decide (e.1.2.1 = a ∧ e.1.2.2 = l)
def plT (ts : List Tri) (a l : Int) : Option Tri := ts.find? (hereT a l)
def wdT (ts : List Tri) (t : Str) : Option Tri := ts.find? fun x => decide (x.1 = t)
theorem atP_T (bs : List Ent) (a l : Int) : (atP bs a l).map (·.1) = plT (bs.map (·.1)) a l := by
  unfold atP plT
  rw [List.find?_map]
  rfl
theorem atW_T (bs : List Ent) (t : Str) : (atW bs t).map (·.1) = wdT (bs.map (·.1)) t := by
  unfold atW wdT
  rw [List.find?_map]
  rfl
theorem atP_some (bs : List Ent) (a l : Int) : (atP bs a l).isSome = (plT (bs.map (·.1)) a l).isSome := by rw [← atP_T, Option.isSome_map]
theorem atW_some (bs : List Ent) (t : Str) : (atW bs t).isSome = (wdT (bs.map (·.1)) t).isSome := by rw [← atW_T, Option.isSome_map]
structure GoodT (ts : List Tri) : Prop where
  ok : ∀ x ∈ ts, isW x.1 = true ∧ okP x.2.1 x.2.2 = true
  pl : (ts.map (·.2)).Nodup
  wd : (ts.map (·.1)).Nodup
theorem inj_nodup {α β : Type} {f : α → β} : ∀ {l : List α}, (l.map f).Nodup → ∀ x ∈ l, ∀ y ∈ l, f x = f y → x = y
  | [], _, x, hx, _, _, _ => nomatch hx
  | z :: r, h, x, hx, y, hy, e => by
    rw [List.map_cons, List.nodup_cons] at h
    rcases List.mem_cons.mp hx with rfl | hx
    · rcases List.mem_cons.mp hy with rfl | hy
      · rfl
      · exact absurd (List.mem_map.mpr ⟨y, hy, e.symm⟩) h.1
    · rcases List.mem_cons.mp hy with ey | hy
      · exact absurd (List.mem_map.mpr ⟨x, hx, by rw [← ey]; exact e⟩) h.1
      · exact inj_nodup h.2 x hx y hy e
theorem plT_mem {ts : List Tri} {a l : Int} {x : Tri} (h : plT ts a l = some x) : x ∈ ts ∧ x.2.1 = a ∧ x.2.2 = l :=
  ⟨List.mem_of_find?_eq_some h, by
    have z : hereT a l x = true := List.find?_some h
    exact of_decide_eq_true z⟩
theorem plT_none {ts : List Tri} {a l : Int} (h : (plT ts a l).isSome = false) : ∀ x ∈ ts, ¬ (x.2.1 = a ∧ x.2.2 = l) := fun x hx c => by
  have z : (plT ts a l).isSome = true := List.find?_isSome.mpr ⟨x, hx, decide_eq_true c⟩
  rw [z] at h
  cases h
theorem wdT_none {ts : List Tri} {t : Str} (h : (wdT ts t).isSome = false) : ∀ x ∈ ts, ¬ x.1 = t := fun x hx c => by
  have z : (wdT ts t).isSome = true := List.find?_isSome.mpr ⟨x, hx, decide_eq_true c⟩
  rw [z] at h
  cases h
/-- why a deed is refused: a kind's number -/
def deedV (ts : List Tri) (st : Bool) (a l : Int) (t : Str) : Option Nat :=
  if okP a l = false then some 0 else if st = true then (if (plT ts a l).isSome = true then none else some 4) else if isW t = false then some 1 else if (plT ts a l).isSome = true then some 2 else if (wdT ts t).isSome = true then some 3 else none
def deedT (ts : List Tri) (st : Bool) (a l : Int) (t : Str) : List Tri := if st = true then ts.filter (fun x => !hereT a l x) else ts ++ [(t, a, l)]
def nmOf (st : Bool) : Str := if st = true then "strike" else "enter"
theorem GoodT.step {ts : List Tri} {st : Bool} {a l : Int} {t : Str} (g : GoodT ts) (h : deedV ts st a l t = none) : GoodT (deedT ts st a l t) := by
  unfold deedV at h
  by_cases c0 : okP a l = false
  · rw [if_pos c0] at h; cases h
  rw [if_neg c0] at h
  cases st with
  | true =>
    show GoodT (ts.filter _)
    exact ⟨fun x hx => g.ok x (List.mem_filter.mp hx).1, g.pl.sublist (List.Sublist.map _ List.filter_sublist), g.wd.sublist (List.Sublist.map _ List.filter_sublist)⟩
  | false =>
    rw [if_neg (by decide)] at h
    by_cases c1 : isW t = false
    · rw [if_pos c1] at h; cases h
    rw [if_neg c1] at h
    by_cases c2 : (plT ts a l).isSome = true
    · rw [if_pos c2] at h; cases h
    rw [if_neg c2] at h
    by_cases c3 : (wdT ts t).isSome = true
    · rw [if_pos c3] at h; cases h
    have d2 := plT_none (Bool.eq_false_iff.mpr c2)
    have d3 := wdT_none (Bool.eq_false_iff.mpr c3)
    show GoodT (ts ++ [(t, a, l)])
    refine ⟨fun x hx => ?_, ?_, ?_⟩
    · rcases List.mem_append.mp hx with hx | hx
      · exact g.ok x hx
      · rw [List.mem_singleton.mp hx]
        exact ⟨by simpa using c1, by simpa using c0⟩
    · rw [List.map_append, List.nodup_append]
      refine ⟨g.pl, by simp, fun x hx y hy e => ?_⟩
      obtain ⟨z, hz, rfl⟩ := List.mem_map.mp hx
      have hy2 : y = (a, l) := by simpa using hy
      subst hy2
      exact d2 z hz ⟨congrArg (·.1) e, congrArg (·.2) e⟩
    · rw [List.map_append, List.nodup_append]
      refine ⟨g.wd, by simp, fun x hx y hy e => ?_⟩
      obtain ⟨z, hz, rfl⟩ := List.mem_map.mp hx
      have hy2 : y = t := by simpa using hy
      subst hy2
      exact d3 z hz e
theorem filt_T (es : List Ent) (a l : Int) : (es.filter fun e => !hereF a l e).map (·.1) = (es.map (·.1)).filter fun x => !hereT a l x := by
  rw [List.filter_map]
  rfl
theorem here_one {ts : List Tri} {a l : Int} {x : Tri} (g : GoodT ts) (hx : plT ts a l = some x) {y : Tri} (hy : y ∈ ts) : (y.1 = x.1 ↔ (y.2.1 = a ∧ y.2.2 = l)) := by
  obtain ⟨h1, h2, h3⟩ := plT_mem hx
  constructor
  · intro e
    rw [inj_nodup g.wd y hy x h1 e]
    exact ⟨h2, h3⟩
  · intro e
    rw [inj_nodup g.pl y hy x h1 (Prod.ext (e.1.trans h2.symm) (e.2.trans h3.symm))]
theorem drop_W {es : List Ent} {a l : Int} {x : Tri} (g : GoodT (es.map (·.1))) (hx : plT (es.map (·.1)) a l = some x) : dropK (kvW es) (Sum.inr x.1) = kvW (es.filter fun e => !hereF a l e) := by
  unfold dropK kvW
  rw [List.filter_map]
  congr 1
  refine List.filter_congr fun e he => ?_
  have q := here_one g hx (List.mem_map.mpr ⟨e, he, rfl⟩)
  show decide ((Sum.inr e.1.1 : Key) ≠ Sum.inr x.1) = !hereF a l e
  unfold hereF
  by_cases c : e.1.1 = x.1
  · rw [decide_eq_true (q.mp c), c]
    simp
  · rw [decide_eq_false (fun z => c (q.mpr z)), decide_eq_true (show (Sum.inr e.1.1 : Key) ≠ Sum.inr x.1 from fun z => c (by injection z))]
    rfl
theorem drop_P (bs : List Ent) (a l : Int) : dropK (kvP bs) [Sum.inl a, Sum.inl l] = kvP (bs.filter fun e => !hereF a l e) := by
  unfold dropK kvP
  rw [List.filter_map]
  congr 1
  refine List.filter_congr fun e he => ?_
  show decide (([Sum.inl e.1.2.1, Sum.inl e.1.2.2] : List Key) ≠ [Sum.inl a, Sum.inl l]) = !hereF a l e
  unfold hereF
  by_cases c : e.1.2.1 = a ∧ e.1.2.2 = l
  · rw [decide_eq_true c, c.1, c.2]
    simp
  · rw [decide_eq_false c, decide_eq_true (show ([Sum.inl e.1.2.1, Sum.inl e.1.2.2] : List Key) ≠ [Sum.inl a, Sum.inl l] from fun z => c (by injection z with z1 z2; injection z1 with z1; injection z2 with z2 _; injection z2 with z2; exact ⟨z1, z2⟩))]
    rfl
def whyN : Why → Nat
  | .place => 0
  | .word => 1
  | .taken => 2
  | .known => 3
theorem enter_V (bs : List Ent) (a l : Int) (t : Str) : deedV (bs.map (·.1)) false a l t = (enterV bs a l t).map whyN := by
  unfold deedV enterV
  rw [← atP_some, ← atW_some]
  generalize (atP bs a l).isSome = x
  generalize (atW bs t).isSome = y
  generalize okP a l = u
  generalize isW t = v
  cases u <;> cases v <;> cases x <;> cases y <;> rfl
/-- the class that a refusal of the phrasebook has -/
def whyS : Nat → Str
  | 0 => "BadPlace"
  | 1 => "BadWord"
  | 2 => "Taken"
  | 3 => "Known"
  | _ => "NoWord"
/-! ### is_sign, check_signs -/
def isSg (n : Int) : Bool := decide (1 ≤ n) && decide (n ≤ 94)
def sp_p_is_sign : Sp := fun vs H Q _ => ∃ n : Int, vs = [.int n] ∧ Q (.bl (isSg n)) H
theorem ok_p_is_sign (T : Txt K mg) : FnOk P w K mg base CX0 1 T.f_p_is_sign T.d_p_is_sign ["number"] sp_p_is_sign := by
  refine T.F_p_is_sign.ok sc_p_is_sign (fun vs H Q E h => ?_) (fun cdv A outer s H vs Q E hr h => ?_)
  · obtain ⟨n, rfl, _⟩ := h
    rfl
  · obtain ⟨n, rfl, k⟩ := h
    refine ⟨_, (pss_one (ps_ret (pe_chain op_le op_le pe_int (pv 0) (pe_glob rfl T.c_LAST_SIGN T.r_LAST_SIGN)))), ?_⟩
    refine ⟨_, rfl, _, _, rfl, rfl, _, rfl, ?_⟩
    unfold isSg at k
    by_cases c : 1 ≤ n
    · rw [decide_eq_true c] at k
      refine iteTo (decide_eq_true c) ⟨_, _, rfl, rfl, k⟩
    · rw [decide_eq_false c] at k
      exact iteFo (decide_eq_false c) k
def sp_p_check_signs (K : PySem.W.Frag) (C Pt : Addr) : Sp := fun vs H Q E => ∃ (a : Addr) (ns : List Int), vs = [.ref a] ∧ SqL K H a (ns.map V.int) ∧ GxR.TabG H Pt ∧ (ns.all isSg = true → ∀ H', Kp H H' → Q .non H') ∧ (ns.all isSg = false → ∀ H', Kp H H' → E (.ref C) none H')
theorem ok_p_check_signs (T : Txt K mg) (TBS : GxR.TabB base mg T.c_tabS T.P_tabS) : FnOk P w K mg base (L2.CX P w) 3 T.f_p_check_signs T.d_p_check_signs ["numbers"] (sp_p_check_signs K T.a_BadSign T.P_tabS) := by
  obtain ⟨tl, hu⟩ : ∃ tl, T.u_LAST_SIGN = Value.int 94 tl := T.r_LAST_SIGN
  have hL : mg "LAST_SIGN" = some (.int 94 tl) := T.c_LAST_SIGN.trans (congrArg some hu)
  refine T.W_p_check_signs.okX sc_p_check_signs (fun vs H Q E h => ?_) (fun A outer s H vs Q E hr h => ?_)
  · obtain ⟨a, ns, rfl, _⟩ := h
    rfl
  · obtain ⟨a, ns, rfl, hS, tg, k, kE⟩ := h
    have hD : (cxOf (L2.CX P w) P w K mg base ["numbers", "number"] "check_signs" (defScope s_p_check_signs) T.f_p_check_signs (.ref T.c_tabS) A outer s H E).A.depth + 1 < recursionLimit := by
      have := hr.dp
      show (A.deeper _).depth + 1 < recursionLimit
      omega
    refine ⟨_, (pss_one (ps_if (pt_not (pt_val (pe_allD hr (by rfl) T.m_all (by decide +kernel) TBS rfl ⟨rfl, rfl, noCell (by decide +kernel), rfl, rfl, noFree (by decide +kernel)⟩ (pv 0) (elt_call T.F_p_is_sign T.g_p_is_sign T.b_p_is_sign sc_p_is_sign (noCell (by decide +kernel)) rfl (elt_chain rfl rfl rfl hL) rfl rfl rfl rfl hD) (fun _ => rfl))))
      (pss_one (ps_raise rfl (takes_of rfl rfl rfl rfl) (pmk_own PySem.F.excBase_ValueError T.x_BadSign T.g_BadSign T.k_BadSign (raises_own T.b_BadSign T.t_BadSign) rfl)))
      pss_nil)), ?_⟩
    refine ⟨_, rfl, a, ns, rfl, hS, tg, fun H2 tb => ?_⟩
    have k2 := kp_tabbed tg tb
    refine ⟨_, rfl, iteB (fun c => ?_) (fun c => ?_)⟩
    · exact kE (by simpa [isSg] using c) _ k2
    · exact k (by simpa [isSg] using c) _ k2
/-! ### ways -/
def isWay (w : Str) : Bool := inV (.str w) [.str "up", .str "down"]
theorem isWay_iff {w : Str} : isWay w = true ↔ w = "up" ∨ w = "down" := by
  unfold isWay inV
  simp only [List.any_cons, List.any_nil, Bool.or_false, Bool.or_eq_true]
  show (((Str.ofString "up" == w) = true) ∨ ((Str.ofString "down" == w) = true)) ↔ _
  rw [beq_iff_eq, beq_iff_eq]
  exact ⟨fun h => h.elim (fun z => .inl z.symm) (fun z => .inr z.symm), fun h => h.elim (fun z => .inl z.symm) (fun z => .inr z.symm)⟩
def sp_p_check_way (C : Addr) : Sp := fun vs H Q E => ∃ w : Str, vs = [.str w] ∧ (isWay w = true → ∀ H', Kp H H' → Q .non H') ∧ (isWay w = false → ∀ H', Kp H H' → E (.ref C) none H')
theorem ok_p_check_way (T : Txt K mg) : FnOk P w K mg base (L2.CX P w) 2 T.f_p_check_way T.d_p_check_way ["way"] (sp_p_check_way T.a_BadWay) := by
  refine T.F_p_check_way.okX sc_p_check_way (fun vs H Q E h => ?_) (fun cdv A outer s H vs Q E hr h => ?_)
  · obtain ⟨w, rfl, _⟩ := h
    rfl
  · obtain ⟨w, rfl, k, kE⟩ := h
    refine ⟨_, (pss_one (ps_if (pt_cmpR op_notIn_seq (pv 0) (pe_tup (pa_cons (pe_glob rfl T.c_UP T.r_UP) (pa_cons (pe_glob rfl T.c_DOWN T.r_DOWN) pa_nil))) rfl)
      (pss_one (ps_raise rfl (takes_of rfl rfl rfl rfl) (pmk_own PySem.F.excBase_ValueError T.x_BadWay T.g_BadWay T.k_BadWay (raises_own T.b_BadWay T.t_BadWay) rfl)))
      pss_nil)), ?_⟩
    refine ⟨_, rfl, szl (by show 2 ≤ 100000; decide), fun t nt => ?_⟩
    generalize h_H1 : upd H t _ = H1
    have k_H1 : Kp H H1 := by rw [← h_H1]; exact .new nt
    have q_H1 := (congrFun h_H1 t).symm.trans upd_same
    clear h_H1
    refine ⟨t, _, rfl, .inr (.inl (.inl q_H1)), rfl, rfl, _, rfl, iteB (fun c => ?_) (fun c => ?_)⟩
    · exact kE (by have c : (!isWay w) = true := c; simpa using c) _ k_H1
    · exact k (by have c : (!isWay w) = false := c; simpa using c) _ k_H1
def sp_p_check_mast (D : Addr) : Sp := fun vs H Q E => ∃ masts mast : Int, vs = [.int masts, .int mast] ∧ (0 ≤ mast → mast < masts → Q .non H) ∧ (¬ (0 ≤ mast ∧ mast < masts) → E (.ref D) none H)
theorem ok_p_check_mast (T : Txt K mg) : FnOk P w K mg base (L2.CX P w) 2 T.f_p_check_mast T.d_p_check_mast ["masts", "mast"] (sp_p_check_mast T.a_NoMast) := by
  refine T.F_p_check_mast.okX sc_p_check_mast (fun vs H Q E h => ?_) (fun cdv A outer s H vs Q E hr h => ?_)
  · obtain ⟨masts, mast, rfl, _⟩ := h
    rfl
  · obtain ⟨masts, mast, rfl, k, kD⟩ := h
    refine ⟨_, (pss_one (ps_if (pt_not (pt_chain op_le op_lt pe_int (pv 1) (pv 0)))
      (pss_one (ps_raise rfl (takes_of rfl rfl rfl rfl) (pmk_own PySem.F.excBase_ValueError T.x_NoMast T.g_NoMast T.k_NoMast (raises_own T.b_NoMast T.t_NoMast) rfl)))
      pss_nil)), ?_⟩
    refine ⟨_, rfl, _, _, rfl, rfl, _, rfl, iteD (fun c => ?_) (fun c => ?_)⟩
    · refine ⟨_, rfl, _, _, rfl, rfl, _, rfl, ?_⟩
      by_cases c2 : mast < masts
      · exact iteFo (by rw [decide_eq_true c2]; rfl) (k c c2)
      · exact iteTo (by rw [decide_eq_false c2]; rfl) (kD (fun z => c2 z.2))
    · exact ⟨_, rfl, iteTo rfl (kD (fun z => c z.1))⟩
def plV (w : Str) (masts mast : Int) : V := if decide (V.str w = V.str "up") = true then .int mast else .int (masts - 1 - mast)
def sp_p_place_of (C D : Addr) : Sp := fun vs H Q E => ∃ (w : Str) (masts mast : Int), vs = [.str w, .int masts, .int mast] ∧
  (isWay w = true → 0 ≤ mast → mast < masts → ∀ H', Kp H H' → Q (plV w masts mast) H') ∧ (isWay w = true → ¬ (0 ≤ mast ∧ mast < masts) → ∀ H', Kp H H' → E (.ref D) none H') ∧ (isWay w = false → ∀ H', Kp H H' → E (.ref C) none H')
theorem ok_p_place_of (T : Txt K mg) : FnOk P w K mg base (L2.CX P w) 3 T.f_p_place_of T.d_p_place_of ["way", "masts", "mast"] (sp_p_place_of T.a_BadWay T.a_NoMast) := by
  refine T.F_p_place_of.okX sc_p_place_of (fun vs H Q E h => ?_) (fun cdv A outer s H vs Q E hr h => ?_)
  · obtain ⟨w, masts, mast, rfl, _⟩ := h
    rfl
  · obtain ⟨w, masts, mast, rfl, k, kD, kE⟩ := h
    refine ⟨_, (pss_cons (ps_expr (pe_call (ok_p_check_way T) (hr.mono (by decide)) rfl T.g_p_check_way T.F_p_check_way.kp T.b_p_check_way .nil (passes_call (takes_of rfl rfl rfl rfl) (fun _ _ _ _ z => z)) (pa_cons (pv 0) pa_nil)))
      (pss_cons (ps_expr (pe_call (ok_p_check_mast T) (hr.mono (by decide)) rfl T.g_al_check_mast_ways T.F_p_check_mast.kp T.b_p_check_mast .nil (passes_call (takes_of rfl rfl rfl rfl) (fun _ _ _ _ z => z)) (pa_cons (pv 1) (pa_cons (pv 2) pa_nil))))
      (pss_one (ps_ret (pe_ifExp (pt_cmpR op_eq (pv 0) (pe_glob rfl T.c_UP T.r_UP) (nomark _)) (pv 2) (pe_op op_sub (pe_op op_sub (pv 1) pe_int) (pv 2))))))), ?_⟩
    refine ⟨_, rfl, w, rfl, fun hw H1 k1 => ?_, fun hw H1 k1 => kE hw _ k1⟩
    refine ⟨_, rfl, _, rfl, masts, mast, rfl, fun c c2 => ?_, fun c => kD hw c _ k1⟩
    have z := k hw c c2 _ k1
    unfold plV at z
    refine ⟨_, rfl, rfl, _, rfl, iteB (fun c3 => ?_) (fun c3 => ?_)⟩
    · rw [if_pos c3] at z
      exact ⟨_, rfl, z⟩
    · rw [if_neg (by rw [c3]; exact Bool.false_ne_true)] at z
      exact ⟨_, rfl, _, _, rfl, rfl, _, rfl, _, _, rfl, rfl, z⟩
def sp_p_along (K : PySem.W.Frag) (C : Addr) : Sp := fun vs H Q E => ∃ (w : Str) (a : Addr) (ns : List Int), vs = [.str w, .ref a] ∧ SqL K H a (ns.map V.int) ∧ ns.length ≤ 1000 ∧
  (isWay w = true → ∀ (p : Addr) (H' : Hp), Kp H H' → H p = none → H' p = some (.lst ((if decide (V.str w = V.str "up") = true then ns else ns.reverse).map V.int)) → Q (.ref p) H') ∧ (isWay w = false → ∀ H', Kp H H' → E (.ref C) none H')
theorem ok_p_along (T : Txt K mg) : FnOk P w K mg base (L2.CX P w) 3 T.f_p_along T.d_p_along ["way", "row"] (sp_p_along K T.a_BadWay) := by
  refine T.F_p_along.okX sc_p_along (fun vs H Q E h => ?_) (fun cdv A outer s H vs Q E hr h => ?_)
  · obtain ⟨w, a, ns, rfl, _⟩ := h
    rfl
  · obtain ⟨w, a, ns, rfl, hS, hl, k, kE⟩ := h
    refine ⟨_, (pss_cons (ps_expr (pe_call (ok_p_check_way T) (hr.mono (by decide)) rfl T.g_p_check_way T.F_p_check_way.kp T.b_p_check_way .nil (passes_call (takes_of rfl rfl rfl rfl) (fun _ _ _ _ z => z)) (pa_cons (pv 0) pa_nil)))
      (pss_one (ps_ret (pe_ifExp (pt_cmpR op_eq (pv 0) (pe_glob rfl T.c_UP T.r_UP) (nomark _)) (pe_callTy call_list_of (by rfl) T.m_list (by decide +kernel) (pa_cons (pv 1) pa_nil)) (pe_revL (pv 1)))))), ?_⟩
    refine ⟨_, rfl, w, rfl, fun hw H1 k1 => ?_, fun hw H1 k1 => kE hw _ k1⟩
    have k := k hw
    refine ⟨_, rfl, rfl, _, rfl, iteB (fun c => ?_) (fun c => ?_)⟩
    · rw [if_pos c] at k
      refine ⟨_, rfl, a, _, rfl, .inl (k1.sqL hS), fun p np => ?_⟩
      exact k p _ (k1.trans (.new np)) (k1.free _ np) upd_same
    · rw [if_neg (by rw [c]; exact Bool.false_ne_true)] at k
      refine ⟨_, rfl, a, _, rfl, k1.sqL hS, fun p np => ?_⟩
      exact k p _ (k1.trans (.new np)) (k1.free _ np) (by rw [upd_same, List.map_reverse])
/-! ### the rows of a line -/
inductive RK where
  | way | arms | sleep | fog
  | q (u : Bool)
  | b (u : Bool) (m : Nat)
  deriving DecidableEq
def wayN (u : Bool) : Str := if u = true then "up" else "down"
theorem wayN_inj {u v : Bool} (h : wayN u = wayN v) : u = v := by
  cases u <;> cases v <;> first | rfl | (exfalso; revert h; decide +kernel)
def RK.mk : RK → MK
  | .way => .t "way"
  | .arms => .t "arms"
  | .sleep => .t "sleep"
  | .fog => .t "fog"
  | .q u => .u [Sum.inr "queue", Sum.inr (wayN u)]
  | .b u m => .u [Sum.inr "book", Sum.inr (wayN u), Sum.inl (m : Int)]
theorem RK.mk_inj {a b : RK} (h : a.mk = b.mk) : a = b := by
  cases a with
  | way => cases b <;> first | rfl | (exfalso; revert h; decide +kernel) | (exfalso; cases h)
  | arms => cases b <;> first | rfl | (exfalso; revert h; decide +kernel) | (exfalso; cases h)
  | sleep => cases b <;> first | rfl | (exfalso; revert h; decide +kernel) | (exfalso; cases h)
  | fog => cases b <;> first | rfl | (exfalso; revert h; decide +kernel) | (exfalso; cases h)
  | q u =>
    cases b with
    | q v =>
      injection h with h
      injection h with _ h
      injection h with h _
      injection h with h
      rw [wayN_inj h]
    | b v m =>
      exfalso
      injection h with h
      have := congrArg List.length h
      simp at this
    | _ => exfalso; cases h
  | b u m =>
    cases b with
    | q v =>
      exfalso
      injection h with h
      have := congrArg List.length h
      simp at this
    | b v k =>
      injection h with h
      injection h with _ h
      injection h with h h2
      injection h with h
      injection h2 with h2 _
      injection h2 with h2
      rw [wayN_inj h, Int.ofNat.inj h2]
    | _ => exfalso; cases h
def wayKeys (n : Nat) (u : Bool) : List RK := .q u :: (List.range n).map (.b u)
def baseKeys : List RK := [.way, .arms, .sleep, .fog]
def keysOf (n : Nat) : List RK := baseKeys ++ (wayKeys n true ++ wayKeys n false)
/-- the entries of the dict of rows -/
def entsR (ks : List RK) (ky : RK → V) (ad : RK → Addr) : List (MK × V × V) := ks.map fun k => (k.mk, ky k, V.ref (ad k))
structure RowsAt (P : Program) (w : World) (H : Hp) (R : Addr) (ks : List RK) (ad : RK → Addr) : Prop where
  ob : ∃ ky : RK → V, H R = some (MixO P w R (entsR ks ky ad)) ∧ ∀ k ∈ ks, KeyM H k.mk (ky k)
  inj : ∀ k ∈ ks, ∀ k' ∈ ks, ad k = ad k' → k = k'
/-- what the rows hold -/
structure ContAt (K : PySem.W.Frag) (H : Hp) (ks : List RK) (ad : RK → Addr) (row : RK → List PyData) : Prop where
  at_ : ∀ k ∈ ks, ∃ vs, H (ad k) = some (.lst vs) ∧ DpAll K H vs (row k)
  nl : ∀ k ∈ ks, ∀ d ∈ row k, Nl d
theorem KeyM.kp {H H' : Hp} (k : Kp H H') : ∀ {m : MK} {v : V}, KeyM H m v → KeyM H' m v
  | .t _, _, h => h
  | .u _, _, ⟨b, e, h⟩ => ⟨b, e, k.same _ _ rfl h⟩
theorem KeyM.kpE {S : List Addr} {H H' : Hp} (k : KpE S H H') (hS : ∀ a ∈ S, ∀ xs, H a ≠ some (.tup xs)) : ∀ {m : MK} {v : V}, KeyM H m v → KeyM H' m v
  | .t _, _, h => h
  | .u _, _, ⟨b, e, h⟩ => ⟨b, e, k.same _ _ rfl (fun m => hS b m _ h) h⟩
theorem RowsAt.kp {P : Program} {w : World} {H H' : Hp} {R : Addr} {ks : List RK} {ad : RK → Addr} (r : RowsAt P w H R ks ad) (k : Kp H H') : RowsAt P w H' R ks ad := by
  obtain ⟨ky, h1, h2⟩ := r.ob
  exact ⟨⟨ky, k.same _ _ rfl h1, fun x hx => (h2 x hx).kp k⟩, r.inj⟩
theorem ContAt.kp {K : PySem.W.Frag} {H H' : Hp} {ks : List RK} {ad : RK → Addr} {row : RK → List PyData} (c : ContAt K H ks ad row) (k : Kp H H') : ContAt K H' ks ad row :=
  ⟨fun x hx => let ⟨vs, h1, h2⟩ := c.at_ x hx; ⟨vs, k.same _ _ rfl h1, k.dpAll h2⟩, c.nl⟩
/-- the rows while they are laid: of texts alone at first -/
structure RowsI (P : Program) (w : World) (H : Hp) (R : Addr) (ks : List RK) (ad : RK → Addr) : Prop where
  ob : ∃ ky : RK → V, MixAt P w H R (entsR ks ky ad) ∧ ∀ k ∈ ks, KeyM H k.mk (ky k)
  inj : ∀ k ∈ ks, ∀ k' ∈ ks, ad k = ad k' → k = k'
theorem MixAt.kp {P : Program} {w : World} {H H' : Hp} {a : Addr} {kvs : List (MK × V × V)} (m : MixAt P w H a kvs) (k : Kp H H') : MixAt P w H' a kvs := by
  rcases m with h | ⟨k0, h, e⟩
  · exact .inl (k.same _ _ rfl h)
  · exact .inr ⟨k0, k.same _ _ rfl h, e⟩
theorem RowsI.kp {P : Program} {w : World} {H H' : Hp} {R : Addr} {ks : List RK} {ad : RK → Addr} (r : RowsI P w H R ks ad) (k : Kp H H') : RowsI P w H' R ks ad := by
  obtain ⟨ky, h1, h2⟩ := r.ob
  exact ⟨⟨ky, h1.kp k, fun x hx => (h2 x hx).kp k⟩, r.inj⟩
theorem RowsI.fin {P : Program} {w : World} {H : Hp} {R : Addr} {ks : List RK} {ad : RK → Addr} (r : RowsI P w H R ks ad) {u : Bool} (h : RK.q u ∈ ks) : RowsAt P w H R ks ad := by
  obtain ⟨ky, h1, h2⟩ := r.ob
  rcases h1 with h1 | ⟨k0, _, e⟩
  · exact ⟨⟨ky, h1, h2⟩, r.inj⟩
  · exfalso
    have hm : ((RK.q u).mk, ky (.q u), V.ref (ad (.q u))) ∈ entsR ks ky ad := List.mem_map.mpr ⟨_, h, rfl⟩
    rw [e] at hm
    obtain ⟨p, _, hp⟩ := List.mem_map.mp hm
    cases hp
def setA (ad : RK → Addr) (k : RK) (a : Addr) : RK → Addr := fun x => if x = k then a else ad x
theorem entsR_snoc {ks : List RK} {ky : RK → V} {ad : RK → Addr} {k : RK} {y : V} {a : Addr} (h : k ∉ ks) : entsR ks ky ad ++ [(k.mk, y, V.ref a)] = entsR (ks ++ [k]) (fun x => if x = k then y else ky x) (setA ad k a) := by
  unfold entsR
  rw [List.map_append]
  congr 1
  · refine List.map_congr_left fun x hx => ?_
    have ne : x ≠ k := fun z => h (z ▸ hx)
    show (x.mk, ky x, V.ref (ad x)) = (x.mk, (if x = k then y else ky x), V.ref (if x = k then a else ad x))
    rw [if_neg ne, if_neg ne]
  · show [(k.mk, y, V.ref a)] = [(k.mk, (if k = k then y else ky k), V.ref (if k = k then a else ad k))]
    rw [if_pos rfl, if_pos rfl]
/-- one more row is laid -/
theorem RowsI.put {P : Program} {w : World} {H : Hp} {R : Addr} {ks : List RK} {ad : RK → Addr} {k : RK} {y : V} {a : Addr} (r : RowsI P w H R ks ad) (hk : k ∉ ks) (hy : KeyM H k.mk y) (ha : ∀ x ∈ ks, ad x ≠ a) :
    ∃ kvs, MixAt P w H R kvs ∧ KeysM H kvs ∧ (∀ p ∈ kvs, p.1 ≠ k.mk) ∧ kvs.length = ks.length ∧ RowsI P w (upd H R (MixO P w R (kvs ++ [(k.mk, y, V.ref a)]))) R (ks ++ [k]) (setA ad k a) := by
  obtain ⟨ky, h1, h2⟩ := r.ob
  have mu := h1.mut
  have keep : ∀ {m : MK} {v : V}, KeyM H m v → KeyM (upd H R (MixO P w R (entsR ks ky ad ++ [(k.mk, y, V.ref a)]))) m v := fun {m v} hm => by
    cases m with
    | t x => exact hm
    | u l =>
      obtain ⟨b, e, hb⟩ := hm
      refine ⟨b, e, ?_⟩
      rw [upd_ne (fun z => by rw [z] at hb; rw [hb] at mu; exact mu)]
      exact hb
  refine ⟨entsR ks ky ad, h1, fun p hp => ?_, fun p hp e => ?_, by unfold entsR; rw [List.length_map], ⟨fun x => if x = k then y else ky x, .inl ?_, fun x hx => ?_⟩, fun x hx x' hx' e => ?_⟩
  · obtain ⟨x, hx, rfl⟩ := List.mem_map.mp hp
    exact h2 x hx
  · obtain ⟨x, hx, rfl⟩ := List.mem_map.mp hp
    exact hk (RK.mk_inj e ▸ hx)
  · rw [upd_same, entsR_snoc hk]
  · dsimp only
    rcases List.mem_append.mp hx with hx | hx
    · have ne : x ≠ k := fun z => hk (z ▸ hx)
      rw [if_neg ne]
      exact keep (h2 x hx)
    · have e : x = k := List.mem_singleton.mp hx
      subst e
      rw [if_pos rfl]
      exact keep hy
  · unfold setA at e
    rcases List.mem_append.mp hx with hx | hx
    · have ne : x ≠ k := fun z => hk (z ▸ hx)
      rw [if_neg ne] at e
      rcases List.mem_append.mp hx' with hx' | hx'
      · have ne' : x' ≠ k := fun z => hk (z ▸ hx')
        rw [if_neg ne'] at e
        exact r.inj x hx x' hx' e
      · rw [if_pos (List.mem_singleton.mp hx')] at e
        exact absurd e (ha x hx)
    · have ex : x = k := List.mem_singleton.mp hx
      rw [if_pos ex] at e
      rcases List.mem_append.mp hx' with hx' | hx'
      · have ne' : x' ≠ k := fun z => hk (z ▸ hx')
        rw [if_neg ne'] at e
        exact absurd e.symm (ha x' hx')
      · rw [ex, List.mem_singleton.mp hx']
theorem ContAt.snoc {K : PySem.W.Frag} {H : Hp} {ks : List RK} {ad : RK → Addr} {row : RK → List PyData} {k : RK} {a : Addr} (c : ContAt K H ks ad row) (hk : k ∉ ks) (ha : H a = some (.lst [])) (hr : row k = []) : ContAt K H (ks ++ [k]) (setA ad k a) row := by
  refine ⟨fun x hx => ?_, fun x hx d hd => ?_⟩
  · unfold setA
    rcases List.mem_append.mp hx with hx | hx
    · rw [if_neg (fun z : x = k => hk (z ▸ hx))]
      exact c.at_ x hx
    · have e : x = k := List.mem_singleton.mp hx
      rw [if_pos e, e, hr]
      exact ⟨[], ha, .nil⟩
  · rcases List.mem_append.mp hx with hx | hx
    · exact c.nl x hx d hd
    · rw [List.mem_singleton.mp hx, hr] at hd
      cases hd
/-! ### data of tuples are kept where tuples are -/
def TupK (H H' : Hp) : Prop := ∀ a xs, Rd H a (.tup xs) → Rd H' a (.tup xs)
theorem TupK.refl (H : Hp) : TupK H H := fun _ _ h => h
theorem TupK.trans {H H1 H2 : Hp} (a : TupK H H1) (b : TupK H1 H2) : TupK H H2 := fun x xs h => b x xs (a x xs h)
theorem Kp.tk {H H' : Hp} (k : Kp H H') : TupK H H' := fun _ _ h => k.rd rfl h
/-- what is no tuple and not locked -/
def Loose : HO → Prop
  | .tup _ => False
  | .frz _ _ => False
  | _ => True
theorem TupK.upd {H : Hp} {p : Addr} {o u : HO} (h : H p = some u) (l : Loose u) : TupK H (upd H p o) := fun a xs r => by
  have ne : a ≠ p := fun z => by
    rw [z] at r
    rcases r with r | ⟨ob, r⟩
    · rw [h] at r; cases r; exact l
    · rw [h] at r; cases r; exact l
  rcases r with r | ⟨ob, r⟩
  · exact .inl (by rw [upd_ne ne]; exact r)
  · exact .inr ⟨ob, by rw [upd_ne ne]; exact r⟩
theorem TupK.kpE {S : List Addr} {H H' : Hp} (k : KpE S H H') (h : ∀ a ∈ S, ∀ u, H a = some u → Loose u) : TupK H H' := fun a xs r => by
  have ne : a ∉ S := fun m => by
    rcases r with r | ⟨ob, r⟩
    · exact h a m _ r
    · exact h a m _ r
  rcases r with r | ⟨ob, r⟩
  · exact .inl (k.same _ _ rfl ne r)
  · exact .inr ⟨ob, k.same _ _ rfl ne r⟩
mutual
theorem Dp.tk {K : PySem.W.Frag} {H H' : Hp} (t : TupK H H') : ∀ {d : PyData} {v : V}, Nl d → Dp K H v d → Dp K H' v d
  | _, _, _, .non => .non
  | _, _, _, .bl b => .bl b
  | _, _, _, .int i => .int i
  | _, _, _, .str x => .str x
  | _, _, n, .lst _ _ => nomatch n
  | _, _, n, .tup h a => by
    cases n with
    | tup n =>
      refine .tup ?_ (DpAll.tk t n a)
      rcases h with h | h
      · exact .inl (t _ _ h)
      · exact .inr h
theorem DpAll.tk {K : PySem.W.Frag} {H H' : Hp} (t : TupK H H') : ∀ {ds : List PyData} {vs : List V}, (∀ d ∈ ds, Nl d) → DpAll K H vs ds → DpAll K H' vs ds
  | _, _, _, .nil => .nil
  | _, _, n, .cons h r => .cons (Dp.tk t (n _ List.mem_cons_self) h) (DpAll.tk t (fun d hd => n d (List.mem_cons_of_mem _ hd)) r)
end
theorem ContAt.put {K : PySem.W.Frag} {H : Hp} {ks : List RK} {ad : RK → Addr} {row : RK → List PyData} {p : Addr} {o u : HO} (c : ContAt K H ks ad row) (h : H p = some u) (l : Loose u) (ne : ∀ k ∈ ks, ad k ≠ p) : ContAt K (upd H p o) ks ad row :=
  ⟨fun k hk => let ⟨vs, h1, h2⟩ := c.at_ k hk; ⟨vs, by rw [upd_ne (ne k hk)]; exact h1, DpAll.tk (.upd h l) (c.nl k hk) h2⟩, c.nl⟩
theorem Loose.ntup {H : Hp} {S : List Addr} (h : ∀ a ∈ S, ∀ u, H a = some u → Loose u) : ∀ a ∈ S, ∀ xs, H a ≠ some (.tup xs) := fun a m xs e => h a m _ e
theorem RowsAt.kpE {P : Program} {w : World} {S : List Addr} {H H' : Hp} {R : Addr} {ks : List RK} {ad : RK → Addr} (r : RowsAt P w H R ks ad) (k : KpE S H H') (hR : R ∉ S) (hS : ∀ a ∈ S, ∀ u, H a = some u → Loose u) : RowsAt P w H' R ks ad := by
  obtain ⟨ky, h1, h2⟩ := r.ob
  exact ⟨⟨ky, k.same _ _ rfl hR h1, fun x hx => KeyM.kpE k (Loose.ntup hS) (h2 x hx)⟩, r.inj⟩
theorem ContAt.kpE {K : PySem.W.Frag} {S : List Addr} {H H' : Hp} {ks : List RK} {ad : RK → Addr} {row : RK → List PyData} (c : ContAt K H ks ad row) (k : KpE S H H') (ha : ∀ x ∈ ks, ad x ∉ S) (hS : ∀ a ∈ S, ∀ u, H a = some u → Loose u) : ContAt K H' ks ad row :=
  ⟨fun x hx => let ⟨vs, h1, h2⟩ := c.at_ x hx; ⟨vs, k.same _ _ rfl (ha x hx) h1, DpAll.tk (.kpE k hS) (c.nl x hx) h2⟩, c.nl⟩
theorem loose1 {H : Hp} {a : Addr} {u : HO} (h : H a = some u) (l : Loose u) : ∀ b ∈ [a], ∀ v, H b = some v → Loose v := fun b m v e => by
  rw [List.mem_singleton.mp m, h] at e
  cases e
  exact l
/-! ### how a line stands in memory: rows, words, deeds with their changes -/
structure LA where
  s : Addr
  R : Addr
  B : Addr
  d1 : Addr
  d2 : Addr
  p : Addr
  f : Addr
  ad : RK → Addr
inductive Ch where
  | row (k : RK) (i : Nat) (tk ds : List PyData)
  | word (p l : Int) (t : Str) (on : Bool)
def kD : MK → PyData
  | .t x => .str x
  | .u ks => .tuple (ks.map fun k => match k with | .inl i => .int i | .inr x => .str x)
def one (b : Bool) (t : Str) : List PyData := if b = true then [.str t] else []
def oneV (b : Bool) (t : Str) : List V := if b = true then [.str t] else []
def Ch.d : Ch → PyData
  | .row k i tk ds => .tuple [kD k.mk, .int (i : Int), .tuple tk, .tuple ds]
  | .word p l t on => .tuple [.str "words", .tuple [.int p, .int l], .tuple (one (!on) t), .tuple (one on t)]
def Ch.inv : Ch → Ch
  | .row k i tk ds => .row k i ds tk
  | .word p l t on => .word p l t (!on)
abbrev Dd := PyData × List Ch
structure LC where
  n : Nat
  row : RK → List PyData
  ws : List Tri
  past : List Dd
  fut : List Dd
def LC.set (c : LC) (k : RK) (r : List PyData) : LC := { c with row := fun x => if x = k then r else c.row x }
def LC.app (c : LC) : Ch → LC
  | .row k i tk ds => c.set k ((c.row k).take i ++ ds ++ (c.row k).drop (i + tk.length))
  | .word p l t on => { c with ws := deedT c.ws (!on) p l t }
def LC.apps (c : LC) (hs : List Ch) : LC := hs.foldl LC.app c
theorem app_n (c : LC) (h : Ch) : (c.app h).n = c.n := by cases h <;> rfl
theorem apps_n : ∀ (hs : List Ch) (c : LC), (c.apps hs).n = c.n
  | [], _ => rfl
  | h :: r, c => (apps_n r (c.app h)).trans (app_n c h)
theorem app_past (c : LC) (h : Ch) : (c.app h).past = c.past := by cases h <;> rfl
theorem app_fut (c : LC) (h : Ch) : (c.app h).fut = c.fut := by cases h <;> rfl
theorem apps_past : ∀ (hs : List Ch) (c : LC), (c.apps hs).past = c.past
  | [], _ => rfl
  | h :: r, c => (apps_past r (c.app h)).trans (app_past c h)
theorem apps_fut : ∀ (hs : List Ch) (c : LC), (c.apps hs).fut = c.fut
  | [], _ => rfl
  | h :: r, c => (apps_fut r (c.app h)).trans (app_fut c h)
theorem apps_snoc (c : LC) (hs : List Ch) (h : Ch) : c.apps (hs ++ [h]) = (c.apps hs).app h := by
  unfold LC.apps
  rw [List.foldl_append]
  rfl
/-- a change can be made -/
def Fits1 (c : LC) : Ch → Prop
  | .row k i tk ds => k ∈ keysOf c.n ∧ i + tk.length ≤ (c.row k).length ∧ (c.row k).length + ds.length ≤ 10000
  | .word p l t on => deedV c.ws (!on) p l t = none ∧ c.ws.length < 1000 ∧ t.length ≤ 1000 ∧ (on = false → plT c.ws p l = some (t, p, l))
def FitsC : LC → List Ch → Prop
  | _, [] => True
  | c, h :: r => Fits1 c h ∧ FitsC (c.app h) r
theorem fits_at : ∀ (hs : List Ch) (c : LC) (i : Nat), FitsC c hs → FitsC (c.apps (hs.take i)) (hs.drop i)
  | _, _, 0, h => h
  | [], _, _ + 1, h => h
  | _ :: r, c, i + 1, h => fits_at r _ i h.2
/-- the data of a change has no list in it -/
def Ch.Nd : Ch → Prop
  | .row _ _ tk ds => (∀ d ∈ tk, Nl d) ∧ ∀ d ∈ ds, Nl d
  | .word _ _ _ _ => True
def fldS (R B : Addr) : List (Str × V) := putF "phrasebook" (.ref B) (putF "rows" (.ref R) [])
def fldL (s p f : Addr) : List (Str × V) := putF "future" (.ref f) (putF "past" (.ref p) (putF "state" (.ref s) []))
theorem fldS_rows (R B : Addr) : (fldS R B).lookup ("rows" : Str) = some (.ref R) := by
  unfold fldS
  rw [lookup_putF, if_neg (by decide +kernel), lookup_putF, if_pos rfl]
theorem fldS_book (R B : Addr) : (fldS R B).lookup ("phrasebook" : Str) = some (.ref B) := by
  unfold fldS
  rw [lookup_putF, if_pos rfl]
theorem fldS_no (R B : Addr) {m : Str} (h1 : ¬ m = "phrasebook") (h2 : ¬ m = "rows") : (fldS R B).lookup m = none := by
  unfold fldS
  rw [lookup_putF, if_neg h1, lookup_putF, if_neg h2]
  rfl
theorem fldL_state (s p f : Addr) : (fldL s p f).lookup ("state" : Str) = some (.ref s) := by
  unfold fldL
  rw [lookup_putF, if_neg (by decide +kernel), lookup_putF, if_neg (by decide +kernel), lookup_putF, if_pos rfl]
theorem fldL_past (s p f : Addr) : (fldL s p f).lookup ("past" : Str) = some (.ref p) := by
  unfold fldL
  rw [lookup_putF, if_neg (by decide +kernel), lookup_putF, if_pos rfl]
theorem fldL_fut (s p f : Addr) : (fldL s p f).lookup ("future" : Str) = some (.ref f) := by
  unfold fldL
  rw [lookup_putF, if_pos rfl]
theorem fldL_no (s p f : Addr) {m : Str} (h1 : ¬ m = "future") (h2 : ¬ m = "past") (h3 : ¬ m = "state") : (fldL s p f).lookup m = none := by
  unfold fldL
  rw [lookup_putF, if_neg h1, lookup_putF, if_neg h2, lookup_putF, if_neg h3]
  rfl
theorem fldL_set (s p f f' : Addr) : putF "future" (.ref f') (fldL s p f) = fldL s p f' := by rfl
theorem fldL_len (s p f : Addr) : (fldL s p f).length < 1000 := by show 3 < 1000; decide
/-! #### a phrasebook by its words alone -/
def BookW (C : Addr) (H : Hp) (p d1 d2 : Addr) (ws : List Tri) : Prop := ∃ bs : List Ent, BookAt C H p d1 d2 bs ∧ bs.map (·.1) = ws
theorem BookW.kp {C : Addr} {H H' : Hp} {p d1 d2 : Addr} {ws : List Tri} (b : BookW C H p d1 d2 ws) (k : Kp H H') : BookW C H' p d1 d2 ws := let ⟨bs, h, e⟩ := b; ⟨bs, h.kp k, e⟩
theorem BookAt.kpE {C : Addr} {S : List Addr} {H H' : Hp} {b d1 d2 : Addr} {bs : List Ent} (x : BookAt C H b d1 d2 bs) (k : KpE S H H') (hb : b ∉ S) (h1 : d1 ∉ S) (h2 : d2 ∉ S) (hS : ∀ a ∈ S, ∀ u, H a = some u → Loose u) : BookAt C H' b d1 d2 bs :=
  ⟨let ⟨dx, h⟩ := x.ob; ⟨dx, k.same _ _ rfl hb h⟩, k.same _ _ rfl h1 x.pl, k.same _ _ rfl h2 x.wd, fun e he => k.same _ _ rfl (fun m => hS _ m _ (x.tu e he)) (x.tu e he)⟩
theorem BookW.kpE {C : Addr} {S : List Addr} {H H' : Hp} {b d1 d2 : Addr} {ws : List Tri} (x : BookW C H b d1 d2 ws) (k : KpE S H H') (hb : b ∉ S) (h1 : d1 ∉ S) (h2 : d2 ∉ S) (hS : ∀ a ∈ S, ∀ u, H a = some u → Loose u) : BookW C H' b d1 d2 ws := let ⟨bs, h, e⟩ := x; ⟨bs, h.kpE k hb h1 h2 hS, e⟩
theorem BookW.ob {C : Addr} {H : Hp} {p d1 d2 : Addr} {ws : List Tri} (b : BookW C H p d1 d2 ws) : ∃ dx, H p = some (.ins C dx (flds d1 d2)) := let ⟨_, h, _⟩ := b; h.ob
theorem BookW.pl {C : Addr} {H : Hp} {p d1 d2 : Addr} {ws : List Tri} (b : BookW C H p d1 d2 ws) : ∃ kvs, H d1 = some (.dT kvs) := let ⟨_, h, _⟩ := b; ⟨_, h.pl⟩
theorem BookW.wd {C : Addr} {H : Hp} {p d1 d2 : Addr} {ws : List Tri} (b : BookW C H p d1 d2 ws) : ∃ kvs, H d2 = some (.dK kvs) := let ⟨_, h, _⟩ := b; ⟨_, h.wd⟩
structure StateAt (P : Program) (w : World) (K : PySem.W.Frag) (H : Hp) (a : LA) (c : LC) : Prop where
  ob : ∃ dx, H a.s = some (.ins (He.ga K "State") dx (fldS a.R a.B))
  rows : RowsAt P w H a.R (keysOf c.n) a.ad
  cont : ContAt K H (keysOf c.n) a.ad c.row
  book : BookW (He.ga K "Phrasebook") H a.B a.d1 a.d2 c.ws
  good : GoodT c.ws
theorem StateAt.kp {P : Program} {w : World} {K : PySem.W.Frag} {H H' : Hp} {a : LA} {c : LC} (s : StateAt P w K H a c) (k : Kp H H') : StateAt P w K H' a c :=
  ⟨let ⟨dx, h⟩ := s.ob; ⟨dx, k.same _ _ rfl h⟩, s.rows.kp k, s.cont.kp k, s.book.kp k, s.good⟩
theorem StateAt.kpE {P : Program} {w : World} {K : PySem.W.Frag} {S : List Addr} {H H' : Hp} {a : LA} {c : LC} (s : StateAt P w K H a c) (e : KpE S H H') (l : ∀ b ∈ S, ∀ u, H b = some u → Loose u) (h1 : a.s ∉ S) (h2 : a.R ∉ S) (h3 : ∀ k ∈ keysOf c.n, a.ad k ∉ S) (h4 : a.B ∉ S) (h5 : a.d1 ∉ S) (h6 : a.d2 ∉ S) : StateAt P w K H' a c :=
  ⟨let ⟨dx, h⟩ := s.ob; ⟨dx, e.same _ _ rfl h1 h⟩, s.rows.kpE e h2 l, s.cont.kpE e h3 l, s.book.kpE e h4 h5 h6 l, s.good⟩
theorem key_arms (n : Nat) : RK.arms ∈ keysOf n := by simp [keysOf, baseKeys]
theorem key_way (n : Nat) : RK.way ∈ keysOf n := by simp [keysOf, baseKeys]
theorem key_sleep (n : Nat) : RK.sleep ∈ keysOf n := by simp [keysOf, baseKeys]
theorem key_fog (n : Nat) : RK.fog ∈ keysOf n := by simp [keysOf, baseKeys]
theorem key_q (n : Nat) (u : Bool) : RK.q u ∈ keysOf n := by cases u <;> simp [keysOf, baseKeys, wayKeys]
theorem key_b {n m : Nat} (u : Bool) (h : m < n) : RK.b u m ∈ keysOf n := by cases u <;> simp [keysOf, baseKeys, wayKeys, h]
/-- a row is found -/
theorem StateAt.get {P : Program} {w : World} {K : PySem.W.Frag} {H : Hp} {a : LA} {c : LC} (s : StateAt P w K H a c) {k : RK} (hk : k ∈ keysOf c.n) : ∃ kvs, H a.R = some (MixO P w a.R kvs) ∧ KeysM H kvs ∧ ∃ ky, (k.mk, ky, V.ref (a.ad k)) ∈ kvs := by
  obtain ⟨ky, h1, h2⟩ := s.rows.ob
  refine ⟨_, h1, fun p hp => ?_, ky k, List.mem_map.mpr ⟨k, hk, rfl⟩⟩
  obtain ⟨x, hx, rfl⟩ := List.mem_map.mp hp
  exact h2 x hx
def adsR (a : LA) (n : Nat) : List Addr := (keysOf n).map a.ad
def adsS (a : LA) (n : Nat) : List Addr := a.d1 :: a.d2 :: adsR a n
theorem StateAt.loose {P : Program} {w : World} {K : PySem.W.Frag} {H : Hp} {a : LA} {c : LC} (s : StateAt P w K H a c) : ∀ b ∈ adsS a c.n, ∀ u, H b = some u → Loose u := fun b hb u e => by
  rcases List.mem_cons.mp hb with rfl | hb
  · obtain ⟨kvs, h⟩ := s.book.pl
    rw [h] at e; cases e; trivial
  rcases List.mem_cons.mp hb with rfl | hb
  · obtain ⟨kvs, h⟩ := s.book.wd
    rw [h] at e; cases e; trivial
  obtain ⟨k, hk, rfl⟩ := List.mem_map.mp hb
  obtain ⟨vs, h1, _⟩ := s.cont.at_ k hk
  rw [h1] at e
  cases e
  trivial
/-- a row is set -/
theorem StateAt.put {P : Program} {w : World} {K : PySem.W.Frag} {H : Hp} {a : LA} {c : LC} (s : StateAt P w K H a c) {k : RK} (hk : k ∈ keysOf c.n) {vs : List V} {ds : List PyData} (h : DpAll K H vs ds) (hn : ∀ d ∈ ds, Nl d) : StateAt P w K (upd H (a.ad k) (.lst vs)) a (c.set k ds) := by
  obtain ⟨us, h1, h2⟩ := s.cont.at_ k hk
  have e : KpE [a.ad k] H (upd H (a.ad k) (.lst vs)) := KpE.put h1 rfl List.mem_cons_self
  have l := loose1 h1 (show Loose (.lst us) from trivial)
  have nS : ∀ {u : HO} {y : Addr}, H y = some u → (∀ g, u ≠ .lst g) → y ∉ [a.ad k] := fun {u y} hy hu m => by
    rw [List.mem_singleton.mp m, h1] at hy
    cases hy
    exact hu _ rfl
  refine ⟨?_, ?_, ⟨fun x hx => ?_, fun x hx => ?_⟩, ?_, s.good⟩
  · obtain ⟨dx, h⟩ := s.ob
    exact ⟨dx, e.same _ _ rfl (nS h (by intro g z; cases z)) h⟩
  · obtain ⟨ky, h3, _⟩ := s.rows.ob
    exact s.rows.kpE e (nS h3 (by intro g z; cases z)) l
  · by_cases z : x = k
    · subst z
      refine ⟨vs, upd_same, ?_⟩
      show DpAll _ _ _ (if x = x then ds else c.row x)
      rw [if_pos rfl]
      exact DpAll.tk (.upd h1 trivial) hn h
    · obtain ⟨us', h3, h4⟩ := s.cont.at_ x hx
      refine ⟨us', ?_, ?_⟩
      · rw [upd_ne (fun y => z (s.rows.inj x hx k hk y))]
        exact h3
      · show DpAll _ _ _ (if x = k then ds else c.row x)
        rw [if_neg z]
        exact DpAll.tk (.upd h1 trivial) (s.cont.nl x hx) h4
  · show ∀ d ∈ (if x = k then ds else c.row x), Nl d
    by_cases z : x = k
    · rw [if_pos z]
      exact hn
    · rw [if_neg z]
      exact s.cont.nl x hx
  · obtain ⟨dx, hb⟩ := s.book.ob
    obtain ⟨k1, hp⟩ := s.book.pl
    obtain ⟨k2, hw⟩ := s.book.wd
    exact s.book.kpE e (nS hb (by intro g z; cases z)) (nS hp (by intro g z; cases z)) (nS hw (by intro g z; cases z)) l
/-- a list that is no row changes -/
theorem StateAt.putL {P : Program} {w : World} {K : PySem.W.Frag} {H : Hp} {a : LA} {c : LC} (s : StateAt P w K H a c) {x : Addr} {vs : List V} {o : HO} (hx : H x = some (.lst vs)) (n : ∀ k ∈ keysOf c.n, a.ad k ≠ x) : StateAt P w K (upd H x o) a c := by
  have nS : ∀ {u : HO} {y : Addr}, H y = some u → (∀ g, u ≠ .lst g) → y ∉ [x] := fun {u y} hy hu m => by
    rw [List.mem_singleton.mp m, hx] at hy
    cases hy
    exact hu _ rfl
  obtain ⟨dx, h1⟩ := s.ob
  obtain ⟨ky, h2, _⟩ := s.rows.ob
  obtain ⟨dx2, h3⟩ := s.book.ob
  obtain ⟨k1, hp⟩ := s.book.pl
  obtain ⟨k2, hw⟩ := s.book.wd
  exact s.kpE (KpE.put hx rfl List.mem_cons_self) (loose1 hx trivial) (nS h1 (by intro g z; cases z)) (nS h2 (by intro g z; cases z)) (fun k hk m => n k hk (List.mem_singleton.mp m)) (nS h3 (by intro g z; cases z)) (nS hp (by intro g z; cases z)) (nS hw (by intro g z; cases z))
/-- the line's own object changes -/
theorem StateAt.putI {P : Program} {w : World} {K : PySem.W.Frag} {H : Hp} {a : LA} {c : LC} (s : StateAt P w K H a c) {x C dx : Addr} {fs : List (Str × V)} {o : HO} (hx : H x = some (.ins C dx fs)) (n1 : a.s ≠ x) (n2 : a.B ≠ x) : StateAt P w K (upd H x o) a c := by
  have nS : ∀ {u : HO} {y : Addr}, H y = some u → (∀ C d g, u ≠ .ins C d g) → y ∉ [x] := fun {u y} hy hu m => by
    rw [List.mem_singleton.mp m, hx] at hy
    cases hy
    exact hu _ _ _ rfl
  obtain ⟨ky, h2, _⟩ := s.rows.ob
  obtain ⟨k1, hp⟩ := s.book.pl
  obtain ⟨k2, hw⟩ := s.book.wd
  exact s.kpE (KpE.put hx rfl List.mem_cons_self) (loose1 hx trivial) (fun m => n1 (List.mem_singleton.mp m)) (nS h2 (by intro C d g z; cases z)) (fun k hk => by
    obtain ⟨vs, h1, _⟩ := s.cont.at_ k hk
    exact nS h1 (by intro C d g z; cases z)) (fun m => n2 (List.mem_singleton.mp m)) (nS hp (by intro C d g z; cases z)) (nS hw (by intro C d g z; cases z))
/-! #### changes in memory -/
theorem KpE.mono {S S' : List Addr} {H H' : Hp} (k : KpE S H H') (h : ∀ a ∈ S, a ∈ S') : KpE S' H H' := ⟨fun a o t n q => k.same a o t (fun m => n (h a m)) q, k.tab, k.free⟩
theorem KpE.sqL {K : PySem.W.Frag} {S : List Addr} {H H' : Hp} {a : Addr} {xs : List V} (k : KpE S H H') (n : a ∉ S) (h : SqL K H a xs) : SqL K H' a xs := by
  rcases h with h | h
  · rcases h with h | ⟨o, h⟩
    · exact .inl (.inl (k.same _ _ rfl n h))
    · exact .inl (.inr ⟨o, k.same _ _ rfl n h⟩)
  · exact .inr h
theorem TupK.sqT {K : PySem.W.Frag} {H H' : Hp} {a : Addr} {xs : List V} (t : TupK H H') (h : SqT K H a xs) : SqT K H' a xs := by
  rcases h with h | h
  · exact .inl (t _ _ h)
  · exact .inr h
/-- tuples are kept, as they are -/
structure TupS (H H' : Hp) : Prop where
  own : ∀ a xs, H a = some (.tup xs) → H' a = some (.tup xs)
  rd : TupK H H'
theorem TupS.trans {H H1 H2 : Hp} (a : TupS H H1) (b : TupS H1 H2) : TupS H H2 := ⟨fun x xs h => b.own x xs (a.own x xs h), a.rd.trans b.rd⟩
theorem Kp.ts {H H' : Hp} (k : Kp H H') : TupS H H' := ⟨fun _ _ h => k.same _ _ rfl h, k.tk⟩
theorem TupS.kpE {S : List Addr} {H H' : Hp} (k : KpE S H H') (h : ∀ a ∈ S, ∀ u, H a = some u → Loose u) : TupS H H' := ⟨fun a xs q => k.same _ _ rfl (fun m => h a m _ q) q, .kpE k h⟩
theorem TupS.upd {H : Hp} {p : Addr} {o u : HO} (h : H p = some u) (l : Loose u) : TupS H (upd H p o) := ⟨fun a xs q => by
  rw [upd_ne (fun z => by rw [z, h] at q; cases q; exact l)]
  exact q, .upd h l⟩
theorem KeyM.ts {H H' : Hp} (t : TupS H H') : ∀ {m : MK} {v : V}, KeyM H m v → KeyM H' m v
  | .t _, _, h => h
  | .u _, _, ⟨b, e, h⟩ => ⟨b, e, t.own _ _ h⟩
/-- a tuple's address and its values -/
def TupV (K : PySem.W.Frag) (H : Hp) (v : V) (xs : List V) : Prop := ∃ t : Addr, v = .ref t ∧ SqT K H t xs
theorem TupV.ts {K : PySem.W.Frag} {H H' : Hp} {v : V} {xs : List V} (h : TupV K H v xs) (t : TupS H H') : TupV K H' v xs := let ⟨a, e, q⟩ := h; ⟨a, e, t.rd.sqT q⟩
/-- what is handed to swap for a change -/
def ArgsAt (K : PySem.W.Frag) (H : Hp) : Ch → V → V → V → V → Prop
  | .row k i tk ds, wv, av, tv, uv => KeyM H k.mk wv ∧ av = .int (i : Int) ∧ (∃ ts, TupV K H tv ts ∧ DpAll K H ts tk) ∧ ∃ us, TupV K H uv us ∧ DpAll K H us ds
  | .word p l t on, wv, av, tv, uv => wv = .str "words" ∧ TupV K H av [.int p, .int l] ∧ TupV K H tv (oneV (!on) t) ∧ TupV K H uv (oneV on t)
theorem ArgsAt.ts {K : PySem.W.Frag} {H H' : Hp} {wv av tv uv : V} (t : TupS H H') : ∀ {h : Ch}, h.Nd → ArgsAt K H h wv av tv uv → ArgsAt K H' h wv av tv uv
  | .row k i tk ds, nd, ⟨a, b, ⟨ts, c, d⟩, us, e, f⟩ => ⟨a.ts t, b, ⟨ts, c.ts t, DpAll.tk t.rd nd.1 d⟩, us, e.ts t, DpAll.tk t.rd nd.2 f⟩
  | .word _ _ _ _, _, ⟨a, b, c, d⟩ => ⟨a, b.ts t, c.ts t, d.ts t⟩
theorem ArgsAt.inv {K : PySem.W.Frag} {H : Hp} {wv av tv uv : V} : ∀ {h : Ch}, ArgsAt K H h wv av tv uv → ArgsAt K H h.inv wv av uv tv
  | .row _ _ _ _, ⟨a, b, c, d⟩ => ⟨a, b, d, c⟩
  | .word p l t on, ⟨a, b, c, d⟩ => ⟨a, b, by rw [Bool.not_not]; exact d, c⟩
theorem Ch.Nd.inv : ∀ {h : Ch}, h.Nd → h.inv.Nd
  | .row _ _ _ _, ⟨a, b⟩ => ⟨b, a⟩
  | .word _ _ _ _, _ => trivial
def ChAt (K : PySem.W.Frag) (H : Hp) (v : V) (h : Ch) : Prop := h.Nd ∧ ∃ wv av tv uv : V, TupV K H v [wv, av, tv, uv] ∧ ArgsAt K H h wv av tv uv
theorem ChAt.ts {K : PySem.W.Frag} {H H' : Hp} {v : V} {h : Ch} (c : ChAt K H v h) (t : TupS H H') : ChAt K H' v h := let ⟨n, a, b, x, y, q, r⟩ := c; ⟨n, a, b, x, y, q.ts t, r.ts t n⟩
def ChsAt (K : PySem.W.Frag) (H : Hp) : List V → List Ch → Prop
  | [], [] => True
  | v :: vs, h :: hs => ChAt K H v h ∧ ChsAt K H vs hs
  | _, _ => False
theorem ChsAt.ts {K : PySem.W.Frag} {H H' : Hp} (t : TupS H H') : ∀ {vs : List V} {hs : List Ch}, ChsAt K H vs hs → ChsAt K H' vs hs
  | [], [], _ => trivial
  | _ :: _, _ :: _, ⟨a, b⟩ => ⟨a.ts t, ChsAt.ts t b⟩
  | [], _ :: _, h => h.elim
  | _ :: _, [], h => h.elim
theorem ChsAt.len {K : PySem.W.Frag} {H : Hp} : ∀ {vs : List V} {hs : List Ch}, ChsAt K H vs hs → vs.length = hs.length
  | [], [], _ => rfl
  | _ :: _, _ :: _, ⟨_, b⟩ => congrArg (· + 1) (ChsAt.len b)
  | [], _ :: _, h => h.elim
  | _ :: _, [], h => h.elim
theorem ChsAt.at_ {K : PySem.W.Frag} {H : Hp} : ∀ {vs : List V} {hs : List Ch}, ChsAt K H vs hs → ∀ {i : Nat} {v : V} {h : Ch}, vs[i]? = some v → hs[i]? = some h → ChAt K H v h
  | [], [], _, _, _, _, e, _ => by simp at e
  | _ :: _, _ :: _, ⟨a, b⟩, 0, _, _, e, f => by cases Option.some.inj e; cases Option.some.inj f; exact a
  | _ :: _, _ :: _, ⟨a, b⟩, i + 1, _, _, e, f => ChsAt.at_ b (i := i) e f
  | [], _ :: _, h, _, _, _, _, _ => h.elim
  | _ :: _, [], h, _, _, _, _, _ => h.elim
theorem ChsAt.snoc {K : PySem.W.Frag} {H : Hp} : ∀ {vs : List V} {hs : List Ch} {v : V} {h : Ch}, ChsAt K H vs hs → ChAt K H v h → ChsAt K H (vs ++ [v]) (hs ++ [h])
  | [], [], _, _, _, c => ⟨c, trivial⟩
  | _ :: _, _ :: _, _, _, ⟨a, b⟩, c => ⟨a, ChsAt.snoc b c⟩
  | [], _ :: _, _, _, h, _ => h.elim
  | _ :: _, [], _, _, h, _ => h.elim
/-- a deed that stands, with its changes -/
def DdAt (K : PySem.W.Frag) (H : Hp) (v : V) (d : Dd) : Prop := Nl d.1 ∧ d.2.length < 9000 ∧ ∃ (dv cv : V) (cs : List V), TupV K H v [dv, cv] ∧ Dp K H dv d.1 ∧ TupV K H cv cs ∧ ChsAt K H cs d.2
theorem DdAt.ts {K : PySem.W.Frag} {H H' : Hp} {v : V} {d : Dd} (c : DdAt K H v d) (t : TupS H H') : DdAt K H' v d := let ⟨n, n2, dv, cv, cs, a, b, x, y⟩ := c; ⟨n, n2, dv, cv, cs, a.ts t, Dp.tk t.rd n b, x.ts t, y.ts t⟩
def DdsAt (K : PySem.W.Frag) (H : Hp) : List V → List Dd → Prop
  | [], [] => True
  | v :: vs, h :: hs => DdAt K H v h ∧ DdsAt K H vs hs
  | _, _ => False
theorem DdsAt.ts {K : PySem.W.Frag} {H H' : Hp} (t : TupS H H') : ∀ {vs : List V} {hs : List Dd}, DdsAt K H vs hs → DdsAt K H' vs hs
  | [], [], _ => trivial
  | _ :: _, _ :: _, ⟨a, b⟩ => ⟨a.ts t, DdsAt.ts t b⟩
  | [], _ :: _, h => h.elim
  | _ :: _, [], h => h.elim
theorem DdsAt.len {K : PySem.W.Frag} {H : Hp} : ∀ {vs : List V} {hs : List Dd}, DdsAt K H vs hs → vs.length = hs.length
  | [], [], _ => rfl
  | _ :: _, _ :: _, ⟨_, b⟩ => congrArg (· + 1) (DdsAt.len b)
  | [], _ :: _, h => h.elim
  | _ :: _, [], h => h.elim
theorem DdsAt.at_ {K : PySem.W.Frag} {H : Hp} : ∀ {vs : List V} {hs : List Dd}, DdsAt K H vs hs → ∀ {i : Nat} {v : V} {h : Dd}, vs[i]? = some v → hs[i]? = some h → DdAt K H v h
  | [], [], _, _, _, _, e, _ => by simp at e
  | _ :: _, _ :: _, ⟨a, b⟩, 0, _, _, e, f => by cases Option.some.inj e; cases Option.some.inj f; exact a
  | _ :: _, _ :: _, ⟨a, b⟩, i + 1, _, _, e, f => DdsAt.at_ b (i := i) e f
  | [], _ :: _, h, _, _, _, _, _ => h.elim
  | _ :: _, [], h, _, _, _, _, _ => h.elim
theorem DdsAt.snoc {K : PySem.W.Frag} {H : Hp} : ∀ {vs : List V} {hs : List Dd} {v : V} {h : Dd}, DdsAt K H vs hs → DdAt K H v h → DdsAt K H (vs ++ [v]) (hs ++ [h])
  | [], [], _, _, _, c => ⟨c, trivial⟩
  | _ :: _, _ :: _, _, _, ⟨a, b⟩, c => ⟨a, DdsAt.snoc b c⟩
  | [], _ :: _, _, _, h, _ => h.elim
  | _ :: _, [], _, _, h, _ => h.elim
theorem DdsAt.init {K : PySem.W.Frag} {H : Hp} : ∀ {vs : List V} {hs : List Dd} {v : V} {h : Dd}, DdsAt K H (vs ++ [v]) (hs ++ [h]) → DdsAt K H vs hs ∧ DdAt K H v h
  | [], [], _, _, c => ⟨trivial, c.1⟩
  | x :: vs, y :: hs, _, _, ⟨a, b⟩ => let ⟨p, q⟩ := DdsAt.init b; ⟨⟨a, p⟩, q⟩
  | [], [y], _, _, h => h.2.elim
  | [], _ :: _ :: _, _, _, h => h.2.elim
  | [x], [], _, _, h => h.2.elim
  | _ :: _ :: _, [], _, _, h => h.2.elim
structure LineAt (P : Program) (w : World) (K : PySem.W.Frag) (H : Hp) (L : Addr) (a : LA) (c : LC) : Prop where
  ob : ∃ dx, H L = some (.ins (He.ga K "Line") dx (fldL a.s a.p a.f))
  st : StateAt P w K H a c
  past : ∃ vs, H a.p = some (.lst vs) ∧ DdsAt K H vs c.past
  fut : ∃ vs, H a.f = some (.lst vs) ∧ DdsAt K H vs c.fut
  ap : ∀ k ∈ keysOf c.n, a.ad k ≠ a.p ∧ a.ad k ≠ a.f
  pf : a.p ≠ a.f
/-- what a deed may change -/
def footL (L : Addr) (a : LA) (n : Nat) : List Addr := [L, a.p, a.f] ++ adsS a n
theorem LineAt.kp {P : Program} {w : World} {K : PySem.W.Frag} {H H' : Hp} {L : Addr} {a : LA} {c : LC} (l : LineAt P w K H L a c) (k : Kp H H') : LineAt P w K H' L a c :=
  ⟨let ⟨dx, h⟩ := l.ob; ⟨dx, k.same _ _ rfl h⟩, l.st.kp k, let ⟨vs, h, d⟩ := l.past; ⟨vs, k.same _ _ rfl h, d.ts k.ts⟩, let ⟨vs, h, d⟩ := l.fut; ⟨vs, k.same _ _ rfl h, d.ts k.ts⟩, l.ap, l.pf⟩
theorem LineAt.loose {P : Program} {w : World} {K : PySem.W.Frag} {H : Hp} {L : Addr} {a : LA} {c : LC} (l : LineAt P w K H L a c) : ∀ b ∈ footL L a c.n, ∀ u, H b = some u → Loose u := fun b hb u e => by
  rcases List.mem_append.mp hb with hb | hb
  · simp only [List.mem_cons, List.not_mem_nil, or_false] at hb
    rcases hb with rfl | rfl | rfl
    · obtain ⟨dx, h⟩ := l.ob
      rw [h] at e; cases e; trivial
    · obtain ⟨vs, h, _⟩ := l.past
      rw [h] at e; cases e; trivial
    · obtain ⟨vs, h, _⟩ := l.fut
      rw [h] at e; cases e; trivial
  · exact l.st.loose b hb u e
theorem LineAt.alloc {P : Program} {w : World} {K : PySem.W.Frag} {H : Hp} {L : Addr} {a : LA} {c : LC} (l : LineAt P w K H L a c) : ∀ b ∈ footL L a c.n, H b ≠ none := fun b hb z => by
  rcases List.mem_append.mp hb with hb | hb
  · simp only [List.mem_cons, List.not_mem_nil, or_false] at hb
    rcases hb with rfl | rfl | rfl
    · obtain ⟨dx, h⟩ := l.ob
      rw [h] at z; cases z
    · obtain ⟨vs, h, _⟩ := l.past
      rw [h] at z; cases z
    · obtain ⟨vs, h, _⟩ := l.fut
      rw [h] at z; cases z
  · rcases List.mem_cons.mp hb with rfl | hb
    · obtain ⟨kvs, h⟩ := l.st.book.pl
      rw [h] at z; cases z
    rcases List.mem_cons.mp hb with rfl | hb
    · obtain ⟨kvs, h⟩ := l.st.book.wd
      rw [h] at z; cases z
    obtain ⟨y, hy, rfl⟩ := List.mem_map.mp hb
    obtain ⟨vs, h, _⟩ := l.st.cont.at_ y hy
    rw [h] at z
    cases z
theorem LineAt.neS {P : Program} {w : World} {K : PySem.W.Frag} {H : Hp} {L : Addr} {a : LA} {c : LC} (l : LineAt P w K H L a c) : a.s ≠ L ∧ a.B ≠ L := by
  obtain ⟨dx, h⟩ := l.ob
  refine ⟨fun z => ?_, fun z => ?_⟩
  · obtain ⟨dy, h2⟩ := l.st.ob
    rw [z, h] at h2
    have := congrArg (fun o => match o with | some (HO.ins _ _ fs) => fs.length | _ => 0) h2
    cases this
  · obtain ⟨dy, h2⟩ := l.st.book.ob
    rw [z, h] at h2
    have := congrArg (fun o => match o with | some (HO.ins _ _ fs) => fs.length | _ => 0) h2
    cases this
/-- an object that is not in the foot of a line may change -/
theorem LineAt.kpE {P : Program} {w : World} {K : PySem.W.Frag} {S : List Addr} {H H' : Hp} {L : Addr} {a : LA} {c : LC} (l : LineAt P w K H L a c) (e : KpE S H H') (lo : ∀ b ∈ S, ∀ u, H b = some u → Loose u) (h0 : ∀ b ∈ footL L a c.n, b ∉ S) (h1 : a.s ∉ S) (h2 : a.R ∉ S) (h3 : a.B ∉ S) : LineAt P w K H' L a c := by
  have i1 : ∀ b ∈ ([L, a.p, a.f] : List Addr), b ∉ S := fun b hb => h0 b (List.mem_append.mpr (.inl hb))
  have i2 : ∀ b ∈ adsS a c.n, b ∉ S := fun b hb => h0 b (List.mem_append.mpr (.inr hb))
  have ts := TupS.kpE e lo
  refine ⟨?_, l.st.kpE e lo h1 h2 (fun k hk => i2 _ (List.mem_cons_of_mem _ (List.mem_cons_of_mem _ (List.mem_map.mpr ⟨k, hk, rfl⟩)))) h3 (i2 _ List.mem_cons_self) (i2 _ (List.mem_cons_of_mem _ List.mem_cons_self)), ?_, ?_, l.ap, l.pf⟩
  · obtain ⟨dx, h⟩ := l.ob
    exact ⟨dx, e.same _ _ rfl (i1 _ (by simp)) h⟩
  · obtain ⟨vs, h, d⟩ := l.past
    exact ⟨vs, e.same _ _ rfl (i1 _ (by simp)) h, d.ts ts⟩
  · obtain ⟨vs, h, d⟩ := l.fut
    exact ⟨vs, e.same _ _ rfl (i1 _ (by simp)) h, d.ts ts⟩
/-! ### new rows -/
def sp_p_queue_of : Sp := fun vs H Q _ => ∃ (x : Str), vs = [.str x] ∧ ∀ (r : Addr) (H' : Hp), H r = none → Kp H H' → H' r = some (.tup [.str "queue", .str x]) → Q (.ref r) H'
theorem ok_p_queue_of (T : Txt K mg) : FnOk P w K mg base CX0 1 T.f_p_queue_of T.d_p_queue_of ["way"] sp_p_queue_of := by
  refine T.F_p_queue_of.ok sc_p_queue_of (fun vs H Q E h => ?_) (fun cdv A outer s H vs Q E hr h => ?_)
  · obtain ⟨x, rfl, _⟩ := h
    rfl
  · obtain ⟨x, rfl, k⟩ := h
    exact ⟨_, (pss_one (ps_ret (pe_tup (pa_cons pe_str (pa_cons (pv 0) pa_nil))))), _, rfl, szl (by show 2 ≤ 100000; decide), fun r nr => k r _ nr (.new nr) upd_same⟩
def sp_p_book_of : Sp := fun vs H Q _ => ∃ (x : Str) (m : Int), vs = [.str x, .int m] ∧ ∀ (r : Addr) (H' : Hp), H r = none → Kp H H' → H' r = some (.tup [.str "book", .str x, .int m]) → Q (.ref r) H'
theorem ok_p_book_of (T : Txt K mg) : FnOk P w K mg base CX0 1 T.f_p_book_of T.d_p_book_of ["way", "mast"] sp_p_book_of := by
  refine T.F_p_book_of.ok sc_p_book_of (fun vs H Q E h => ?_) (fun cdv A outer s H vs Q E hr h => ?_)
  · obtain ⟨x, m, rfl, _⟩ := h
    rfl
  · obtain ⟨x, m, rfl, k⟩ := h
    exact ⟨_, (pss_one (ps_ret (pe_tup (pa_cons pe_str (pa_cons (pv 0) (pa_cons (pv 1) pa_nil)))))), _, rfl, _, rfl, szl (by show 3 ≤ 100000; decide), fun r nr => k r _ nr (.new nr) upd_same⟩
/-- what new rows hold -/
def newRow (n : Nat) : RK → List PyData
  | .way => [.str "up"]
  | .arms => List.replicate n (.int 0)
  | .sleep => List.replicate n (.bool false)
  | .fog => List.replicate (n - 1) (.bool false)
  | _ => []
theorem dp_rep {K : PySem.W.Frag} {H : Hp} {v : V} {d : PyData} (h : Dp K H v d) : ∀ n : Nat, DpAll K H (List.replicate n v) (List.replicate n d)
  | 0 => .nil
  | n + 1 => .cons h (dp_rep h n)
theorem rep_one {v : V} (n : Nat) : (List.replicate n [v]).flatten = List.replicate n v := by
  induction n with
  | zero => rfl
  | succ n ih => rw [List.replicate_succ, List.flatten_cons, ih]; rfl
def laid (n : Nat) : Nat → List RK
  | 0 => baseKeys
  | 1 => baseKeys ++ wayKeys n true
  | _ => keysOf n
theorem laid_q {n : Nat} {u : Bool} {j : Nat} {ks : List RK} (h : ∀ k ∈ ks, k ∈ baseKeys ∨ ∃ v, v ≠ u ∧ k ∈ wayKeys n v) : RK.q u ∉ ks ∧ RK.b u j ∉ ks := by
  constructor
  · intro m
    rcases h _ m with h | ⟨v, hv, h⟩
    · simp [baseKeys] at h
    · unfold wayKeys at h
      rcases List.mem_cons.mp h with h | h
      · injection h with h
        exact hv h.symm
      · obtain ⟨_, _, e⟩ := List.mem_map.mp h
        cases e
  · intro m
    rcases h _ m with h | ⟨v, hv, h⟩
    · simp [baseKeys] at h
    · unfold wayKeys at h
      rcases List.mem_cons.mp h with h | h
      · cases h
      · obtain ⟨_, _, e⟩ := List.mem_map.mp h
        injection e with e _
        exact hv e
theorem MixAt.loose {P : Program} {w : World} {H : Hp} {a : Addr} {kvs : List (MK × V × V)} (m : MixAt P w H a kvs) : ∃ u, H a = some u ∧ Loose u ∧ ∀ xs, u ≠ .lst xs := by
  rcases m with h | ⟨k0, h, _⟩
  · exact ⟨_, h, trivial, fun xs z => by cases z⟩
  · exact ⟨_, h, trivial, fun xs z => by cases z⟩
/-- one more empty row: what is asked of the store, what holds behind it -/
theorem rows_more {P : Program} {w : World} {K : PySem.W.Frag} {H0 A : Hp} {R : Addr} {ks : List RK} {ad : RK → Addr} {row : RK → List PyData} {k : RK} {y : V} {l tw : Addr} {tv : List V} (rI : RowsI P w A R ks ad) (cA : ContAt K A ks ad row) (fr : ∀ x ∈ ks, H0 (ad x) = none) (kp : Kp H0 A) (hR : H0 R = none) (hl0 : H0 l = none)
    (hk : k ∉ ks) (hy : KeyM A k.mk y) (hl : A l = some (.lst [])) (ne : ∀ x ∈ ks, ad x ≠ l) (hr : row k = []) (htw : A tw = some (.tup tv)) :
    ∃ kvs, MixAt P w A R kvs ∧ KeysM A kvs ∧ (∀ p ∈ kvs, p.1 ≠ k.mk) ∧ kvs.length = ks.length ∧ ∀ A', upd A R (MixO P w R (kvs ++ [(k.mk, y, V.ref l)])) = A' → RowsI P w A' R (ks ++ [k]) (setA ad k l) ∧ ContAt K A' (ks ++ [k]) (setA ad k l) row ∧ (∀ x ∈ ks ++ [k], H0 (setA ad k l x) = none) ∧ Kp H0 A' ∧ A' tw = some (.tup tv) := by
  obtain ⟨kvs, m1, m2, m3, m4, rI3⟩ := rI.put hk hy ne
  refine ⟨kvs, m1, m2, m3, m4, fun A' e => ?_⟩
  subst e
  obtain ⟨u, hu, lo, nl⟩ := m1.loose
  have c2 := cA.snoc hk hl hr
  refine ⟨rI3, c2.put hu lo fun x hx z => ?_, fun x hx => ?_, kp.mut hR, ?_⟩
  · obtain ⟨vs, h1, _⟩ := c2.at_ x hx
    rw [z, hu] at h1
    exact nl _ (Option.some.inj h1)
  · unfold setA
    rcases List.mem_append.mp hx with hx | hx
    · rw [if_neg (fun z : x = k => hk (z ▸ hx))]
      exact fr x hx
    · rw [if_pos (List.mem_singleton.mp hx)]
      exact hl0
  · rw [upd_ne (fun z => by rw [z, hu] at htw; cases htw; exact lo)]
    exact htw
def sp_p_new_rows (P : Program) (w : World) (K : PySem.W.Frag) : Sp := fun vs H Q _ => ∃ n : Nat, vs = [.int (n : Int)] ∧ 1 ≤ n ∧ n ≤ 12 ∧ ∀ (R : Addr) (ad : RK → Addr) (H' : Hp), H R = none → (∀ k ∈ keysOf n, H (ad k) = none) → Kp H H' → RowsAt P w H' R (keysOf n) ad → ContAt K H' (keysOf n) ad (newRow n) → Q (.ref R) H'
theorem ok_p_new_rows (T : Txt K mg) : FnOk P w K mg base CX0 2 T.f_p_new_rows T.d_p_new_rows ["masts"] (sp_p_new_rows P w K) := by
  refine T.F_p_new_rows.ok sc_p_new_rows (fun vs H Q E h => ?_) (fun cdv A outer s H vs Q E hr h => ?_)
  · obtain ⟨n, rfl, _⟩ := h
    rfl
  · obtain ⟨n, rfl, hn1, hn2, k⟩ := h
    have hu := hu_of hr
    refine ⟨_, (pss_cons (ps_set (i := 1) sc_p_new_rows.nd rfl (by first | exact Or.inl rfl | exact Or.inr rfl) (pe_disp (pps_cons (pe_glob rfl T.c_WAY T.r_WAY) (pe_lst (pa_cons (pe_glob rfl T.c_UP T.r_UP) pa_nil)) (pps_cons (pe_glob rfl T.c_ARMS T.r_ARMS) (pe_op op_rep (pe_lst (pa_cons (pe_glob rfl T.c_REST T.r_REST) pa_nil)) (pv 0)) (pps_cons (pe_glob rfl T.c_SLEEP T.r_SLEEP) (pe_op op_rep (pe_lst (pa_cons pe_bl pa_nil)) (pv 0)) (pps_cons (pe_glob rfl T.c_FOG T.r_FOG) (pe_op op_rep (pe_lst (pa_cons pe_bl pa_nil)) (pe_op op_sub (pv 0) pe_int)) pps_nil)))) rfl rfl (by intro z; cases z) (by decide)))
      (pss_cons (ps_for PassesOwn.never rfl (pi_tup (pe_tup (pa_cons (pe_glob rfl T.c_UP T.r_UP) (pa_cons (pe_glob rfl T.c_DOWN T.r_DOWN) pa_nil)))) (pg_name (i := 2) sc_p_new_rows.nd rfl (by first | exact Or.inl rfl | exact Or.inr rfl))
      (pss_cons (ps_mputK P w rfl rfl hu (pv 1) (pe_call (ok_p_queue_of T) (hr.mono (by decide)) rfl T.g_p_queue_of T.F_p_queue_of.kp T.b_p_queue_of .nil pass0 (pa_cons (pv 2) pa_nil)) (pe_lst pa_nil) rfl)
      (pss_one (ps_for PassesOwn.never rfl (pi_range1 (by rfl) T.m_range (pa_cons (pv 0) pa_nil)) (pg_name (i := 3) sc_p_new_rows.nd rfl (by first | exact Or.inl rfl | exact Or.inr rfl))
      (pss_one (ps_mputK P w rfl rfl hu (pv 1) (pe_call (ok_p_book_of T) (hr.mono (by decide)) rfl T.g_p_book_of T.F_p_book_of.kp T.b_p_book_of .nil pass0 (pa_cons (pv 2) (pa_cons (pv 3) pa_nil))) (pe_lst pa_nil) rfl))))))
      (pss_one (ps_ret (pv 1))))), ?_⟩
    intro R nR
    generalize h_G0 : upd H R _ = G0
    have k_G0 : Kp H G0 := by rw [← h_G0]; exact .new nR
    have q_G0 := (congrFun h_G0 R).symm.trans upd_same
    clear h_G0
    refine ⟨szl (by show 1 ≤ 100000; decide), fun l1 n1 => ?_⟩
    generalize h_G1 : upd G0 l1 _ = G1
    have k_G1 : Kp G0 G1 := by rw [← h_G1]; exact .new n1
    have q_G1 := (congrFun h_G1 l1).symm.trans upd_same
    clear h_G1
    refine ⟨szl (by show 1 ≤ 100000; decide), fun l2a n2a => ?_⟩
    generalize h_G2a : upd G1 l2a _ = G2a
    have k_G2a : Kp G1 G2a := by rw [← h_G2a]; exact .new n2a
    have q_G2a := (congrFun h_G2a l2a).symm.trans upd_same
    clear h_G2a
    refine ⟨_, rfl, l2a, _, _, rfl, rfl, q_G2a, by omega, by omega, szl (by show 1 * ((n : Int)).toNat ≤ 100000; omega), fun l2 n2 => ?_⟩
    generalize h_G2 : upd G2a l2 _ = G2
    have k_G2 : Kp G2a G2 := by rw [← h_G2]; exact .new n2
    have q_G2 := (congrFun h_G2 l2).symm.trans upd_same
    clear h_G2
    refine ⟨szl (by show 1 ≤ 100000; decide), fun l3a n3a => ?_⟩
    generalize h_G3a : upd G2 l3a _ = G3a
    have k_G3a : Kp G2 G3a := by rw [← h_G3a]; exact .new n3a
    have q_G3a := (congrFun h_G3a l3a).symm.trans upd_same
    clear h_G3a
    refine ⟨_, rfl, l3a, _, _, rfl, rfl, q_G3a, by omega, by omega, szl (by show 1 * ((n : Int)).toNat ≤ 100000; omega), fun l3 n3 => ?_⟩
    generalize h_G3 : upd G3a l3 _ = G3
    have k_G3 : Kp G3a G3 := by rw [← h_G3]; exact .new n3
    have q_G3 := (congrFun h_G3 l3).symm.trans upd_same
    clear h_G3
    refine ⟨szl (by show 1 ≤ 100000; decide), fun l4a n4a => ?_⟩
    generalize h_G4a : upd G3 l4a _ = G4a
    have k_G4a : Kp G3 G4a := by rw [← h_G4a]; exact .new n4a
    have q_G4a := (congrFun h_G4a l4a).symm.trans upd_same
    clear h_G4a
    refine ⟨_, rfl, _, _, rfl, rfl, l4a, _, _, rfl, rfl, q_G4a, by omega, by omega, szl (by show 1 * ((n : Int) - 1).toNat ≤ 100000; omega), fun l4 n4 => ?_⟩
    generalize h_G4 : upd G4a l4 _ = G4
    have k_G4 : Kp G4a G4 := by rw [← h_G4]; exact .new n4
    have q_G4 := (congrFun h_G4 l4).symm.trans upd_same
    clear h_G4
    have kR : Kp G0 G4 := ((((((k_G1.trans k_G2a).trans k_G2).trans k_G3a).trans k_G3).trans k_G4a).trans k_G4)
    have hR4 := kR.same _ _ rfl q_G0
    refine ⟨hR4, [(Sum.inr "way", .ref l1), (Sum.inr "arms", .ref l2), (Sum.inr "sleep", .ref l3), (Sum.inr "fog", .ref l4)], rfl, (by show 4 ≤ 15; decide), ?_⟩
    have em : mergeK [] [((Sum.inr "way" : Key), V.ref l1), (Sum.inr "arms", .ref l2), (Sum.inr "sleep", .ref l3), (Sum.inr "fog", .ref l4)] = ([(Sum.inr "way", V.ref l1), (Sum.inr "arms", V.ref l2), (Sum.inr "sleep", V.ref l3), (Sum.inr "fog", V.ref l4)] : List (Key × V)) := by rfl
    rw [em]
    have h1 : G4 l1 = some (.lst [.str "up"]) := k_G4.same _ _ rfl (k_G4a.same _ _ rfl (k_G3.same _ _ rfl (k_G3a.same _ _ rfl (k_G2.same _ _ rfl (k_G2a.same _ _ rfl q_G1)))))
    have h2 : G4 l2 = some (.lst (List.replicate n (.int 0))) := by
      have z := k_G4.same _ _ rfl (k_G4a.same _ _ rfl (k_G3.same _ _ rfl (k_G3a.same _ _ rfl q_G2)))
      rw [rep_one, Int.toNat_natCast] at z
      exact z
    have h3 : G4 l3 = some (.lst (List.replicate n (.bl false))) := by
      have z := k_G4.same _ _ rfl (k_G4a.same _ _ rfl q_G3)
      rw [rep_one, Int.toNat_natCast] at z
      exact z
    have h4 : G4 l4 = some (.lst (List.replicate (n - 1) (.bl false))) := by
      have z := q_G4
      rw [rep_one, show ((n : Int) - 1).toNat = n - 1 by omega] at z
      exact z
    have e1 : l1 ≠ R := fun z => by rw [z, q_G0] at n1; cases n1
    have e2 : l2 ≠ R := fun z => by rw [z, (k_G1.trans k_G2a).same _ _ rfl q_G0] at n2; cases n2
    have e3 : l3 ≠ R := fun z => by rw [z, (((k_G1.trans k_G2a).trans k_G2).trans k_G3a).same _ _ rfl q_G0] at n3; cases n3
    have e4 : l4 ≠ R := fun z => by rw [z, (((((k_G1.trans k_G2a).trans k_G2).trans k_G3a).trans k_G3).trans k_G4a).same _ _ rfl q_G0] at n4; cases n4
    have m12 : l1 ≠ l2 := fun z => by rw [← z, k_G2a.same _ _ rfl q_G1] at n2; cases n2
    have m13 : l1 ≠ l3 := fun z => by rw [← z, ((k_G2a.trans k_G2).trans k_G3a).same _ _ rfl q_G1] at n3; cases n3
    have m14 : l1 ≠ l4 := fun z => by rw [← z, ((((k_G2a.trans k_G2).trans k_G3a).trans k_G3).trans k_G4a).same _ _ rfl q_G1] at n4; cases n4
    have m23 : l2 ≠ l3 := fun z => by rw [← z, k_G3a.same _ _ rfl q_G2] at n3; cases n3
    have m24 : l2 ≠ l4 := fun z => by rw [← z, ((k_G3a.trans k_G3).trans k_G4a).same _ _ rfl q_G2] at n4; cases n4
    have m34 : l3 ≠ l4 := fun z => by rw [← z, k_G4a.same _ _ rfl q_G3] at n4; cases n4
    have f1 : H l1 = none := k_G0.free _ n1
    have f2 : H l2 = none := k_G0.free _ ((k_G1.trans k_G2a).free _ n2)
    have f3 : H l3 = none := k_G0.free _ ((((k_G1.trans k_G2a).trans k_G2).trans k_G3a).free _ n3)
    have f4 : H l4 = none := k_G0.free _ ((((((k_G1.trans k_G2a).trans k_G2).trans k_G3a).trans k_G3).trans k_G4a).free _ n4)
    have kH5 : Kp H (upd G4 R (.dK [(Sum.inr "way", .ref l1), (Sum.inr "arms", .ref l2), (Sum.inr "sleep", .ref l3), (Sum.inr "fog", .ref l4)])) := (k_G0.trans kR).mut nR
    have r5 : upd G4 R (.dK [(Sum.inr "way", .ref l1), (Sum.inr "arms", .ref l2), (Sum.inr "sleep", .ref l3), (Sum.inr "fog", .ref l4)]) R = some (.dK [(Sum.inr "way", .ref l1), (Sum.inr "arms", .ref l2), (Sum.inr "sleep", .ref l3), (Sum.inr "fog", .ref l4)]) := upd_same
    have h1' : upd G4 R (.dK [(Sum.inr "way", .ref l1), (Sum.inr "arms", .ref l2), (Sum.inr "sleep", .ref l3), (Sum.inr "fog", .ref l4)]) l1 = some (.lst [.str "up"]) := by rw [upd_ne e1]; exact h1
    have h2' : upd G4 R (.dK [(Sum.inr "way", .ref l1), (Sum.inr "arms", .ref l2), (Sum.inr "sleep", .ref l3), (Sum.inr "fog", .ref l4)]) l2 = some (.lst (List.replicate n (.int 0))) := by rw [upd_ne e2]; exact h2
    have h3' : upd G4 R (.dK [(Sum.inr "way", .ref l1), (Sum.inr "arms", .ref l2), (Sum.inr "sleep", .ref l3), (Sum.inr "fog", .ref l4)]) l3 = some (.lst (List.replicate n (.bl false))) := by rw [upd_ne e3]; exact h3
    have h4' : upd G4 R (.dK [(Sum.inr "way", .ref l1), (Sum.inr "arms", .ref l2), (Sum.inr "sleep", .ref l3), (Sum.inr "fog", .ref l4)]) l4 = some (.lst (List.replicate (n - 1) (.bl false))) := by rw [upd_ne e4]; exact h4
    generalize upd G4 R (.dK [(Sum.inr "way", .ref l1), (Sum.inr "arms", .ref l2), (Sum.inr "sleep", .ref l3), (Sum.inr "fog", .ref l4)]) = G5 at kH5 r5 h1' h2' h3' h4' ⊢
    let ad0 : RK → Addr := fun k => match k with
      | .way => l1
      | .arms => l2
      | .sleep => l3
      | _ => l4
    have I0 : RowsI P w G5 R baseKeys ad0 := by
      refine ⟨⟨fun k => match k with | .way => .str "way" | .arms => .str "arms" | .sleep => .str "sleep" | _ => .str "fog", .inr ⟨[("way", .ref l1), ("arms", .ref l2), ("sleep", .ref l3), ("fog", .ref l4)], r5, rfl⟩, fun k hk => ?_⟩, fun k hk k' hk' e => ?_⟩
      · simp only [baseKeys, List.mem_cons, List.not_mem_nil, or_false] at hk
        rcases hk with rfl | rfl | rfl | rfl <;> rfl
      · simp only [baseKeys, List.mem_cons, List.not_mem_nil, or_false] at hk hk'
        rcases hk with rfl | rfl | rfl | rfl <;> rcases hk' with rfl | rfl | rfl | rfl <;> first | rfl | exact absurd e (by assumption) | exact absurd e.symm (by assumption)
    have C0 : ContAt K G5 baseKeys ad0 (newRow n) := by
      refine ⟨fun k hk => ?_, fun k hk d hd => ?_⟩
      · simp only [baseKeys, List.mem_cons, List.not_mem_nil, or_false] at hk
        rcases hk with rfl | rfl | rfl | rfl
        · exact ⟨_, h1', .cons (.str _) .nil⟩
        · exact ⟨_, h2', dp_rep (.int 0) n⟩
        · exact ⟨_, h3', dp_rep (.bl false) n⟩
        · exact ⟨_, h4', dp_rep (.bl false) (n - 1)⟩
      · simp only [baseKeys, List.mem_cons, List.not_mem_nil, or_false] at hk
        rcases hk with rfl | rfl | rfl | rfl
        · rw [List.mem_singleton.mp hd]; exact .str _
        · rw [List.eq_of_mem_replicate hd]; exact .int _
        · rw [List.eq_of_mem_replicate hd]; exact .bl _
        · rw [List.eq_of_mem_replicate hd]; exact .bl _
    have F0 : ∀ k ∈ baseKeys, H (ad0 k) = none := fun k hk => by
      simp only [baseKeys, List.mem_cons, List.not_mem_nil, or_false] at hk
      rcases hk with rfl | rfl | rfl | rfl
      · exact f1
      · exact f2
      · exact f3
      · exact f4
    clear_value ad0
    refine ⟨szl (by show 2 ≤ 100000; decide), fun tw ntw => ?_⟩
    generalize h_G6 : upd G5 tw _ = G6
    have k_G6 : Kp G5 G6 := by rw [← h_G6]; exact .new ntw
    have q_G6 := (congrFun h_G6 tw).symm.trans upd_same
    clear h_G6
    have k6 : Kp H G6 := kH5.trans k_G6
    refine ⟨tw, rfl, ⟨_, .inl (.inl q_G6)⟩, for_tup (K := K) (a := tw) (xs := [.str "up", .str "down"]) (fun i σ H' => ∃ (ad : RK → Addr) (y2 y3 : Option V), σ = [some (.int (n : Int)), some (.ref R), y2, y3] ∧ Kp H H' ∧ H' tw = some (.tup [.str "up", .str "down"]) ∧ RowsI P w H' R (laid n i) ad ∧ ContAt K H' (laid n i) ad (newRow n) ∧ ∀ k ∈ laid n i, H (ad k) = none)
      ⟨ad0, none, none, rfl, k6, q_G6, I0.kp k_G6, C0.kp k_G6, F0⟩ (fun i σ H' _ ⟨_, _, _, _, _, h, _⟩ => .inl (.inl h)) ?_ ?_⟩
    · have step : ∀ (ks : List RK) (u : Bool), ks.length ≤ 100 → (∀ k ∈ ks, k ∈ baseKeys ∨ ∃ v, v ≠ u ∧ k ∈ wayKeys n v) → True := fun _ _ _ _ => trivial
      clear step
      rintro i x σ H' hi ⟨ad, y2, y3, rfl, kp, htw, rI, cA, fr⟩
      obtain ⟨u, rfl, eL, hks, hlen⟩ : ∃ u, x = .str (wayN u) ∧ laid n (i + 1) = laid n i ++ wayKeys n u ∧ (∀ k ∈ laid n i, k ∈ baseKeys ∨ ∃ v, v ≠ u ∧ k ∈ wayKeys n v) ∧ (laid n i).length ≤ 100 := by
        rcases i with _ | _ | i
        · refine ⟨true, ?_, rfl, fun k hk => .inl hk, (by show 4 ≤ 100; decide)⟩
          have z := Option.some.inj hi
          rw [← z]
          rfl
        · refine ⟨false, ?_, ?_, fun k hk => ?_, ?_⟩
          · have z := Option.some.inj hi
            rw [← z]
            rfl
          · show keysOf n = (baseKeys ++ wayKeys n true) ++ wayKeys n false
            unfold keysOf
            rw [List.append_assoc]
          · rcases List.mem_append.mp hk with hk | hk
            · exact .inl hk
            · exact .inr ⟨true, by decide, hk⟩
          · show (baseKeys ++ wayKeys n true).length ≤ 100
            unfold wayKeys baseKeys
            simp
            omega
        · exfalso
          simp at hi
      rw [eL]
      refine ⟨Nat.zero_le _, fun l nl => ?_⟩
      generalize h_A1 : upd H' l _ = A1
      have k_A1 : Kp H' A1 := by rw [← h_A1]; exact .new nl
      have q_A1 := (congrFun h_A1 l).symm.trans upd_same
      clear h_A1
      refine ⟨_, rfl, _, rfl, wayN u, rfl, fun rq A2 nrq kA2 qA2 => ?_⟩
      have kp2 : Kp H A2 := (kp.trans k_A1).trans kA2
      have kA : Kp H' A2 := k_A1.trans kA2
      have rI2 := rI.kp kA
      have cA2 := cA.kp kA
      have hl2 := kA2.same _ _ rfl q_A1
      have adne : ∀ k ∈ laid n i, ad k ≠ l := fun k hk z => by
        obtain ⟨vs, h1, _⟩ := cA.at_ k hk
        rw [z, nl] at h1
        cases h1
      have fl : H l = none := kp.free _ nl
      obtain ⟨kvs, m1, m2, m3, m4, fin⟩ := rows_more (k := .q u) (y := .ref rq) rI2 cA2 fr kp2 nR fl (laid_q (j := 0) hks).1 ⟨rq, rfl, qA2⟩ hl2 adne rfl (kA.same _ _ rfl htw)
      refine ⟨R, kvs, (RK.q u).mk, rfl, m1, m2, ⟨rq, rfl, qA2⟩, m3, szt (by omega), ?_⟩
      generalize hA3 : upd A2 R (MixO P w R (kvs ++ [((RK.q u).mk, V.ref rq, V.ref l)])) = A3
      obtain ⟨rI3, cA3, fr3, kp3, tw3⟩ := fin A3 hA3
      refine ⟨_, rfl, (n : Int), rfl, by omega, by omega, ?_⟩
      refine for_range (lo := 0) (n := ((n : Int)).toNat) (fun j σ G => ∃ (ad : RK → Addr) (y3 : Option V), σ = [some (.int (n : Int)), some (.ref R), some (.str (wayN u)), y3] ∧ Kp H G ∧ G tw = some (.tup [.str "up", .str "down"]) ∧ RowsI P w G R ((laid n i ++ [.q u]) ++ (List.range j).map (.b u)) ad ∧ ContAt K G ((laid n i ++ [.q u]) ++ (List.range j).map (.b u)) ad (newRow n) ∧ ∀ k ∈ (laid n i ++ [.q u]) ++ (List.range j).map (.b u), H (ad k) = none)
        ⟨setA ad (.q u) l, _, rfl, kp3, tw3, by rw [List.range_zero, List.map_nil, List.append_nil]; exact rI3, by rw [List.range_zero, List.map_nil, List.append_nil]; exact cA3, by rw [List.range_zero, List.map_nil, List.append_nil]; exact fr3⟩ ?_ ?_
      · rintro j σ G hj ⟨ad', y3', rfl, kg, twg, rg, cg, fg⟩
        have hjn : j < n := hj
        refine ⟨Nat.zero_le _, fun l' nl' => ?_⟩
        generalize h_B1 : upd G l' _ = B1
        have k_B1 : Kp G B1 := by rw [← h_B1]; exact .new nl'
        have q_B1 := (congrFun h_B1 l').symm.trans upd_same
        clear h_B1
        refine ⟨_, rfl, _, rfl, _, rfl, wayN u, _, rfl, fun rb B2 nrb kB2 qB2 => ?_⟩
        have kB : Kp G B2 := k_B1.trans kB2
        have hjj : (0 : Int) + (j : Int) = (j : Int) := by omega
        rw [hjj] at qB2
        have notin : RK.b u j ∉ (laid n i ++ [.q u]) ++ (List.range j).map (.b u) := fun m => by
          rcases List.mem_append.mp m with m | m
          · rcases List.mem_append.mp m with m | m
            · exact (laid_q (j := j) hks).2 m
            · cases List.mem_singleton.mp m
          · obtain ⟨j', hj', e⟩ := List.mem_map.mp m
            injection e with _ e
            rw [e, List.mem_range] at hj'
            omega
        have adne' : ∀ k ∈ (laid n i ++ [.q u]) ++ (List.range j).map (.b u), ad' k ≠ l' := fun k hk z => by
          obtain ⟨vs, h1, _⟩ := cg.at_ k hk
          rw [z, nl'] at h1
          cases h1
        obtain ⟨kvs', m1', m2', m3', m4', fin'⟩ := rows_more (k := .b u j) (y := .ref rb) (rg.kp kB) (cg.kp kB) fg (kg.trans kB) nR (kg.free _ nl') notin ⟨rb, rfl, qB2⟩ (kB2.same _ _ rfl q_B1) adne' rfl (kB.same _ _ rfl twg)
        refine ⟨R, kvs', (RK.b u j).mk, rfl, m1', m2', ⟨rb, rfl, qB2⟩, m3', szt (by rw [m4', List.length_append, List.length_append, List.length_map, List.length_range, List.length_singleton]; omega), ?_⟩
        generalize hB3 : upd B2 R (MixO P w R (kvs' ++ [((RK.b u j).mk, V.ref rb, V.ref l')])) = B3
        obtain ⟨rI4, cA4, fr4, kp4, tw4⟩ := fin' B3 hB3
        have er : ((laid n i ++ [.q u]) ++ (List.range j).map (.b u)) ++ [RK.b u j] = (laid n i ++ [.q u]) ++ (List.range (j + 1)).map (.b u) := by
          rw [List.range_succ, List.map_append, List.append_assoc]
          rfl
        rw [er] at rI4 cA4 fr4
        exact ⟨_, _, rfl, kp4, tw4, rI4, cA4, fr4⟩
      · rintro σ G ⟨ad', y3', rfl, kg, twg, rg, cg, fg⟩
        have er : (laid n i ++ [.q u]) ++ (List.range ((n : Int)).toNat).map (.b u) = laid n i ++ wayKeys n u := by
          rw [List.append_assoc, Int.toNat_natCast]
          rfl
        rw [er] at rg cg fg
        exact ⟨ad', _, _, rfl, kg, twg, rg, cg, fg⟩
    · rintro σ H' ⟨ad, y2, y3, rfl, kp, htw, rI, cA, fr⟩
      have hq : RK.q true ∈ keysOf n := by
        unfold keysOf wayKeys
        simp
      exact ⟨_, rfl, k R ad H' nR fr kp (rI.fin hq) cA⟩
/-! ### a state, a line, made -/
def newC (n : Nat) : LC := ⟨n, newRow n, [], [], []⟩
theorem good_nil : GoodT [] := ⟨by simp, by simp, by simp⟩
def sp_p_State_init (P : Program) (w : World) (K : PySem.W.Frag) : Sp := fun vs H Q _ => ∃ (s dx : Addr) (n : Nat), vs = [.ref s, .int (n : Int)] ∧ H s = some (.ins (He.ga K "State") dx []) ∧ 1 ≤ n ∧ n ≤ 12 ∧
  ∀ (a : LA) (H' : Hp), a.s = s → (H a.d1 = none ∧ H a.d2 = none ∧ ∀ k ∈ keysOf n, H (a.ad k) = none) → KpE [s] H H' → StateAt P w K H' a (newC n) → Q .non H'
theorem ok_p_State_init (T : Txt K mg) : FnOk P w K mg base CX0 4 T.f_p_State_init T.d_p_State_init ["self", "masts"] (sp_p_State_init P w K) := by
  refine T.F_p_State_init.ok sc_p_State_init (fun vs H Q E h => ?_) (fun cdv A outer s H vs Q E hr h => ?_)
  · obtain ⟨s, dx, n, rfl, _⟩ := h
    rfl
  · obtain ⟨sa, dx, n, rfl, hs, hn1, hn2, k⟩ := h
    refine ⟨_, (pss_cons (ps_fld (pv 0) (pe_call (ok_p_new_rows T) (hr.mono (by decide)) rfl T.g_p_new_rows T.F_p_new_rows.kp T.b_p_new_rows .nil pass0 (pa_cons (pv 1) pa_nil)) rfl)
      (pss_one (ps_fld (pv 0) (pe_make0 T.K_Phrasebook (ok_p_Phrasebook_init T) (hr.mono (by decide)) rfl T.g_Phrasebook T.b_p_Phrasebook_init .nil pass0) rfl))), ?_⟩
    refine ⟨_, rfl, n, rfl, hn1, hn2, fun R ad H1 nR nad k1 rA cA => ?_⟩
    have hs1 := k1.same _ _ rfl hs
    refine ⟨_, rfl, sa, _, dx, _, rfl, hs1, T.cl_State, T.n_State_rows, (by show 0 < 1000; decide), ?_⟩
    generalize hH2 : upd H1 sa (.ins (He.ga K "State") dx (putF "rows" (.ref R) [])) = H2
    have hs2 : H2 sa = some (.ins (He.ga K "State") dx (putF "rows" (.ref R) [])) := by rw [← hH2]; exact upd_same
    have e12 : KpE [sa] H1 H2 := by rw [← hH2]; exact KpE.put hs1 rfl List.mem_cons_self
    intro x dx2 nx ndx ne
    refine ⟨x, dx2, rfl, upd_same, fun d1 d2 H3 f1 f2 B3 e3 => ⟨rfl, ?_⟩⟩
    have k3 : Kp H2 H3 := kp_made nx ndx ne e3
    have hs3 := k3.same _ _ rfl hs2
    refine ⟨_, rfl, sa, _, dx, _, rfl, hs3, T.cl_State, T.n_State_phrasebook, (by show 1 < 1000; decide), ?_⟩
    generalize hH4 : upd H3 sa (.ins (He.ga K "State") dx (putF "phrasebook" (.ref x) (putF "rows" (.ref R) []))) = H4
    have hs4 : H4 sa = some (.ins (He.ga K "State") dx (fldS R x)) := by rw [← hH4]; exact upd_same
    have e34 : KpE [sa] H3 H4 := by rw [← hH4]; exact KpE.put hs3 rfl List.mem_cons_self
    have k0 : Kp H2 (upd (upd H2 dx2 (.own x)) x (.ins (He.ga K "Phrasebook") dx2 [])) := (Kp.new ndx).trans (.new (by rw [upd_ne ne.symm]; exact nx))
    have rA3 : RowsAt P w H3 R (keysOf n) ad := (rA.kpE e12 (fun m => by
      obtain ⟨ky, h1, _⟩ := rA.ob
      rw [List.mem_singleton.mp m, hs1] at h1
      cases h1) (loose1 hs1 trivial)).kp k3
    have cA3 : ContAt K H3 (keysOf n) ad (newRow n) := (cA.kpE e12 (fun y hy m => by
      obtain ⟨vs, h1, _⟩ := cA.at_ y hy
      rw [List.mem_singleton.mp m, hs1] at h1
      cases h1) (loose1 hs1 trivial)).kp k3
    have nS : ∀ {u : HO} {y : Addr}, H3 y = some u → (∀ C d g, u ≠ .ins C d g) → y ∉ [sa] := fun {u y} hy hu m => by
      rw [List.mem_singleton.mp m, hs3] at hy
      cases hy
      exact hu _ _ _ rfl
    obtain ⟨dxb, hb⟩ := B3.ob
    have nxs : x ≠ sa := fun z => by
      rw [z, hs2] at nx
      cases nx
    refine k ⟨sa, R, x, d1, d2, 0, 0, ad⟩ H4 rfl ⟨k1.free _ (e12.free _ (k0.free _ f1)), k1.free _ (e12.free _ (k0.free _ f2)), nad⟩ ((((KpE.of k1).trans e12).trans (KpE.of k3)).trans e34) ⟨⟨dx, hs4⟩, rA3.kpE e34 ?_ (loose1 hs3 trivial), cA3.kpE e34 ?_ (loose1 hs3 trivial), ⟨[], ⟨⟨dxb, e34.same _ _ rfl (fun m => nxs (List.mem_singleton.mp m)) hb⟩, e34.same _ _ rfl (nS B3.pl (by intro C d g z; cases z)) B3.pl, e34.same _ _ rfl (nS B3.wd (by intro C d g z; cases z)) B3.wd, (by intro b hb; cases hb)⟩, rfl⟩, good_nil⟩
    · obtain ⟨ky, h1, _⟩ := rA3.ob
      exact nS h1 (by intro C d g z; cases z)
    · intro y hy
      obtain ⟨vs, h1, _⟩ := cA3.at_ y hy
      exact nS h1 (by intro C d g z; cases z)
def sp_p_State_size (P : Program) (w : World) (K : PySem.W.Frag) : Sp := fun vs H Q _ => ∃ (a : LA) (c : LC), vs = [.ref a.s] ∧ StateAt P w K H a c ∧ (c.row .arms).length = c.n ∧ Q (.int (c.n : Int)) H
theorem ok_p_State_size (T : Txt K mg) : FnOk P w K mg base CX0 1 T.f_p_State_size T.d_p_State_size ["self"] (sp_p_State_size P w K) := by
  refine T.F_p_State_size.ok sc_p_State_size (fun vs H Q E h => ?_) (fun cdv A outer s H vs Q E hr h => ?_)
  · obtain ⟨a, c, rfl, _⟩ := h
    rfl
  · obtain ⟨a, c, rfl, hS, hl, k⟩ := h
    have hu := hu_of hr
    refine ⟨_, (pss_one (ps_ret (pe_callB call_len_seq (by rfl) T.m_len PySem.boot_len (pa_cons (pe_mgetK P w rfl rfl hu (pe_fld (pv 0) rfl) (pe_glob rfl T.c_ARMS T.r_ARMS) (fun _ _ => rfl)) pa_nil)))), ?_⟩
    obtain ⟨dx, hs⟩ := hS.ob
    obtain ⟨kvs, m1, m2, ky, m3⟩ := hS.get (key_arms c.n)
    obtain ⟨vs, h1, h2⟩ := hS.cont.at_ .arms (key_arms c.n)
    refine ⟨_, rfl, a.s, _, dx, _, _, rfl, hs, T.cl_State, T.n_State_rows, fldS_rows _ _, a.R, kvs, RK.arms.mk, _, rfl, m1, m2, rfl, ⟨ky, m3⟩, a.ad .arms, _, rfl, .inl (SqL.of h1), ?_⟩
    have e : vs.length = c.n := by rw [DpAll.len h2]; exact hl
    rw [e]
    exact k
/-- what lies in a line's foot or was free -/
def FootNew (H : Hp) (L : Addr) (a : LA) (n : Nat) : Prop := ∀ b ∈ footL L a n, b = L ∨ H b = none
def sp_p_Line_init (P : Program) (w : World) (K : PySem.W.Frag) : Sp := fun vs H Q _ => ∃ (L dx : Addr) (n : Nat), vs = [.ref L, .int (n : Int)] ∧ H L = some (.ins (He.ga K "Line") dx []) ∧ 2 ≤ n ∧ n ≤ 12 ∧
  ∀ (a : LA) (H' : Hp), FootNew H L a n → KpE [L] H H' → LineAt P w K H' L a (newC n) → Q .non H'
theorem ok_p_Line_init (T : Txt K mg) : FnOk P w K mg base CX0 6 T.f_p_Line_init T.d_p_Line_init ["self", "masts"] (sp_p_Line_init P w K) := by
  refine T.F_p_Line_init.ok sc_p_Line_init (fun vs H Q E h => ?_) (fun cdv A outer s H vs Q E hr h => ?_)
  · obtain ⟨s, dx, n, rfl, _⟩ := h
    rfl
  · obtain ⟨L, dx, n, rfl, hL, hn1, hn2, k⟩ := h
    refine ⟨_, (pss_cons (ps_if (pt_not (pt_chain op_le op_le (pe_glob rfl T.c_FEWEST_MASTS T.r_FEWEST_MASTS) (pv 1) (pe_glob rfl T.c_MOST_MASTS T.r_MOST_MASTS)))
      (pss_one ps_never)
      pss_nil)
      (pss_cons (ps_fld (pv 0) (pe_make T.K_State (ok_p_State_init T) (hr.mono (by decide)) rfl T.g_State T.b_p_State_init .nil pass0 (pa_cons (pv 1) pa_nil)) rfl)
      (pss_cons (ps_fld (pv 0) (pe_lst pa_nil) rfl)
      (pss_one (ps_fld (pv 0) (pe_lst pa_nil) rfl))))), ?_⟩
    refine ⟨_, rfl, _, _, rfl, rfl, _, rfl, iteTo (decide_eq_true (by omega)) ⟨_, _, rfl, rfl, _, rfl, iteFo (by rw [decide_eq_true (by omega)]; rfl) ?_⟩⟩
    refine ⟨_, rfl, fun x dx2 nx ndx ne => ?_⟩
    refine ⟨x, dx2, n, rfl, upd_same, by omega, hn2, fun a H1 ea ⟨f1, f2, f3⟩ e1 hS => ⟨rfl, ?_⟩⟩
    have k1 : Kp H H1 := kp_made nx ndx ne e1
    have k0 : Kp H (upd (upd H dx2 (.own x)) x (.ins (He.ga K "State") dx2 [])) := (Kp.new ndx).trans (.new (by rw [upd_ne ne.symm]; exact nx))
    have hL1 := k1.same _ _ rfl hL
    have nsL : a.s ≠ L := fun z => by
      rw [ea] at z
      rw [z, hL] at nx
      cases nx
    have nBL : a.B ≠ L := fun z => by
      obtain ⟨dxb, hb⟩ := hS.book.ob
      rw [z, hL1] at hb
      have := congrArg (fun o => match o with | some (HO.ins _ _ fs) => fs.length | _ => 0) hb
      cases this
    refine ⟨_, rfl, L, _, dx, _, rfl, hL1, T.cl_Line, T.n_Line_state, (by show 0 < 1000; decide), ?_⟩
    have hS2 := hS.putI (o := .ins (He.ga K "Line") dx (putF "state" (.ref x) [])) hL1 nsL nBL
    generalize hH2 : upd H1 L (.ins (He.ga K "Line") dx (putF "state" (.ref x) [])) = H2 at hS2
    have hL2 : H2 L = some (.ins (He.ga K "Line") dx (putF "state" (.ref x) [])) := by rw [← hH2]; exact upd_same
    have e12 : KpE [L] H1 H2 := by rw [← hH2]; exact KpE.put hL1 rfl List.mem_cons_self
    refine ⟨Nat.zero_le _, fun p np => ?_⟩
    generalize h_H3 : upd H2 p _ = H3
    have k_H3 : Kp H2 H3 := by rw [← h_H3]; exact .new np
    have q_H3 := (congrFun h_H3 p).symm.trans upd_same
    clear h_H3
    have hL3 := k_H3.same _ _ rfl hL2
    have hS3 := hS2.kp k_H3
    refine ⟨_, rfl, L, _, dx, _, rfl, hL3, T.cl_Line, T.n_Line_past, (by show 1 < 1000; decide), ?_⟩
    have hS4 := hS3.putI (o := .ins (He.ga K "Line") dx (putF "past" (.ref p) (putF "state" (.ref x) []))) hL3 nsL nBL
    have npL : p ≠ L := fun z => by
      rw [z, hL2] at np
      cases np
    generalize hH4 : upd H3 L (.ins (He.ga K "Line") dx (putF "past" (.ref p) (putF "state" (.ref x) []))) = H4 at hS4
    have hL4 : H4 L = some (.ins (He.ga K "Line") dx (putF "past" (.ref p) (putF "state" (.ref x) []))) := by rw [← hH4]; exact upd_same
    have e34 : KpE [L] H3 H4 := by rw [← hH4]; exact KpE.put hL3 rfl List.mem_cons_self
    have hp4 : H4 p = some (.lst []) := e34.same _ _ rfl (fun m => npL (List.mem_singleton.mp m)) q_H3
    refine ⟨Nat.zero_le _, fun f nf => ?_⟩
    generalize h_H5 : upd H4 f _ = H5
    have k_H5 : Kp H4 H5 := by rw [← h_H5]; exact .new nf
    have q_H5 := (congrFun h_H5 f).symm.trans upd_same
    clear h_H5
    have hL5 := k_H5.same _ _ rfl hL4
    have hS5 := hS4.kp k_H5
    have hp5 := k_H5.same _ _ rfl hp4
    refine ⟨_, rfl, L, _, dx, _, rfl, hL5, T.cl_Line, T.n_Line_future, (by show 2 < 1000; decide), ?_⟩
    have hS6 := hS5.putI (o := .ins (He.ga K "Line") dx (fldL x p f)) hL5 nsL nBL
    have e56 : KpE [L] H5 (upd H5 L (.ins (He.ga K "Line") dx (fldL x p f))) := KpE.put hL5 rfl List.mem_cons_self
    have nfL : f ≠ L := fun z => by
      rw [z, hL4] at nf
      cases nf
    have npf : p ≠ f := fun z => by
      rw [← z, hp4] at nf
      cases nf
    have b2 : ∀ b, H2 b = none → H b = none := fun b hb => k1.free _ (e12.free _ hb)
    have b4 : ∀ b, H4 b = none → H b = none := fun b hb => b2 _ (k_H3.free _ (e34.free _ hb))
    refine k ⟨a.s, a.R, a.B, a.d1, a.d2, p, f, a.ad⟩ _ (fun b hb => ?_) ((((((KpE.of k1).trans e12).trans (KpE.of k_H3)).trans e34).trans (KpE.of k_H5)).trans e56) ⟨⟨dx, ?_⟩, ⟨hS6.ob, hS6.rows, hS6.cont, hS6.book, hS6.good⟩, ⟨[], ?_, trivial⟩, ⟨[], ?_, trivial⟩, fun y hy => ?_, npf⟩
    · rcases List.mem_append.mp hb with hb | hb
      · simp only [List.mem_cons, List.not_mem_nil, or_false] at hb
        rcases hb with rfl | rfl | rfl
        · exact .inl rfl
        · exact .inr (b2 _ np)
        · exact .inr (b4 _ nf)
      · rcases List.mem_cons.mp hb with rfl | hb
        · exact .inr (k0.free _ f1)
        rcases List.mem_cons.mp hb with rfl | hb
        · exact .inr (k0.free _ f2)
        obtain ⟨y, hy, rfl⟩ := List.mem_map.mp hb
        exact .inr (k0.free _ (f3 y hy))
    · rw [upd_same]
      show some (HO.ins _ dx (fldL x p f)) = some (HO.ins _ dx (fldL a.s p f))
      rw [ea]
    · exact e56.same _ _ rfl (fun m => npL (List.mem_singleton.mp m)) hp5
    · exact e56.same _ _ rfl (fun m => nfL (List.mem_singleton.mp m)) q_H5
    · obtain ⟨vs, h1, _⟩ := hS2.cont.at_ y hy
      obtain ⟨vs', h2, _⟩ := hS4.cont.at_ y hy
      exact ⟨fun z => (by rw [show a.ad y = p from z, np] at h1; cases h1), fun z => (by rw [show a.ad y = f from z, nf] at h2; cases h2)⟩
/-! ### one change of a state -/
theorem dp_keys {K : PySem.W.Frag} {H : Hp} : ∀ (ks : List Key), DpAll K H (ks.map kV) (ks.map fun k => match k with | .inl i => PyData.int i | .inr x => .str x)
  | [] => .nil
  | .inl i :: r => .cons (.int i) (dp_keys r)
  | .inr x :: r => .cons (.str x) (dp_keys r)
theorem KeyM.dp {K : PySem.W.Frag} {H : Hp} : ∀ {m : MK} {v : V}, KeyM H m v → Dp K H v (kD m)
  | .t x, _, h => by
    rw [show _ = V.str x from h]
    exact .str x
  | .u ks, _, ⟨b, e, h⟩ => by
    rw [e]
    exact .tup (.inl (.inl h)) (dp_keys ks)
theorem way_ok (u : Bool) : PyData.strOk (wayN u) = true := by cases u <;> decide +kernel
theorem key_shaped (k : RK) : SeqAt.shaped (kD k.mk) = true := by
  show (PyData.canLay0 (kD k.mk) && decide (PyData.depth (kD k.mk) ≤ 64)) = true
  have h1 : PyData.strOk "book" = true := by decide +kernel
  have h2 : PyData.strOk "queue" = true := by decide +kernel
  cases k with
  | q u => simp [kD, RK.mk, PyData.canLay0, PyData.canLayAll0, PyData.depth, PyData.depthAll, way_ok, h2]
  | b u m => simp [kD, RK.mk, PyData.canLay0, PyData.canLayAll0, PyData.depth, PyData.depthAll, way_ok, h1]
  | _ => decide +kernel
theorem key_words (k : RK) : PyData.eqv (kD k.mk) (.str "words") = false := by
  cases k with
  | q u => simp [kD, RK.mk, PyData.eqv]
  | b u m => simp [kD, RK.mk, PyData.eqv]
  | _ => decide +kernel
theorem DpAll.tak {K : PySem.W.Frag} {H : Hp} : ∀ (n : Nat) {xs : List V} {ds : List PyData}, DpAll K H xs ds → DpAll K H (xs.take n) (ds.take n)
  | 0, _, _, _ => .nil
  | _ + 1, _, _, .nil => .nil
  | n + 1, _, _, .cons a b => .cons a (DpAll.tak n b)
theorem DpAll.drp {K : PySem.W.Frag} {H : Hp} : ∀ (n : Nat) {xs : List V} {ds : List PyData}, DpAll K H xs ds → DpAll K H (xs.drop n) (ds.drop n)
  | 0, _, _, h => h
  | _ + 1, _, _, .nil => .nil
  | n + 1, _, _, .cons _ b => DpAll.drp n b
theorem deed_str {c : LC} {p l : Int} {t : Str} {b : Tri} (h : plT c.ws p l = some b) : b = (b.1, p, l) := by
  obtain ⟨_, h1, h2⟩ := plT_mem h
  exact Prod.ext rfl (Prod.ext h1 h2)
theorem dT_map (bs : List Ent) (st : Bool) (p l : Int) (t : Str) (u : Addr) : (if st = true then bs.filter (fun e => !hereF p l e) else bs ++ [((t, p, l), u)]).map (·.1) = deedT (bs.map (·.1)) st p l t := by
  cases st
  · show (bs ++ [((t, p, l), u)]).map (·.1) = bs.map (·.1) ++ [(t, p, l)]
    rw [List.map_append]
    rfl
  · exact filt_T bs p l
/-- the words change -/
theorem StateAt.words {P : Program} {w : World} {K : PySem.W.Frag} {H H' : Hp} {a : LA} {c : LC} {ws : List Tri} (s : StateAt P w K H a c) (e : KpE [a.d1, a.d2] H H') (b : BookW (He.ga K "Phrasebook") H' a.B a.d1 a.d2 ws) (g : GoodT ws) : StateAt P w K H' a { c with ws := ws } := by
  obtain ⟨k1, hp⟩ := s.book.pl
  obtain ⟨k2, hw⟩ := s.book.wd
  have lo : ∀ b ∈ [a.d1, a.d2], ∀ u, H b = some u → Loose u := fun b hb => s.loose b (by
    simp only [List.mem_cons, List.not_mem_nil, or_false] at hb
    rcases hb with rfl | rfl
    · exact List.mem_cons_self
    · exact List.mem_cons_of_mem _ List.mem_cons_self)
  have nS : ∀ {u : HO} {y : Addr}, H y = some u → (∀ g, u ≠ .dT g) → (∀ g, u ≠ .dK g) → y ∉ [a.d1, a.d2] := fun {u y} hy h1 h2 m => by
    simp only [List.mem_cons, List.not_mem_nil, or_false] at m
    rcases m with rfl | rfl
    · rw [hp] at hy; cases hy; exact h1 _ rfl
    · rw [hw] at hy; cases hy; exact h2 _ rfl
  obtain ⟨dx, h1⟩ := s.ob
  obtain ⟨ky, h2, _⟩ := s.rows.ob
  refine ⟨⟨dx, e.same _ _ rfl (nS h1 (by intro g z; cases z) (by intro g z; cases z)) h1⟩, s.rows.kpE e (nS h2 (by intro g z; cases z) (by intro g z; cases z)) lo, s.cont.kpE e (fun x hx => ?_) lo, b, g⟩
  obtain ⟨vs, h3, _⟩ := s.cont.at_ x hx
  exact nS h3 (by intro g z; cases z) (by intro g z; cases z)
def sp_p_State_swap_word (T : Txt K mg) (P : Program) (w : World) : Sp := fun vs H Q E => ∃ (a : LA) (c : LC) (av tv uv : V) (p l : Int) (t : Str) (on : Bool), vs = [.ref a.s, av, tv, uv] ∧ StateAt P w K H a c ∧ TupV K H av [.int p, .int l] ∧ TupV K H tv (oneV (!on) t) ∧ TupV K H uv (oneV on t) ∧ c.ws.length < 1000 ∧ t.length ≤ 1000 ∧ GxR.TabG H T.P_tab ∧
  (on = false → deedV c.ws true p l t = none) ∧
  (deedV c.ws (!on) p l t = none → ∀ H', KpE [a.d1, a.d2] H H' → StateAt P w K H' a (c.app (.word p l t on)) → Q .non H') ∧
  (∀ i, deedV c.ws (!on) p l t = some i → ∀ H', Kp H H' → E (.ref (He.ga K (whyS i))) none H')
theorem ok_p_State_swap_word (T : Txt K mg) (TB : GxR.TabB base mg T.c_tab T.P_tab) : FnOk P w K mg base (L2.CX P w) 6 T.f_p_State_swap_word T.d_p_State_swap_word ["self", "at", "taken", "put"] (sp_p_State_swap_word T P w) := by
  refine T.F_p_State_swap_word.okX sc_p_State_swap_word (fun vs H Q E h => ?_) (fun cdv A outer s H vs Q E hr h => ?_)
  · obtain ⟨a, c, av, tv, uv, p, l, t, on, rfl, _⟩ := h
    rfl
  · obtain ⟨a, c, av, tv, uv, p, l, t, on, rfl, hS, ⟨qa, rfl, hq⟩, ⟨ta, rfl, ht⟩, ⟨ua, rfl, hu'⟩, hwl, htl, hT, hoff, k, kE⟩ := h
    have hu := hu_of hr
    refine ⟨_, (pss_cons (ps_asg (pv 1) (pg_tup (n := 2) rfl (pgs_cons (pg_name (i := 4) sc_p_State_swap_word.nd rfl (by first | exact Or.inl rfl | exact Or.inr rfl)) (pgs_cons (pg_name (i := 5) sc_p_State_swap_word.nd rfl (by first | exact Or.inl rfl | exact Or.inr rfl)) pgs_nil))))
      (pss_cons (ps_if (pt_truth (pv 2) (by intro _; rfl))
      (pss_one (ps_expr (pe_meth (pe_fld (pv 0) rfl) T.cl_Phrasebook T.M_p_Phrasebook_strike (ok_p_Phrasebook_strike T) (hr.mono (by decide)) T.b_p_Phrasebook_strike .nil (passes_call (takes_of rfl rfl rfl rfl) (fun _ _ _ _ z => z)) (pa_cons (pv 4) (pa_cons (pv 5) pa_nil)))))
      pss_nil)
      (pss_one (ps_if (pt_truth (pv 3) (by intro _; rfl))
      (pss_one (ps_expr (pe_meth (pe_fld (pv 0) rfl) T.cl_Phrasebook T.M_p_Phrasebook_enter (ok_p_Phrasebook_enter T TB) (hr.mono (by decide)) T.b_p_Phrasebook_enter .nil (passes_call (takes_of rfl rfl rfl rfl) (fun _ _ _ _ z => z)) (pa_cons (pv 4) (pa_cons (pv 5) (pa_cons (pe_ix ix_tup (pv 3) pe_int (fun _ _ => rfl)) pa_nil))))))
      pss_nil)))), ?_⟩
    obtain ⟨dx, hs⟩ := hS.ob
    obtain ⟨bs, hB, eb⟩ := hS.book
    have g : GoodT (bs.map (·.1)) := by rw [eb]; exact hS.good
    have hbl : bs.length ≤ 1000 := by
      have := congrArg List.length eb
      rw [List.length_map] at this
      omega
    refine ⟨_, rfl, qa, _, rfl, hq, rfl, _, _, rfl, _, _, rfl, rfl, ?_⟩
    obtain ⟨dxb, hb⟩ := hB.ob
    cases on with
    | true =>
      refine ⟨_, rfl, false, .inr (.inl ⟨_, ht, rfl⟩), iteFo rfl ?_⟩
      refine ⟨_, rfl, true, .inr (.inl ⟨_, hu', rfl⟩), iteTo rfl ?_⟩
      refine ⟨_, rfl, a.s, _, dx, _, _, rfl, hs, T.cl_State, T.n_State_phrasebook, fldS_book _ _, a.B, _, _, rfl, hb, flds_no _ _ (by decide +kernel) (by decide +kernel), _, rfl, _, rfl, _, rfl, ua, _, _, _, rfl, rfl, hu', rfl, a.B, a.d1, a.d2, bs, p, l, t, rfl, hB, hbl, htl, hT, fun ev u H1 k1 B1 => ?_, fun y ev H1 k1 => ?_⟩
      · have dv : deedV c.ws false p l t = none := by rw [← eb, enter_V, ev]; rfl
        refine k dv H1 k1 (hS.words k1 ⟨_, B1, ?_⟩ (hS.good.step dv))
        rw [← eb]
        exact dT_map bs false p l t u
      · have dv : deedV c.ws false p l t = some (whyN y) := by rw [← eb, enter_V, ev]; rfl
        have z := kE _ dv H1 k1
        cases y <;> exact z
    | false =>
      refine ⟨_, rfl, true, .inr (.inl ⟨_, ht, rfl⟩), iteTo rfl ?_⟩
      have dv : deedV c.ws true p l t = none := hoff rfl
      have ok : okP p l = true := by
        unfold deedV at dv
        by_cases z : okP p l = false
        · rw [if_pos z] at dv; cases dv
        · simpa using z
      have some_ : (plT c.ws p l).isSome = true := by
        unfold deedV at dv
        rw [if_neg (by rw [ok]; decide), if_pos rfl] at dv
        by_cases z : (plT c.ws p l).isSome = true
        · exact z
        · rw [if_neg z] at dv; cases dv
      refine ⟨_, rfl, a.s, _, dx, _, _, rfl, hs, T.cl_State, T.n_State_phrasebook, fldS_book _ _, a.B, _, _, rfl, hb, flds_no _ _ (by decide +kernel) (by decide +kernel), _, rfl, _, rfl, a.B, a.d1, a.d2, bs, p, l, rfl, hB, fun ev => ?_, fun ev en => ?_, fun ev b eb2 => ?_⟩
      · rw [ok] at ev; cases ev
      · rw [← eb, ← atP_some, en] at some_; cases some_
      · have hpl : plT (bs.map (·.1)) p l = some b.1 := by rw [← atP_T, eb2]; rfl
        refine ⟨bs.filter fun e => !hereF p l e, drop_P bs p l, drop_W g hpl, fun e he => (List.mem_filter.mp he).1, fun H1 k1 B1 => ?_⟩
        have ts : TupS H H1 := .kpE k1 (fun b hb => hS.loose b (by
          simp only [List.mem_cons, List.not_mem_nil, or_false] at hb
          rcases hb with rfl | rfl
          · exact List.mem_cons_self
          · exact List.mem_cons_of_mem _ List.mem_cons_self))
        refine ⟨_, rfl, false, .inr (.inl ⟨_, ts.rd.sqT hu', rfl⟩), iteFo rfl ?_⟩
        refine k dv H1 k1 (hS.words k1 ⟨_, B1, ?_⟩ (hS.good.step dv))
        rw [← eb]
        exact dT_map bs true p l t 0
def sp_p_State_swap (T : Txt K mg) (P : Program) (w : World) : Sp := fun vs H Q E => ∃ (a : LA) (c : LC) (h : Ch) (wv av tv uv : V), vs = [.ref a.s, wv, av, tv, uv] ∧ StateAt P w K H a c ∧ h.Nd ∧ ArgsAt K H h wv av tv uv ∧ GxR.TabG H T.P_tab ∧
  (Fits1 c h → ∀ H', KpE (adsS a c.n) H H' → StateAt P w K H' a (c.app h) → Q .non H') ∧
  (¬ Fits1 c h → ∃ p l t, h = .word p l t true ∧ c.ws.length < 1000 ∧ t.length ≤ 1000 ∧ ∀ i, deedV c.ws false p l t = some i → ∀ H', Kp H H' → E (.ref (He.ga K (whyS i))) none H')
theorem ok_p_State_swap (T : Txt K mg) (TB : GxR.TabB base mg T.c_tab T.P_tab) : FnOk P w K mg base (L2.CX P w) 7 T.f_p_State_swap T.d_p_State_swap ["self", "where", "at", "taken", "put"] (sp_p_State_swap T P w) := by
  refine T.F_p_State_swap.okX sc_p_State_swap (fun vs H Q E h => ?_) (fun cdv A outer s H vs Q E hr h => ?_)
  · obtain ⟨a, c, h, wv, av, tv, uv, rfl, _⟩ := h
    rfl
  · obtain ⟨a, c, h, wv, av, tv, uv, rfl, hS, nd, ar, hT, q, qE⟩ := h
    have hu := hu_of hr
    refine ⟨_, (pss_one (ps_if (pt_cmpR (op_eqD hr.units) (pv 1) (pe_glob rfl T.c_WORDS T.r_WORDS) (nomark _))
      (pss_one (ps_expr (pe_meth (pv 0) T.cl_State T.M_p_State_swap_word (ok_p_State_swap_word T TB) (hr.mono (by decide)) T.b_p_State_swap_word .nil (passes_call (takes_of rfl rfl rfl rfl) (fun _ _ _ _ z => z)) (pa_cons (pv 2) (pa_cons (pv 3) (pa_cons (pv 4) pa_nil))))))
      (pss_cons (ps_set (i := 5) sc_p_State_swap.nd rfl (by first | exact Or.inl rfl | exact Or.inr rfl) (pe_mgetK P w rfl rfl hu (pe_fld (pv 0) rfl) (pv 1) (fun _ _ => rfl)))
      (pss_one (ps_slput (pv 5) (po_some (pv 2)) (po_some (pe_op op_add (pv 2) (pe_callB call_len_seq (by rfl) T.m_len PySem.boot_len (pa_cons (pv 3) pa_nil)))) (pe_callTy call_list_of (by rfl) T.m_list (by decide +kernel) (pa_cons (pv 4) pa_nil)) rfl))))), ?_⟩
    obtain ⟨dx, hs⟩ := hS.ob
    cases h with
    | row k i tk ds =>
      have hf : Fits1 c (.row k i tk ds) := Classical.byContradiction fun z => by
        obtain ⟨p, l, t, e, _⟩ := qE z
        cases e
      have q := q hf
      obtain ⟨hk, hi, hl⟩ := hf
      obtain ⟨hw, rfl, ⟨ts, ⟨t, rfl, ht⟩, hts⟩, us, ⟨u, rfl, hu'⟩, hds⟩ := ar
      obtain ⟨ntk, nds⟩ := nd
      obtain ⟨kvs, m1, m2, ky, m3⟩ := hS.get hk
      obtain ⟨vs, h1, h2⟩ := hS.cont.at_ k hk
      have hlen := DpAll.len h2
      refine ⟨_, rfl, _, _, hw.dp, .str _, key_shaped k, (by decide +kernel), ?_⟩
      refine ⟨false, congrArg V.bl (key_words k), iteB (fun c => by cases c) (fun _ => ?_)⟩
      refine ⟨_, rfl, a.s, _, dx, _, _, rfl, hs, T.cl_State, T.n_State_rows, fldS_rows _ _, _, rfl, a.R, kvs, k.mk, _, rfl, m1, m2, hw, ⟨ky, m3⟩, ?_⟩
      refine ⟨_, rfl, u, us, rfl, .inr hu', fun b nb => ?_⟩
      generalize h_H1 : upd H b _ = H1
      have k_H1 : Kp H H1 := by rw [← h_H1]; exact .new nb
      have q_H1 := (congrFun h_H1 b).symm.trans upd_same
      clear h_H1
      have hne : a.ad k ≠ b := fun z => by
        rw [z, nb] at h1
        cases h1
      have hk1 := k_H1.same _ _ rfl h1
      have ht1 := k_H1.sqT ht
      have el : us.length = ds.length := DpAll.len hds
      have etl : ts.length = tk.length := DpAll.len hts
      have hlen' : vs.length = (c.row k).length := hlen
      refine ⟨_, rfl, _, rfl, _, rfl, _, rfl, _, rfl, t, ts, rfl, .inr ht1, _, _, rfl, rfl, _, rfl, a.ad k, b, vs, us, i, (i : Int) + (ts.length : Int), rfl, rfl, rfl, rfl, hk1, q_H1, hne, by omega, by omega, by omega, Nat.le_of_lt (szt (by omega)), ?_⟩
      have hS1 := hS.kp k_H1
      have e1 : (i : Int).toNat = i := by omega
      have e2 : ((i : Int) + (ts.length : Int)).toNat = i + tk.length := by omega
      rw [e1, e2]
      refine q _ (((KpE.of (S := [a.ad k]) k_H1).trans (KpE.put hk1 rfl List.mem_cons_self)).mono fun b hb => ?_) (hS1.put hk ?_ ?_)
      · rw [List.mem_singleton.mp hb]
        exact List.mem_cons_of_mem _ (List.mem_cons_of_mem _ (List.mem_map.mpr ⟨k, hk, rfl⟩))
      · exact DpAll.app (DpAll.app (DpAll.tak i (k_H1.dpAll h2)) (k_H1.dpAll hds)) (DpAll.drp _ (k_H1.dpAll h2))
      · intro d hd
        rcases List.mem_append.mp hd with hd | hd
        · rcases List.mem_append.mp hd with hd | hd
          · exact hS.cont.nl k hk d (List.mem_of_mem_take hd)
          · exact nds d hd
        · exact hS.cont.nl k hk d (List.mem_of_mem_drop hd)
    | word p l t on =>
      obtain ⟨rfl, hav, htv, huv⟩ := ar
      refine ⟨_, rfl, _, _, .str _, .str _, (by decide +kernel), (by decide +kernel), ?_⟩
      refine ⟨true, congrArg V.bl (by decide +kernel), iteB (fun _ => ?_) (fun c => by cases c)⟩
      have wl : c.ws.length < 1000 ∧ t.length ≤ 1000 ∧ (on = false → deedV c.ws true p l t = none) := by
        by_cases z : Fits1 c (.word p l t on)
        · exact ⟨z.2.1, z.2.2.1, fun y => by have := z.1; rw [y] at this; exact this⟩
        · obtain ⟨p', l', t', e, h1, h2, _⟩ := qE z
          injection e with e1 e2 e3 e4
          subst e1 e2 e3 e4
          exact ⟨h1, h2, fun y => by cases y⟩
      refine ⟨_, rfl, a.s, dx, _, rfl, hs, fldS_no _ _ (by decide +kernel) (by decide +kernel), _, rfl, _, rfl, _, rfl, a, c, av, tv, uv, p, l, t, on, rfl, hS, hav, htv, huv, wl.1, wl.2.1, hT, wl.2.2, fun dv H1 k1 hS1 => ?_, fun i dv H1 k1 => ?_⟩
      · by_cases z : Fits1 c (.word p l t on)
        · exact q z H1 (k1.mono fun b hb => by
            simp only [List.mem_cons, List.not_mem_nil, or_false] at hb
            rcases hb with rfl | rfl
            · exact List.mem_cons_self
            · exact List.mem_cons_of_mem _ List.mem_cons_self) hS1
        · exfalso
          obtain ⟨p', l', t', e, h1, h2, _⟩ := qE z
          injection e with e1 e2 e3 e4
          subst e1 e2 e3 e4
          exact z ⟨dv, h1, h2, fun y => by cases y⟩
      · have z : ¬ Fits1 c (.word p l t on) := fun z => by
          have := z.1
          rw [this] at dv
          cases dv
        obtain ⟨p', l', t', e, h1, h2, hE⟩ := qE z
        injection e with e1 e2 e3 e4
        subst e1 e2 e3 e4
        exact hE i dv H1 k1
/-! ### changes, made and taken back -/
def sp_p_State_make (T : Txt K mg) (P : Program) (w : World) : Sp := fun vs H Q E => ∃ (a : LA) (c : LC) (cl : Addr) (xs : List V) (hs : List Ch), vs = [.ref a.s, .ref cl] ∧ StateAt P w K H a c ∧ (SqL K H cl xs ∧ cl ∉ adsS a c.n ∨ SqT K H cl xs) ∧ ChsAt K H xs hs ∧ GxR.TabG H T.P_tab ∧
  (FitsC c hs → ∀ H', KpE (adsS a c.n) H H' → StateAt P w K H' a (c.apps hs) → Q .non H') ∧
  (¬ FitsC c hs → ∃ p l t, hs = [.word p l t true] ∧ c.ws.length < 1000 ∧ t.length ≤ 1000 ∧ ∀ i, deedV c.ws false p l t = some i → ∀ H', Kp H H' → E (.ref (He.ga K (whyS i))) none H')
theorem ok_p_State_make (T : Txt K mg) (TB : GxR.TabB base mg T.c_tab T.P_tab) : FnOk P w K mg base (L2.CX P w) 8 T.f_p_State_make T.d_p_State_make ["self", "changes"] (sp_p_State_make T P w) := by
  refine T.F_p_State_make.okX sc_p_State_make (fun vs H Q E h => ?_) (fun cdv A outer s H vs Q E hr h => ?_)
  · obtain ⟨a, c, cl, xs, hs, rfl, _⟩ := h
    rfl
  · obtain ⟨a, c, cl, xs, hs, rfl, hS, hcl, hch, hT, q, qE⟩ := h
    have hu := hu_of hr
    have hlen := hch.len
    refine ⟨_, (pss_one (ps_for (passes_of rfl) rfl (pi_seq (pv 1)) (pg_tup (n := 4) rfl (pgs_cons (pg_name (i := 2) sc_p_State_make.nd rfl (by first | exact Or.inl rfl | exact Or.inr rfl)) (pgs_cons (pg_name (i := 3) sc_p_State_make.nd rfl (by first | exact Or.inl rfl | exact Or.inr rfl)) (pgs_cons (pg_name (i := 4) sc_p_State_make.nd rfl (by first | exact Or.inl rfl | exact Or.inr rfl)) (pgs_cons (pg_name (i := 5) sc_p_State_make.nd rfl (by first | exact Or.inl rfl | exact Or.inr rfl)) pgs_nil)))))
      (pss_one (ps_expr (pe_meth (pv 0) T.cl_State T.M_p_State_swap (ok_p_State_swap T TB) (hr.mono (by decide)) T.b_p_State_swap .nil (passes_call (takes_of rfl rfl rfl rfl) (fun _ _ _ _ z => z)) (pa_cons (pv 2) (pa_cons (pv 3) (pa_cons (pv 4) (pa_cons (pv 5) pa_nil))))))))), ?_⟩
    refine ⟨_, rfl, cl, rfl, ?_⟩
    rcases hcl with ⟨hcl, ncl⟩ | hcl
    · refine .inl ⟨⟨_, hcl⟩, for_list (K := K) (a := cl) (xs := xs) (fun i σ H' => ∃ (y2 y3 y4 y5 : Option V), σ = [some (.ref a.s), some (.ref cl), y2, y3, y4, y5] ∧ KpE (adsS a c.n) H H' ∧ StateAt P w K H' a (c.apps (hs.take i)) ∧ (i = 0 → H' = H) ∧ (0 < i → FitsC c hs)) ⟨_, _, _, _, rfl, KpE.of (Kp.refl H), hS, fun _ => rfl, fun z => absurd z (Nat.lt_irrefl 0)⟩ (fun i σ H' _ ⟨_, _, _, _, _, k, _⟩ => k.sqL ncl hcl) ?_ ?_⟩
      · rintro i v σ H' ev ⟨y2, y3, y4, y5, rfl, k, hS', h0, hp⟩
        have hi : i < hs.length := by
          rw [← hlen]
          exact (List.getElem?_eq_some_iff.mp ev).1
        have ts := TupS.kpE k hS.loose
        obtain ⟨nd, wv, av, tv, uv, ⟨t, rfl, ht⟩, ar⟩ := (hch.at_ ev (List.getElem?_eq_getElem hi)).ts ts
        obtain ⟨dx, hs'⟩ := hS'.ob
        refine ⟨t, _, rfl, ht, rfl, _, _, rfl, _, _, rfl, _, _, rfl, _, _, rfl, rfl, ?_⟩
        refine ⟨_, rfl, a.s, dx, _, rfl, hs', fldS_no _ _ (by decide +kernel) (by decide +kernel), _, rfl, _, rfl, _, rfl, _, rfl, a, c.apps (hs.take i), hs[i], wv, av, tv, uv, rfl, hS', nd, ar, k.tab _ hT, fun f1 H2 k2 hS2 => ⟨_, _, _, _, rfl, ?_, ?_, fun z => absurd z (Nat.succ_ne_zero i), fun _ => ?_⟩, fun nf => ?_⟩
        · rw [apps_n] at k2
          exact k.trans k2
        · rw [List.take_succ_eq_append_getElem hi, apps_snoc]
          exact hS2
        · by_cases hf : FitsC c hs
          · exact hf
          · obtain ⟨p, l, t, e, h1, h2, hE⟩ := qE hf
            subst e
            have hi0 : i = 0 := by
              simp only [List.length_singleton] at hi
              omega
            subst hi0
            exact ⟨f1, trivial⟩
        · by_cases hf : FitsC c hs
          · exfalso
            have ff := fits_at hs c i hf
            rw [List.drop_eq_getElem_cons hi] at ff
            exact nf ff.1
          · obtain ⟨p, l, t, e, h1, h2, hE⟩ := qE hf
            subst e
            have hi0 : i = 0 := by
              simp only [List.length_singleton] at hi
              omega
            subst hi0
            refine ⟨p, l, t, rfl, h1, h2, fun j dj H2 k2 => ?_⟩
            rw [h0 rfl] at k2
            exact hE j dj H2 k2
      · rintro σ H' ⟨y2, y3, y4, y5, rfl, k, hS', h0, hp⟩
        by_cases hf : FitsC c hs
        · rw [hlen, List.take_length] at hS'
          exact q hf H' k hS'
        · obtain ⟨p, l, t, e, _⟩ := qE hf
          exact absurd (hp (by rw [hlen, e]; exact Nat.one_pos)) hf
    · refine .inr ⟨⟨_, hcl⟩, for_tup (K := K) (a := cl) (xs := xs) (fun i σ H' => ∃ (y2 y3 y4 y5 : Option V), σ = [some (.ref a.s), some (.ref cl), y2, y3, y4, y5] ∧ KpE (adsS a c.n) H H' ∧ StateAt P w K H' a (c.apps (hs.take i)) ∧ (i = 0 → H' = H) ∧ (0 < i → FitsC c hs)) ⟨_, _, _, _, rfl, KpE.of (Kp.refl H), hS, fun _ => rfl, fun z => absurd z (Nat.lt_irrefl 0)⟩ (fun i σ H' _ ⟨_, _, _, _, _, k, _⟩ => (TupK.kpE k hS.loose).sqT hcl) ?_ ?_⟩
      · rintro i v σ H' ev ⟨y2, y3, y4, y5, rfl, k, hS', h0, hp⟩
        have hi : i < hs.length := by
          rw [← hlen]
          exact (List.getElem?_eq_some_iff.mp ev).1
        have ts := TupS.kpE k hS.loose
        obtain ⟨nd, wv, av, tv, uv, ⟨t, rfl, ht⟩, ar⟩ := (hch.at_ ev (List.getElem?_eq_getElem hi)).ts ts
        obtain ⟨dx, hs'⟩ := hS'.ob
        refine ⟨t, _, rfl, ht, rfl, _, _, rfl, _, _, rfl, _, _, rfl, _, _, rfl, rfl, ?_⟩
        refine ⟨_, rfl, a.s, dx, _, rfl, hs', fldS_no _ _ (by decide +kernel) (by decide +kernel), _, rfl, _, rfl, _, rfl, _, rfl, a, c.apps (hs.take i), hs[i], wv, av, tv, uv, rfl, hS', nd, ar, k.tab _ hT, fun f1 H2 k2 hS2 => ⟨_, _, _, _, rfl, ?_, ?_, fun z => absurd z (Nat.succ_ne_zero i), fun _ => ?_⟩, fun nf => ?_⟩
        · rw [apps_n] at k2
          exact k.trans k2
        · rw [List.take_succ_eq_append_getElem hi, apps_snoc]
          exact hS2
        · by_cases hf : FitsC c hs
          · exact hf
          · obtain ⟨p, l, t, e, h1, h2, hE⟩ := qE hf
            subst e
            have hi0 : i = 0 := by
              simp only [List.length_singleton] at hi
              omega
            subst hi0
            exact ⟨f1, trivial⟩
        · by_cases hf : FitsC c hs
          · exfalso
            have ff := fits_at hs c i hf
            rw [List.drop_eq_getElem_cons hi] at ff
            exact nf ff.1
          · obtain ⟨p, l, t, e, h1, h2, hE⟩ := qE hf
            subst e
            have hi0 : i = 0 := by
              simp only [List.length_singleton] at hi
              omega
            subst hi0
            refine ⟨p, l, t, rfl, h1, h2, fun j dj H2 k2 => ?_⟩
            rw [h0 rfl] at k2
            exact hE j dj H2 k2
      · rintro σ H' ⟨y2, y3, y4, y5, rfl, k, hS', h0, hp⟩
        by_cases hf : FitsC c hs
        · rw [hlen, List.take_length] at hS'
          exact q hf H' k hS'
        · obtain ⟨p, l, t, e, _⟩ := qE hf
          exact absurd (hp (by rw [hlen, e]; exact Nat.one_pos)) hf
/-! ### a deed is done -/
def LC.did (c : LC) (dd : PyData) (hs : List Ch) : LC := ⟨c.n, (c.apps hs).row, (c.apps hs).ws, c.past ++ [(dd, hs)], []⟩
def LA.futA (a : LA) (f : Addr) : LA := ⟨a.s, a.R, a.B, a.d1, a.d2, a.p, f, a.ad⟩
theorem foot_fut {L f b : Addr} {a : LA} {n : Nat} (h : b ∈ footL L (a.futA f) n) : b = f ∨ b ∈ footL L a n := by
  unfold footL at h ⊢
  rcases List.mem_append.mp h with h | h
  · simp only [List.mem_cons, List.not_mem_nil, or_false, LA.futA] at h
    rcases h with rfl | rfl | rfl
    · exact .inr (by simp)
    · exact .inr (by simp)
    · exact .inl rfl
  · exact .inr (List.mem_append.mpr (.inr h))
theorem foot_sub {L b : Addr} {a : LA} {n : Nat} (h : b ∈ adsS a n) : b ∈ footL L a n := List.mem_append.mpr (.inr h)
/-- behind a deed: what changed, and how the line stands -/
structure Did (P : Program) (w : World) (K : PySem.W.Frag) (H H' : Hp) (L : Addr) (a : LA) (n : Nat) (a' : LA) (c' : LC) : Prop where
  e : KpE (footL L a n) H H'
  ft : ∀ b ∈ footL L a' n, b ∈ footL L a n ∨ H b = none
  nn : c'.n = n
  at_ : LineAt P w K H' L a' c'
def sp_p_Line_do (T : Txt K mg) (P : Program) (w : World) : Sp := fun vs H Q E => ∃ (L : Addr) (a : LA) (c : LC) (dv : V) (dd : PyData) (cl : Addr) (xs : List V) (hs : List Ch), vs = [.ref L, dv, .ref cl] ∧ LineAt P w K H L a c ∧ Dp K H dv dd ∧ Nl dd ∧ SqL K H cl xs ∧ cl ∉ footL L a c.n ∧ ChsAt K H xs hs ∧ c.past.length < 9000 ∧ hs.length < 9000 ∧ GxR.TabG H T.P_tab ∧
  (FitsC c hs → ∀ (a' : LA) (H' : Hp), Did P w K H H' L a c.n a' (c.did dd hs) → Q .non H') ∧
  (¬ FitsC c hs → ∃ p l t, hs = [.word p l t true] ∧ c.ws.length < 1000 ∧ t.length ≤ 1000 ∧ ∀ i, deedV c.ws false p l t = some i → ∀ H', Kp H H' → E (.ref (He.ga K (whyS i))) none H')
theorem ok_p_Line_do (T : Txt K mg) (TB : GxR.TabB base mg T.c_tab T.P_tab) : FnOk P w K mg base (L2.CX P w) 9 T.f_p_Line_do T.d_p_Line_do ["self", "deed", "changes"] (sp_p_Line_do T P w) := by
  refine T.F_p_Line_do.okX sc_p_Line_do (fun vs H Q E h => ?_) (fun cdv A outer s H vs Q E hr h => ?_)
  · obtain ⟨L, a, c, dv, dd, cl, xs, hs, rfl, _⟩ := h
    rfl
  · obtain ⟨L, a, c, dv, dd, cl, xs, hs, rfl, hL, hdv, hnl, hcl, ncl, hch, hp, hh, hT, q, qE⟩ := h
    refine ⟨_, (pss_cons (ps_expr (pe_meth (pe_fld (pv 0) rfl) T.cl_State T.M_p_State_make (ok_p_State_make T TB) (hr.mono (by decide)) T.b_p_State_make .nil (passes_call (takes_of rfl rfl rfl rfl) (fun _ _ _ _ z => z)) (pa_cons (pv 2) pa_nil)))
      (pss_cons (ps_expr (pe_bm PySem.F.plainAttrs_list PySem.F.slot_list_append PySem.F.type_list_append mt_append (pe_fld (pv 0) rfl) (pa_cons (pe_tup (pa_cons (pv 1) (pa_cons (pe_callTy call_tuple_of (by rfl) T.m_tuple (by decide +kernel) (pa_cons (pv 2) pa_nil)) pa_nil))) pa_nil)))
      (pss_one (ps_fld (pv 0) (pe_lst pa_nil) rfl)))), ?_⟩
    obtain ⟨dx, hl⟩ := hL.ob
    obtain ⟨dxs, hs0⟩ := hL.st.ob
    have sub : ∀ b ∈ adsS a c.n, b ∈ footL L a c.n := fun b hb => foot_sub hb
    refine ⟨_, rfl, L, _, dx, _, _, rfl, hl, T.cl_Line, T.n_Line_state, fldL_state _ _ _, a.s, dxs, _, rfl, hs0, fldS_no _ _ (by decide +kernel) (by decide +kernel), _, rfl, a, c, cl, xs, hs, rfl, hL.st, .inl ⟨hcl, fun m => ncl (sub _ m)⟩, hch, hT, fun hf H1 e1 hS1 => ?_, qE⟩
    have lS := hL.st.loose
    have ts := TupS.kpE e1 lS
    obtain ⟨pv, hp0, dp0⟩ := hL.past
    have nL : L ∉ adsS a c.n := fun m => by
      rcases List.mem_cons.mp m with z | m
      · obtain ⟨kvs, h⟩ := hL.st.book.pl
        rw [← z, hl] at h; cases h
      rcases List.mem_cons.mp m with z | m
      · obtain ⟨kvs, h⟩ := hL.st.book.wd
        rw [← z, hl] at h; cases h
      obtain ⟨y, hy, z⟩ := List.mem_map.mp m
      obtain ⟨vs, h1, _⟩ := hL.st.cont.at_ y hy
      rw [z, hl] at h1
      cases h1
    have nP : a.p ∉ adsS a c.n := fun m => by
      rcases List.mem_cons.mp m with z | m
      · obtain ⟨kvs, h⟩ := hL.st.book.pl
        rw [← z, hp0] at h; cases h
      rcases List.mem_cons.mp m with z | m
      · obtain ⟨kvs, h⟩ := hL.st.book.wd
        rw [← z, hp0] at h; cases h
      obtain ⟨y, hy, z⟩ := List.mem_map.mp m
      exact (hL.ap y hy).1 z
    have hl1 := e1.same _ _ rfl nL hl
    have hp1 := e1.same _ _ rfl nP hp0
    have dp1 := dp0.ts ts
    have hcl1 := e1.sqL (fun m => ncl (sub _ m)) hcl
    have hdv1 := Dp.tk ts.rd hnl hdv
    have hch1 := hch.ts ts
    have epv : pv.length = c.past.length := dp0.len
    refine ⟨_, rfl, L, _, dx, _, _, rfl, hl1, T.cl_Line, T.n_Line_past, fldL_past _ _ _, .inl ⟨rfl, _, .inl (.inl hp1)⟩, _, rfl, _, rfl, cl, xs, rfl, .inl ⟨hcl1, fun t nt => ?_⟩⟩
    generalize h_H2 : upd H1 t _ = H2
    have k_H2 : Kp H1 H2 := by rw [← h_H2]; exact .new nt
    have q_H2 := (congrFun h_H2 t).symm.trans upd_same
    clear h_H2
    refine ⟨Nat.le_of_lt (szt (by show 2 < 100000; decide)), fun u nu => ?_⟩
    generalize h_H3 : upd H2 u _ = H3
    have k_H3 : Kp H2 H3 := by rw [← h_H3]; exact .new nu
    have q_H3 := (congrFun h_H3 u).symm.trans upd_same
    clear h_H3
    have k13 := k_H2.trans k_H3
    have hp3 := k13.same _ _ rfl hp1
    have hl3 := k13.same _ _ rfl hl1
    have hS3 := hS1.kp k13
    refine ⟨a.p, _, _, rfl, rfl, hp3, szt (by omega), ?_⟩
    have D3 : DdsAt K H3 (pv ++ [.ref u]) (c.past ++ [(dd, hs)]) := (dp1.ts k13.ts).snoc ⟨hnl, hh, dv, .ref t, xs, ⟨u, rfl, .inl (.inl q_H3)⟩, k13.dp hdv1, ⟨t, rfl, .inl (.inl (k_H3.same _ _ rfl q_H2))⟩, hch1.ts k13.ts⟩
    have ap1 : ∀ k ∈ keysOf (c.apps hs).n, a.ad k ≠ a.p := fun k hk => by
      rw [apps_n] at hk
      exact (hL.ap k hk).1
    have neS := hL.neS
    have npL : a.p ≠ L := fun z => by
      rw [z, hl] at hp0
      cases hp0
    have hS4 := hS3.putL (o := .lst (pv ++ [.ref u])) hp3 ap1
    have D4 := D3.ts (.upd (o := .lst (pv ++ [.ref u])) hp3 trivial)
    have e34 : KpE (footL L a c.n) H3 (upd H3 a.p (.lst (pv ++ [.ref u]))) := KpE.put hp3 rfl (by unfold footL; simp)
    generalize hH4 : upd H3 a.p (.lst (pv ++ [.ref u])) = H4 at hS4 D4 e34
    have hp4 : H4 a.p = some (.lst (pv ++ [.ref u])) := by rw [← hH4]; exact upd_same
    have hl4 : H4 L = some (.ins (He.ga K "Line") dx (fldL a.s a.p a.f)) := by rw [← hH4, upd_ne npL.symm]; exact hl3
    refine ⟨Nat.zero_le _, fun f nf => ?_⟩
    generalize h_H5 : upd H4 f _ = H5
    have k_H5 : Kp H4 H5 := by rw [← h_H5]; exact .new nf
    have q_H5 := (congrFun h_H5 f).symm.trans upd_same
    clear h_H5
    have hl5 := k_H5.same _ _ rfl hl4
    have hS5 := hS4.kp k_H5
    have D5 := D4.ts k_H5.ts
    refine ⟨_, rfl, L, _, dx, _, rfl, hl5, T.cl_Line, T.n_Line_future, fldL_len _ _ _, ?_⟩
    rw [fldL_set]
    have hS6 := hS5.putI (o := .ins (He.ga K "Line") dx (fldL a.s a.p f)) hl5 neS.1 neS.2
    have D6 := D5.ts (.upd (o := .ins (He.ga K "Line") dx (fldL a.s a.p f)) hl5 trivial)
    have e56 : KpE (footL L a c.n) H5 (upd H5 L (.ins (He.ga K "Line") dx (fldL a.s a.p f))) := KpE.put hl5 rfl (by unfold footL; simp)
    have e16 := ((KpE.of (S := footL L a c.n) k13).trans e34).trans ((KpE.of k_H5).trans e56)
    have nfL : f ≠ L := fun z => by
      rw [z, hl4] at nf
      cases nf
    have nf0 : H f = none := e1.free _ (k13.free _ (e34.free _ nf))
    refine q hf (a.futA f) _ ⟨(e1.mono sub).trans e16, fun b hb => (foot_fut hb).elim (fun z => .inr (by rw [z]; exact nf0)) .inl, rfl, ⟨⟨dx, upd_same⟩, ⟨hS6.ob, ?_, ?_, hS6.book, hS6.good⟩, ⟨_, ?_, D6⟩, ⟨[], ?_, trivial⟩, fun y hy => ?_, ?_⟩⟩
    · have := hS6.rows
      rw [apps_n] at this
      exact this
    · have := hS6.cont
      rw [apps_n] at this
      exact this
    · show upd H5 L _ a.p = _
      rw [upd_ne npL]
      exact k_H5.same _ _ rfl hp4
    · show upd H5 L _ f = _
      rw [upd_ne nfL]
      exact q_H5
    · obtain ⟨vs, h1, _⟩ := hS4.cont.at_ y (by rw [apps_n]; exact hy)
      exact ⟨(hL.ap y hy).1, fun z => (by rw [show a.ad y = f from z, nf] at h1; cases h1)⟩
    · intro z
      rw [show a.p = f from z, nf] at hp4
      cases hp4
/-! ### a line by what it is -/
structure PS where
  n : Nat
  up : Bool
  arms : List Int
  sl : List Bool
  fg : List Bool
  q : Bool → List Int
  bk : Bool → Nat → List (Int × Bool)
def rowD (r : Int × Bool) : PyData := .tuple [.int r.1, .bool r.2]
def PS.row (s : PS) : RK → List PyData
  | .way => [.str (wayN s.up)]
  | .arms => s.arms.map .int
  | .sleep => s.sl.map .bool
  | .fog => s.fg.map .bool
  | .q u => (s.q u).map .int
  | .b u m => (s.bk u m).map rowD
structure PS.Ok (s : PS) : Prop where
  lo : 2 ≤ s.n
  hi : s.n ≤ 12
  arms : s.arms.length = s.n
  sl : s.sl.length = s.n
  fg : s.fg.length + 1 = s.n
  q : ∀ u, (s.q u).length ≤ 60
def newP (n : Nat) : PS := ⟨n, true, List.replicate n 0, List.replicate n false, List.replicate (n - 1) false, fun _ => [], fun _ _ => []⟩
theorem newP_row (n : Nat) : (newP n).row = newRow n := by
  funext k
  cases k <;> simp [PS.row, newP, newRow, wayN]
theorem newP_ok {n : Nat} (h1 : 2 ≤ n) (h2 : n ≤ 12) : (newP n).Ok := ⟨h1, h2, by simp [newP], by simp [newP], by simp [newP]; omega, fun _ => by simp [newP]⟩
structure LS where
  a : LA
  s : PS
  ws : List Tri
  past : List Dd
  fut : List Dd
def LS.c (x : LS) : LC := ⟨x.s.n, x.s.row, x.ws, x.past, x.fut⟩
def LS.foot (x : LS) (L : Addr) : List Addr := footL L x.a x.s.n
structure LineP (P : Program) (w : World) (K : PySem.W.Frag) (H : Hp) (L : Addr) (x : LS) : Prop where
  at_ : LineAt P w K H L x.a x.c
  ok : x.s.Ok
theorem LineP.kp {P : Program} {w : World} {K : PySem.W.Frag} {H H' : Hp} {L : Addr} {x : LS} (l : LineP P w K H L x) (k : Kp H H') : LineP P w K H' L x := ⟨l.at_.kp k, l.ok⟩
/-- behind a deed -/
structure Went (P : Program) (w : World) (K : PySem.W.Frag) (H H' : Hp) (L : Addr) (x x' : LS) : Prop where
  e : KpE (x.foot L) H H'
  ft : ∀ b ∈ x'.foot L, b ∈ x.foot L ∨ H b = none
  nn : x'.s.n = x.s.n
  at_ : LineP P w K H' L x'
theorem Went.pre {P : Program} {w : World} {K : PySem.W.Frag} {G H H' : Hp} {L : Addr} {x x' : LS} (k : Kp G H) (g : Went P w K H H' L x x') : Went P w K G H' L x x' :=
  ⟨(KpE.of k).trans g.e, fun b hb => (g.ft b hb).imp id (k.free b), g.nn, g.at_⟩
theorem Went.post {P : Program} {w : World} {K : PySem.W.Frag} {G H H' : Hp} {L : Addr} {x x' : LS} (g : Went P w K G H L x x') (k : Kp H H') : Went P w K G H' L x x' :=
  ⟨g.e.trans (KpE.of k), g.ft, g.nn, g.at_.kp k⟩
theorem Went.of {P : Program} {w : World} {K : PySem.W.Frag} {H H' : Hp} {L : Addr} {x : LS} {a' : LA} {c' : LC} {s' : PS} {ws : List Tri} {past fut : List Dd} (g : Did P w K H H' L x.a x.s.n a' c') (e : c' = ⟨s'.n, s'.row, ws, past, fut⟩) (ok : s'.Ok) : Went P w K H H' L x ⟨a', s', ws, past, fut⟩ := by
  subst e
  have nn : s'.n = x.s.n := g.nn
  exact ⟨g.e, fun b hb => g.ft b (by rw [← nn]; exact hb), nn, ⟨g.at_, ok⟩⟩
/-- one row changes: how the deed leaves the line -/
theorem did_row {x : LS} {s' : PS} {dd : PyData} {k : RK} {i : Nat} {tk ds : List PyData} (hn : s'.n = x.s.n) (h : ∀ y, s'.row y = if y = k then (x.s.row k).take i ++ ds ++ (x.s.row k).drop (i + tk.length) else x.s.row y) :
    x.c.did dd [.row k i tk ds] = ⟨s'.n, s'.row, x.ws, x.past ++ [(dd, [.row k i tk ds])], []⟩ := by
  have e : s'.row = fun y => if y = k then (x.s.row k).take i ++ ds ++ (x.s.row k).drop (i + tk.length) else x.s.row y := funext h
  rw [e, hn]
  rfl
theorem SqL.not_foot {P : Program} {w : World} {K : PySem.W.Frag} {H : Hp} {L : Addr} {a : LA} {c : LC} (l : LineAt P w K H L a c) {b : Addr} (h : H b = none) : b ∉ footL L a c.n := fun m => l.alloc b m h
def wayU (w : Str) : Bool := decide (w = "up")
theorem wayU_N {w : Str} (h : isWay w = true) : wayN (wayU w) = w := by
  rcases isWay_iff.mp h with rfl | rfl
  · rfl
  · rfl
theorem wayN_is (u : Bool) : isWay (wayN u) = true := isWay_iff.mpr (by cases u; exact .inr rfl; exact .inl rfl)
theorem wayU_of (u : Bool) : wayU (wayN u) = u := by cases u <;> decide +kernel
/-! #### the looks at what waits -/
def sp_p_State_queue_on (P : Program) (w : World) (K : PySem.W.Frag) : Sp := fun vs H Q E => ∃ (a : LA) (c : LC) (wy : Str) (qs : Bool → List Int), vs = [.ref a.s, .str wy] ∧ StateAt P w K H a c ∧ (∀ u, c.row (.q u) = (qs u).map PyData.int) ∧
  (isWay wy = true → ∀ (r : Addr) (H' : Hp), H r = none → Kp H H' → H' r = some (.lst ((qs (wayU wy)).map V.int)) → Q (.ref r) H') ∧ (isWay wy = false → ∀ H', Kp H H' → E (.ref (He.ga K "BadWay")) none H')
theorem ok_p_State_queue_on (T : Txt K mg) : FnOk P w K mg base (L2.CX P w) 3 T.f_p_State_queue_on T.d_p_State_queue_on ["self", "way"] (sp_p_State_queue_on P w K) := by
  refine T.F_p_State_queue_on.okX sc_p_State_queue_on (fun vs H Q E h => ?_) (fun cdv A outer s H vs Q E hr h => ?_)
  · obtain ⟨a, c, wy, qs, rfl, _⟩ := h
    rfl
  · obtain ⟨a, c, wy, qs, rfl, hS, hq, k, kE⟩ := h
    have hu := hu_of hr
    refine ⟨_, (pss_cons (ps_expr (pe_call (ok_p_check_way T) (hr.mono (by decide)) rfl T.g_p_check_way T.F_p_check_way.kp T.b_p_check_way .nil (passes_call (takes_of rfl rfl rfl rfl) (fun _ _ _ _ z => z)) (pa_cons (pv 1) pa_nil)))
      (pss_one (ps_ret (pe_callTy call_list_of (by rfl) T.m_list (by decide +kernel) (pa_cons (pe_mgetK P w rfl rfl hu (pe_fld (pv 0) rfl) (pe_call (ok_p_queue_of T) (hr.mono (by decide)) rfl T.g_p_queue_of T.F_p_queue_of.kp T.b_p_queue_of .nil pass0 (pa_cons (pv 1) pa_nil)) (fun _ _ => rfl)) pa_nil))))), ?_⟩
    refine ⟨_, rfl, wy, rfl, fun c1 H1 k1 => ?_, fun c1 H1 k1 => kE c1 H1 k1⟩
    have hS1 := hS.kp k1
    obtain ⟨dx, hs⟩ := hS1.ob
    refine ⟨_, rfl, a.s, _, dx, _, _, rfl, hs, T.cl_State, T.n_State_rows, fldS_rows _ _, _, rfl, wy, rfl, fun t H2 nt k2 ht => ?_⟩
    have hS2 := hS1.kp k2
    obtain ⟨kvs, m1, m2, ky, m3⟩ := hS2.get (key_q c.n (wayU wy))
    obtain ⟨vs, h1, h2⟩ := hS2.cont.at_ (.q (wayU wy)) (key_q c.n (wayU wy))
    rw [hq] at h2
    have ev := dpAll_ints h2
    subst ev
    refine ⟨a.R, kvs, (RK.q (wayU wy)).mk, _, rfl, m1, m2, ⟨t, rfl, ?_⟩, ⟨ky, m3⟩, a.ad (.q (wayU wy)), _, rfl, .inl (SqL.of h1), fun r nr => k c1 r _ (k1.free _ (k2.free _ nr)) ((k1.trans k2).trans (.new nr)) upd_same⟩
    rw [ht]
    show some (HO.tup [V.str "queue", V.str wy]) = some (HO.tup [V.str "queue", V.str (wayN (wayU wy))])
    rw [wayU_N c1]
def sp_p_Line_waiting (P : Program) (w : World) (K : PySem.W.Frag) : Sp := fun vs H Q E => ∃ (L : Addr) (x : LS) (wy : Str), vs = [.ref L, .str wy] ∧ LineP P w K H L x ∧
  (isWay wy = true → ∀ (r : Addr) (H' : Hp), H r = none → Kp H H' → H' r = some (.lst ((x.s.q (wayU wy)).map V.int)) → Q (.ref r) H') ∧ (isWay wy = false → ∀ H', Kp H H' → E (.ref (He.ga K "BadWay")) none H')
theorem ok_p_Line_waiting (T : Txt K mg) : FnOk P w K mg base (L2.CX P w) 4 T.f_p_Line_waiting T.d_p_Line_waiting ["self", "way"] (sp_p_Line_waiting P w K) := by
  refine T.F_p_Line_waiting.okX sc_p_Line_waiting (fun vs H Q E h => ?_) (fun cdv A outer s H vs Q E hr h => ?_)
  · obtain ⟨L, x, wy, rfl, _⟩ := h
    rfl
  · obtain ⟨L, x, wy, rfl, hL, k, kE⟩ := h
    refine ⟨_, (pss_one (ps_ret (pe_meth (pe_fld (pv 0) rfl) T.cl_State T.M_p_State_queue_on (ok_p_State_queue_on T) (hr.mono (by decide)) T.b_p_State_queue_on .nil (passes_call (takes_of rfl rfl rfl rfl) (fun _ _ _ _ z => z)) (pa_cons (pv 1) pa_nil)))), ?_⟩
    obtain ⟨dx, hl⟩ := hL.at_.ob
    obtain ⟨dxs, hs⟩ := hL.at_.st.ob
    exact ⟨_, rfl, L, _, dx, _, _, rfl, hl, T.cl_Line, T.n_Line_state, fldL_state _ _ _, x.a.s, dxs, _, rfl, hs, fldS_no _ _ (by decide +kernel) (by decide +kernel), _, rfl, x.a, x.c, wy, x.s.q, rfl, hL.at_.st, fun _ => rfl, k, kE⟩
theorem at_1 {a b : V} {r : List V} : atI (a :: b :: r) 1 = some b := atI_nat (j := 1) rfl
theorem at_0 {a : V} {r : List V} : atI (a :: r) 0 = some a := atI_nat (j := 0) rfl
/-! #### signs that wait -/
def PS.setq (s : PS) (u : Bool) (xs : List Int) : PS := { s with q := fun v => if v = u then xs else s.q v }
theorem setq_row (s : PS) (u : Bool) (xs : List Int) (y : RK) : (s.setq u xs).row y = if y = .q u then xs.map PyData.int else s.row y := by
  cases y with
  | q v =>
    show (if v = u then xs else s.q v).map PyData.int = _
    by_cases z : v = u
    · rw [if_pos z, if_pos (by rw [z])]
    · rw [if_neg z, if_neg (fun e => z (by injection e))]
      rfl
  | _ => rw [if_neg (by intro z; cases z)]; rfl
theorem setq_ok {s : PS} (o : s.Ok) {u : Bool} {xs : List Int} (h : xs.length ≤ 60) : (s.setq u xs).Ok := ⟨o.lo, o.hi, o.arms, o.sl, o.fg, fun v => by
  show (if v = u then xs else s.q v).length ≤ 60
  by_cases z : v = u
  · rw [if_pos z]; exact h
  · rw [if_neg z]; exact o.q v⟩
/-- signs put among those that wait -/
def insQ (s : PS) (u : Bool) (i : Nat) (ns : List Int) : PS := s.setq u ((s.q u).take i ++ ns ++ (s.q u).drop i)
def sp_p_Line_let_wait (T : Txt K mg) (P : Program) (w : World) : Sp := fun vs H Q E => ∃ (L : Addr) (x : LS) (D : Addr) (nm wy : Str) (more : List V) (dd : PyData) (i : Nat) (sg : Addr) (ns : List Int), vs = [.ref L, .ref D, .int (i : Int), .ref sg] ∧ LineP P w K H L x ∧ SqT K H D (.str nm :: .str wy :: more) ∧ Dp K H (.ref D) dd ∧ Nl dd ∧ isWay wy = true ∧
  SqL K H sg (ns.map V.int) ∧ sg ∉ x.foot L ∧ ns.length ≤ 1000 ∧ i ≤ (x.s.q (wayU wy)).length ∧ x.past.length < 9000 ∧ GxR.TabG H T.P_tab ∧
  (60 < (x.s.q (wayU wy)).length + ns.length → ∀ H', Kp H H' → E (.ref (He.ga K "Full")) none H') ∧
  (¬ 60 < (x.s.q (wayU wy)).length + ns.length → ns = [] → ∀ H', Kp H H' → Q .non H') ∧
  (¬ 60 < (x.s.q (wayU wy)).length + ns.length → ns ≠ [] → ∀ a' H', Went P w K H H' L x ⟨a', insQ x.s (wayU wy) i ns, x.ws, x.past ++ [(dd, [.row (.q (wayU wy)) i [] (ns.map .int)])], []⟩ → Q .non H')
theorem ok_p_Line_let_wait (T : Txt K mg) (TB : GxR.TabB base mg T.c_tab T.P_tab) : FnOk P w K mg base (L2.CX P w) 10 T.f_p_Line_let_wait T.d_p_Line_let_wait ["self", "deed", "at", "signs"] (sp_p_Line_let_wait T P w) := by
  refine T.F_p_Line_let_wait.okX sc_p_Line_let_wait (fun vs H Q E h => ?_) (fun cdv A outer s H vs Q E hr h => ?_)
  · obtain ⟨L, x, D, nm, wy, more, dd, i, sg, ns, rfl, _⟩ := h
    rfl
  · obtain ⟨L, x, D, nm, wy, more, dd, i, sg, ns, rfl, hL, hD, hdd, hnl, hw, hsg, nsg, hnl2, hi, hp, hT, kF, kN, k⟩ := h
    refine ⟨_, (pss_cons (ps_set (i := 4) sc_p_Line_let_wait.nd rfl (by first | exact Or.inl rfl | exact Or.inr rfl) (pe_ix ix_tup (pv 1) pe_int (fun _ _ => rfl)))
      (pss_cons (ps_if (pt_cmpR op_gt (pe_op op_add (pe_callB call_len_seq (by rfl) T.m_len PySem.boot_len (pa_cons (pe_meth (pv 0) T.cl_Line T.M_p_Line_waiting (ok_p_Line_waiting T) (hr.mono (by decide)) T.b_p_Line_waiting .nil (passes_call (takes_of rfl rfl rfl rfl) (fun _ _ _ _ z => z)) (pa_cons (pv 4) pa_nil)) pa_nil)) (pe_callB call_len_seq (by rfl) T.m_len PySem.boot_len (pa_cons (pv 3) pa_nil))) (pe_glob rfl T.c_MOST_WAITING T.r_MOST_WAITING) (nomark _))
      (pss_one (ps_raise rfl (takes_of rfl rfl rfl rfl) (pmk_own PySem.F.excBase_ValueError T.x_Full T.g_Full T.k_Full (raises_own T.b_Full T.t_Full) rfl)))
      pss_nil)
      (pss_one (ps_if (pt_truth (pv 3) (by intro _; rfl))
      (pss_one (ps_expr (pe_meth (pv 0) T.cl_Line T.M_p_Line_do (ok_p_Line_do T TB) (hr.mono (by decide)) T.b_p_Line_do .nil (passes_call (takes_of rfl rfl rfl rfl) (fun _ _ _ _ z => z)) (pa_cons (pv 1) (pa_cons (pe_lst (pa_cons (pe_tup (pa_cons (pe_call (ok_p_queue_of T) (hr.mono (by decide)) rfl T.g_p_queue_of T.F_p_queue_of.kp T.b_p_queue_of .nil pass0 (pa_cons (pv 4) pa_nil)) (pa_cons (pv 2) (pa_cons (pe_tup pa_nil) (pa_cons (pe_callTy call_tuple_of (by rfl) T.m_tuple (by decide +kernel) (pa_cons (pv 3) pa_nil)) pa_nil))))) pa_nil)) pa_nil)))))
      pss_nil)))), ?_⟩
    obtain ⟨dx, hl⟩ := hL.at_.ob
    refine ⟨_, rfl, D, _, _, _, rfl, rfl, hD, at_1, ?_⟩
    refine ⟨_, rfl, L, dx, _, rfl, hl, fldL_no _ _ _ (by decide +kernel) (by decide +kernel) (by decide +kernel), _, rfl, L, x, wy, rfl, hL, fun _ r H1 nr k1 hr1 => ?_, fun c => by rw [hw] at c; cases c⟩
    have hsg1 := k1.sqL hsg
    have hl1 := k1.same _ _ rfl hl
    have hL1 := hL.kp k1
    have el : (((x.s.q (wayU wy)).map V.int).length : Int) = ((x.s.q (wayU wy)).length : Int) := by rw [List.length_map]
    have en : ((ns.map V.int).length : Int) = (ns.length : Int) := by rw [List.length_map]
    refine ⟨r, _, rfl, .inl (SqL.of hr1), _, rfl, sg, _, rfl, .inl hsg1, _, _, rfl, rfl, _, _, rfl, rfl, _, rfl, iteD (fun c => ?_) (fun c => ?_)⟩
    · rw [el, en] at c
      exact kF (by omega) H1 k1
    rw [el, en] at c
    have c60 : ¬ 60 < (x.s.q (wayU wy)).length + ns.length := by omega
    refine ⟨_, rfl, !(ns.map V.int).isEmpty, .inl ⟨_, hsg1, rfl⟩, ?_⟩
    by_cases en0 : ns = []
    · rw [en0]
      exact iteFo rfl (kN c60 en0 H1 k1)
    have ne : (!(ns.map V.int).isEmpty) = true := by
      cases ns with
      | nil => exact absurd rfl en0
      | cons => rfl
    refine iteTo ne ?_
    refine ⟨_, rfl, L, dx, _, rfl, hl1, fldL_no _ _ _ (by decide +kernel) (by decide +kernel) (by decide +kernel), _, rfl, _, rfl, wy, rfl, fun t H2 nt k2 ht => ?_⟩
    refine ⟨_, rfl, Nat.zero_le _, fun e0 ne0 => ?_⟩
    generalize h_H3 : upd H2 e0 _ = H3
    have k_H3 : Kp H2 H3 := by rw [← h_H3]; exact .new ne0
    have q_H3 := (congrFun h_H3 e0).symm.trans upd_same
    clear h_H3
    refine ⟨_, rfl, sg, _, rfl, .inl ⟨(k2.trans k_H3).sqL hsg1, fun tu ntu => ?_⟩⟩
    generalize h_H4 : upd H3 tu _ = H4
    have k_H4 : Kp H3 H4 := by rw [← h_H4]; exact .new ntu
    have q_H4 := (congrFun h_H4 tu).symm.trans upd_same
    clear h_H4
    refine ⟨szl (by show 4 ≤ 100000; decide), fun t4 nt4 => ?_⟩
    generalize h_H5 : upd H4 t4 _ = H5
    have k_H5 : Kp H4 H5 := by rw [← h_H5]; exact .new nt4
    have q_H5 := (congrFun h_H5 t4).symm.trans upd_same
    clear h_H5
    refine ⟨szl (by show 1 ≤ 100000; decide), fun cl ncl => ?_⟩
    generalize h_H6 : upd H5 cl _ = H6
    have k_H6 : Kp H5 H6 := by rw [← h_H6]; exact .new ncl
    have q_H6 := (congrFun h_H6 cl).symm.trans upd_same
    clear h_H6
    have k16 := (((k2.trans k_H3).trans k_H4).trans k_H5).trans k_H6
    have kA := k1.trans k16
    have hL6 := hL.kp kA
    have k36 := (k_H4.trans k_H5).trans k_H6
    have row : Ch := .row (.q (wayU wy)) i [] (ns.map .int)
    have hch : ChsAt K H6 [.ref t4] [.row (.q (wayU wy)) i [] (ns.map .int)] := by
      refine ⟨⟨⟨by simp, fun d hd => ?_⟩, .ref t, .int (i : Int), .ref e0, .ref tu, ⟨t4, rfl, .inl (.inl (k_H6.same _ _ rfl q_H5))⟩, ⟨t, rfl, ?_⟩, rfl, ⟨[], ⟨e0, rfl, .inl (.inl (k36.same _ _ rfl q_H3))⟩, .nil⟩, _, ⟨tu, rfl, .inl (.inl ((k_H5.trans k_H6).same _ _ rfl q_H4))⟩, dp_ints ns⟩, trivial⟩
      · obtain ⟨z, _, rfl⟩ := List.mem_map.mp hd
        exact .int z
      · rw [(k_H3.trans k36).same _ _ rfl ht]
        show some (HO.tup [V.str "queue", V.str wy]) = some (HO.tup [V.str "queue", V.str (wayN (wayU wy))])
        rw [wayU_N hw]
    have fcl : cl ∉ footL L x.a x.s.n := SqL.not_foot (hL.kp (k1.trans (((k2.trans k_H3).trans k_H4).trans k_H5))).at_ ncl
    have oq := hL.ok.q (wayU wy)
    have hfit : FitsC x.c [.row (.q (wayU wy)) i [] (ns.map .int)] := by
      refine ⟨⟨key_q _ _, ?_, ?_⟩, trivial⟩
      · show i + 0 ≤ ((x.s.q (wayU wy)).map PyData.int).length
        rw [List.length_map]
        omega
      · show ((x.s.q (wayU wy)).map PyData.int).length + (ns.map PyData.int).length ≤ 10000
        rw [List.length_map, List.length_map]
        omega
    refine ⟨L, x.a, x.c, .ref D, dd, cl, [.ref t4], [.row (.q (wayU wy)) i [] (ns.map .int)], rfl, hL6.at_, kA.dp hdd, hnl, .inl (.inl q_H6), fcl, hch, hp, (by show 1 < 9000; decide), kA.tab _ hT, fun _ a' H' g => ?_, fun nf => absurd hfit nf⟩
    refine k c60 en0 a' H' (Went.pre kA (Went.of g ?_ (setq_ok hL.ok ?_)))
    · refine did_row (s' := insQ x.s (wayU wy) i ns) rfl fun y => ?_
      rw [insQ, setq_row]
      by_cases z : y = .q (wayU wy)
      · rw [if_pos z, if_pos z]
        show _ = ((x.s.q (wayU wy)).map PyData.int).take i ++ ns.map PyData.int ++ ((x.s.q (wayU wy)).map PyData.int).drop (i + 0)
        rw [List.map_append, List.map_append, List.map_take, List.map_drop, Nat.add_zero]
      · rw [if_neg z, if_neg z]
    · rw [List.length_append, List.length_append, List.length_take, List.length_drop]
      omega
/-- what a deed of signs answers -/
def sendV (s : PS) (wy : Str) (ns : List Int) : Option Str := if isWay wy = false then some "BadWay" else if ns.all isSg = false then some "BadSign" else if 60 < (s.q (wayU wy)).length + ns.length then some "Full" else none
def deedS (nm wy : Str) (ns : List Int) : PyData := .tuple (.str nm :: .str wy :: ns.map .int)
theorem deedS_nl (nm wy : Str) (ns : List Int) : Nl (deedS nm wy ns) := .tup fun d hd => by
  rcases List.mem_cons.mp hd with rfl | hd
  · exact .str _
  rcases List.mem_cons.mp hd with rfl | hd
  · exact .str _
  obtain ⟨z, _, rfl⟩ := List.mem_map.mp hd
  exact .int z
/-- behind signs that are sent or put ahead at place i -/
def sentL (x : LS) (a' : LA) (nm wy : Str) (i : Nat) (ns : List Int) : LS := ⟨a', insQ x.s (wayU wy) i ns, x.ws, x.past ++ [(deedS nm wy ns, [.row (.q (wayU wy)) i [] (ns.map .int)])], []⟩
def sp_sends (nm : Str) (ahead : Bool) (T : Txt K mg) (P : Program) (w : World) : Sp := fun vs H Q E => ∃ (L : Addr) (x : LS) (wy : Str) (sg : Addr) (ns : List Int), vs = [.ref L, .str wy, .ref sg] ∧ LineP P w K H L x ∧ SqL K H sg (ns.map V.int) ∧ sg ∉ x.foot L ∧ ns.length ≤ 1000 ∧ x.past.length < 9000 ∧ GxR.TabG H T.P_tab ∧ GxR.TabG H T.P_tabS ∧
  (∀ e, sendV x.s wy ns = some e → ∀ H', Kp H H' → E (.ref (He.ga K e)) none H') ∧
  (sendV x.s wy ns = none → ns = [] → ∀ H', Kp H H' → Q .non H') ∧
  (sendV x.s wy ns = none → ns ≠ [] → ∀ a' H', Went P w K H H' L x (sentL x a' nm wy (if ahead = true then 0 else (x.s.q (wayU wy)).length) ns) → Q .non H')
theorem ok_p_Line_send (T : Txt K mg) (TB : GxR.TabB base mg T.c_tab T.P_tab) (TBS : GxR.TabB base mg T.c_tabS T.P_tabS) : FnOk P w K mg base (L2.CX P w) 11 T.f_p_Line_send T.d_p_Line_send ["self", "way", "signs"] (sp_sends "send" false T P w) := by
  refine T.F_p_Line_send.okX sc_p_Line_send (fun vs H Q E h => ?_) (fun cdv A outer s H vs Q E hr h => ?_)
  · obtain ⟨L, x, wy, sg, ns, rfl, _⟩ := h
    rfl
  · obtain ⟨L, x, wy, sg, ns, rfl, hL, hsg, nsg, hnl, hp, hT, hTS, kE, kN, k⟩ := h
    refine ⟨_, (pss_cons (ps_set (i := 3) sc_p_Line_send.nd rfl (by first | exact Or.inl rfl | exact Or.inr rfl) (pe_callB call_len_seq (by rfl) T.m_len PySem.boot_len (pa_cons (pe_meth (pv 0) T.cl_Line T.M_p_Line_waiting (ok_p_Line_waiting T) (hr.mono (by decide)) T.b_p_Line_waiting .nil (passes_call (takes_of rfl rfl rfl rfl) (fun _ _ _ _ z => z)) (pa_cons (pv 1) pa_nil)) pa_nil)))
      (pss_cons (ps_expr (pe_call (ok_p_check_signs T TBS) (hr.mono (by decide)) rfl T.g_p_check_signs T.F_p_check_signs.kp T.b_p_check_signs .nil (passes_call (takes_of rfl rfl rfl rfl) (fun _ _ _ _ z => z)) (pa_cons (pv 2) pa_nil)))
      (pss_one (ps_expr (pe_meth (pv 0) T.cl_Line T.M_p_Line_let_wait (ok_p_Line_let_wait T TB) (hr.mono (by decide)) T.b_p_Line_let_wait .nil (passes_call (takes_of rfl rfl rfl rfl) (fun _ _ _ _ z => z)) (pa_cons (pe_tup (pa_cons pe_str (pa_cons (pv 1) (StX.pa_star (pv 2) pa_nil)))) (pa_cons (pv 3) (pa_cons (pv 2) pa_nil)))))))), ?_⟩
    obtain ⟨dx, hl⟩ := hL.at_.ob
    refine ⟨_, rfl, L, dx, _, rfl, hl, fldL_no _ _ _ (by decide +kernel) (by decide +kernel) (by decide +kernel), _, rfl, L, x, wy, rfl, hL, fun hw r H1 nr k1 hr1 => ?_, fun c H1 k1 => kE "BadWay" (if_pos c) H1 k1⟩
    have v1 : sendV x.s wy ns = if ns.all isSg = false then some ("BadSign" : Str) else if 60 < (x.s.q (wayU wy)).length + ns.length then some ("Full" : Str) else none := if_neg (by rw [hw]; decide)
    refine ⟨r, _, rfl, .inl (SqL.of hr1), ?_⟩
    refine ⟨_, rfl, sg, ns, rfl, k1.sqL hsg, k1.tab _ hTS, fun ha H2 k2 => ?_, fun ha H2 k2 => kE "BadSign" (by rw [v1, if_pos ha]) H2 (k1.trans k2)⟩
    rw [if_neg (by rw [ha]; decide)] at v1
    have k12 := k1.trans k2
    have hL2 := hL.kp k12
    obtain ⟨dx2, hl2⟩ := hL2.at_.ob
    have hsg2 := k12.sqL hsg
    refine ⟨_, rfl, L, dx2, _, rfl, hl2, fldL_no _ _ _ (by decide +kernel) (by decide +kernel) (by decide +kernel), _, rfl, _, rfl, sg, _, rfl, .inr hsg2, szl (by show ((ns.map V.int ++ []).length + 1) + 1 ≤ 100000; rw [List.append_nil, List.length_map]; omega), fun D nD => ?_⟩
    generalize h_H3 : upd H2 D _ = H3
    have k_H3 : Kp H2 H3 := by rw [← h_H3]; exact .new nD
    have q_H3 := (congrFun h_H3 D).symm.trans upd_same
    clear h_H3
    rw [List.append_nil] at q_H3
    have k13 := k12.trans k_H3
    have el : (((x.s.q (wayU wy)).map V.int).length : Int) = ((x.s.q (wayU wy)).length : Int) := by rw [List.length_map]
    refine ⟨_, rfl, _, rfl, L, x, D, "send", wy, ns.map V.int, deedS "send" wy ns, (x.s.q (wayU wy)).length, sg, ns, (by rw [el]; rfl), hL.kp k13, .inl (.inl q_H3), .tup (.inl (.inl q_H3)) (.cons (.str _) (.cons (.str _) (dp_ints ns))), deedS_nl _ _ _, hw, k13.sqL hsg, nsg, hnl, Nat.le_refl _, hp, k13.tab _ hT, fun c H4 k4 => ?_, fun c e H4 k4 => ?_, fun c e a' H4 g => ?_⟩
    · rw [if_pos c] at v1
      exact kE "Full" v1 H4 (k13.trans k4)
    · rw [if_neg c] at v1
      exact kN v1 e H4 (k13.trans k4)
    · rw [if_neg c] at v1
      exact k v1 e a' H4 (Went.pre k13 g)
theorem ok_p_Line_express (T : Txt K mg) (TB : GxR.TabB base mg T.c_tab T.P_tab) (TBS : GxR.TabB base mg T.c_tabS T.P_tabS) : FnOk P w K mg base (L2.CX P w) 11 T.f_p_Line_express T.d_p_Line_express ["self", "way", "signs"] (sp_sends "express" true T P w) := by
  refine T.F_p_Line_express.okX sc_p_Line_express (fun vs H Q E h => ?_) (fun cdv A outer s H vs Q E hr h => ?_)
  · obtain ⟨L, x, wy, sg, ns, rfl, _⟩ := h
    rfl
  · obtain ⟨L, x, wy, sg, ns, rfl, hL, hsg, nsg, hnl, hp, hT, hTS, kE, kN, k⟩ := h
    refine ⟨_, (pss_cons (ps_expr (pe_call (ok_p_check_way T) (hr.mono (by decide)) rfl T.g_p_check_way T.F_p_check_way.kp T.b_p_check_way .nil (passes_call (takes_of rfl rfl rfl rfl) (fun _ _ _ _ z => z)) (pa_cons (pv 1) pa_nil)))
      (pss_cons (ps_expr (pe_call (ok_p_check_signs T TBS) (hr.mono (by decide)) rfl T.g_p_check_signs T.F_p_check_signs.kp T.b_p_check_signs .nil (passes_call (takes_of rfl rfl rfl rfl) (fun _ _ _ _ z => z)) (pa_cons (pv 2) pa_nil)))
      (pss_one (ps_expr (pe_meth (pv 0) T.cl_Line T.M_p_Line_let_wait (ok_p_Line_let_wait T TB) (hr.mono (by decide)) T.b_p_Line_let_wait .nil (passes_call (takes_of rfl rfl rfl rfl) (fun _ _ _ _ z => z)) (pa_cons (pe_tup (pa_cons pe_str (pa_cons (pv 1) (StX.pa_star (pv 2) pa_nil)))) (pa_cons pe_int (pa_cons (pv 2) pa_nil)))))))), ?_⟩
    obtain ⟨dx, hl⟩ := hL.at_.ob
    refine ⟨_, rfl, wy, rfl, fun hw H1 k1 => ?_, fun c H1 k1 => kE "BadWay" (if_pos c) H1 k1⟩
    have v1 : sendV x.s wy ns = if ns.all isSg = false then some ("BadSign" : Str) else if 60 < (x.s.q (wayU wy)).length + ns.length then some ("Full" : Str) else none := if_neg (by rw [hw]; decide)
    refine ⟨_, rfl, sg, ns, rfl, k1.sqL hsg, k1.tab _ hTS, fun ha H2 k2 => ?_, fun ha H2 k2 => kE "BadSign" (by rw [v1, if_pos ha]) H2 (k1.trans k2)⟩
    rw [if_neg (by rw [ha]; decide)] at v1
    have k12 := k1.trans k2
    have hL2 := hL.kp k12
    obtain ⟨dx2, hl2⟩ := hL2.at_.ob
    have hsg2 := k12.sqL hsg
    refine ⟨_, rfl, L, dx2, _, rfl, hl2, fldL_no _ _ _ (by decide +kernel) (by decide +kernel) (by decide +kernel), _, rfl, _, rfl, sg, _, rfl, .inr hsg2, szl (by show ((ns.map V.int ++ []).length + 1) + 1 ≤ 100000; rw [List.append_nil, List.length_map]; omega), fun D nD => ?_⟩
    generalize h_H3 : upd H2 D _ = H3
    have k_H3 : Kp H2 H3 := by rw [← h_H3]; exact .new nD
    have q_H3 := (congrFun h_H3 D).symm.trans upd_same
    clear h_H3
    rw [List.append_nil] at q_H3
    have k13 := k12.trans k_H3
    refine ⟨_, rfl, L, x, D, "express", wy, ns.map V.int, deedS "express" wy ns, 0, sg, ns, rfl, hL.kp k13, .inl (.inl q_H3), .tup (.inl (.inl q_H3)) (.cons (.str _) (.cons (.str _) (dp_ints ns))), deedS_nl _ _ _, hw, k13.sqL hsg, nsg, hnl, Nat.zero_le _, hp, k13.tab _ hT, fun c H4 k4 => ?_, fun c e H4 k4 => ?_, fun c e a' H4 g => ?_⟩
    · rw [if_pos c] at v1
      exact kE "Full" v1 H4 (k13.trans k4)
    · rw [if_neg c] at v1
      exact kN v1 e H4 (k13.trans k4)
    · rw [if_neg c] at v1
      exact k v1 e a' H4 (Went.pre k13 g)
/-! #### the last one recalled -/
def deedR (wy : Str) : PyData := .tuple [.str "recall", .str wy]
def recalledL (x : LS) (a' : LA) (wy : Str) : LS := ⟨a', x.s.setq (wayU wy) (x.s.q (wayU wy)).dropLast, x.ws, x.past ++ [(deedR wy, [.row (.q (wayU wy)) ((x.s.q (wayU wy)).length - 1) [.int ((x.s.q (wayU wy)).getLast?.getD 0)] []])], []⟩
def sp_p_Line_recall (T : Txt K mg) (P : Program) (w : World) : Sp := fun vs H Q E => ∃ (L : Addr) (x : LS) (wy : Str), vs = [.ref L, .str wy] ∧ LineP P w K H L x ∧ x.past.length < 9000 ∧ GxR.TabG H T.P_tab ∧
  (isWay wy = false → ∀ H', Kp H H' → E (.ref (He.ga K "BadWay")) none H') ∧
  (isWay wy = true → x.s.q (wayU wy) = [] → ∀ H', Kp H H' → E (.ref (He.ga K "NothingWaits")) none H') ∧
  (isWay wy = true → x.s.q (wayU wy) ≠ [] → ∀ a' H', Went P w K H H' L x (recalledL x a' wy) → Q (.int ((x.s.q (wayU wy)).getLast?.getD 0)) H')
theorem ok_p_Line_recall (T : Txt K mg) (TB : GxR.TabB base mg T.c_tab T.P_tab) : FnOk P w K mg base (L2.CX P w) 10 T.f_p_Line_recall T.d_p_Line_recall ["self", "way"] (sp_p_Line_recall T P w) := by
  refine T.F_p_Line_recall.okX sc_p_Line_recall (fun vs H Q E h => ?_) (fun cdv A outer s H vs Q E hr h => ?_)
  · obtain ⟨L, x, wy, rfl, _⟩ := h
    rfl
  · obtain ⟨L, x, wy, rfl, hL, hp, hT, kW, kN, k⟩ := h
    refine ⟨_, (pss_cons (ps_set (i := 2) sc_p_Line_recall.nd rfl (by first | exact Or.inl rfl | exact Or.inr rfl) (pe_meth (pv 0) T.cl_Line T.M_p_Line_waiting (ok_p_Line_waiting T) (hr.mono (by decide)) T.b_p_Line_waiting .nil (passes_call (takes_of rfl rfl rfl rfl) (fun _ _ _ _ z => z)) (pa_cons (pv 1) pa_nil)))
      (pss_cons (ps_if (pt_not (pt_truth (pv 2) (by intro _; rfl)))
      (pss_one (ps_raise rfl (takes_of rfl rfl rfl rfl) (pmk_own PySem.F.excBase_ValueError T.x_NothingWaits T.g_NothingWaits T.k_NothingWaits (raises_own T.b_NothingWaits T.t_NothingWaits) rfl)))
      pss_nil)
      (pss_cons (ps_set (i := 3) sc_p_Line_recall.nd rfl (by first | exact Or.inl rfl | exact Or.inr rfl) (pe_bm0 PySem.F.plainAttrs_list PySem.F.slot_list_pop PySem.F.type_list_pop mt_pop (pv 2)))
      (pss_cons (ps_expr (pe_meth (pv 0) T.cl_Line T.M_p_Line_do (ok_p_Line_do T TB) (hr.mono (by decide)) T.b_p_Line_do .nil (passes_call (takes_of rfl rfl rfl rfl) (fun _ _ _ _ z => z)) (pa_cons (pe_tup (pa_cons pe_str (pa_cons (pv 1) pa_nil))) (pa_cons (pe_lst (pa_cons (pe_tup (pa_cons (pe_call (ok_p_queue_of T) (hr.mono (by decide)) rfl T.g_p_queue_of T.F_p_queue_of.kp T.b_p_queue_of .nil pass0 (pa_cons (pv 1) pa_nil)) (pa_cons (pe_callB call_len_seq (by rfl) T.m_len PySem.boot_len (pa_cons (pv 2) pa_nil)) (pa_cons (pe_tup (pa_cons (pv 3) pa_nil)) (pa_cons (pe_tup pa_nil) pa_nil))))) pa_nil)) pa_nil))))
      (pss_one (ps_ret (pv 3))))))), ?_⟩
    obtain ⟨dx, hl⟩ := hL.at_.ob
    refine ⟨_, rfl, L, dx, _, rfl, hl, fldL_no _ _ _ (by decide +kernel) (by decide +kernel) (by decide +kernel), _, rfl, L, x, wy, rfl, hL, fun hw r H1 nr k1 hr1 => ?_, fun c H1 k1 => kW c H1 k1⟩
    refine ⟨_, rfl, !((x.s.q (wayU wy)).map V.int).isEmpty, .inl ⟨_, SqL.of hr1, rfl⟩, ?_⟩
    by_cases c : x.s.q (wayU wy) = []
    · rw [c]
      exact iteTo rfl (kN hw c H1 k1)
    obtain ⟨qs, z, eq⟩ : ∃ qs z, x.s.q (wayU wy) = qs ++ [z] := ⟨_, _, (List.dropLast_concat_getLast c).symm⟩
    have ez : (x.s.q (wayU wy)).getLast?.getD 0 = z := by rw [eq, List.getLast?_concat]; rfl
    have ed : (x.s.q (wayU wy)).dropLast = qs := by rw [eq, List.dropLast_concat]
    have elq : (x.s.q (wayU wy)).length - 1 = qs.length := by rw [eq, List.length_append]; rfl
    have hr1' : H1 r = some (.lst (qs.map V.int ++ [.int z])) := by rw [hr1, eq, List.map_append]; rfl
    have k := k hw c
    unfold recalledL at k
    rw [ez, ed, elq] at k
    refine iteFo (by rw [eq, List.map_append]; cases qs <;> rfl) ?_
    refine ⟨_, rfl, .inl ⟨rfl, _, SqL.of hr1'⟩, r, qs.map V.int ++ [.int z], .int z, rfl, rfl, hr1', by simp, ?_⟩
    rw [List.dropLast_concat]
    have kr : Kp H (upd H1 r (.lst (qs.map V.int))) := k1.mut nr
    have qr : upd H1 r (.lst (qs.map V.int)) r = some (.lst (qs.map V.int)) := upd_same
    generalize upd H1 r (.lst (qs.map V.int)) = H2 at kr qr ⊢
    have hL2 := hL.kp kr
    obtain ⟨dx2, hl2⟩ := hL2.at_.ob
    refine ⟨_, rfl, L, dx2, _, rfl, hl2, fldL_no _ _ _ (by decide +kernel) (by decide +kernel) (by decide +kernel), _, rfl, szl (by show 2 ≤ 100000; decide), fun D nD => ?_⟩
    generalize h_H3 : upd H2 D _ = H3
    have k_H3 : Kp H2 H3 := by rw [← h_H3]; exact .new nD
    have q_H3 := (congrFun h_H3 D).symm.trans upd_same
    clear h_H3
    refine ⟨_, rfl, wy, rfl, fun t H4 nt k4 ht => ?_⟩
    have qr4 := k4.same _ _ rfl (k_H3.same _ _ rfl qr)
    refine ⟨_, rfl, r, _, rfl, .inl (SqL.of qr4), _, rfl, szl (by show 1 ≤ 100000; decide), fun t1 nt1 => ?_⟩
    generalize h_H5 : upd H4 t1 _ = H5
    have k_H5 : Kp H4 H5 := by rw [← h_H5]; exact .new nt1
    have q_H5 := (congrFun h_H5 t1).symm.trans upd_same
    clear h_H5
    refine ⟨Nat.zero_le _, fun e0 ne0 => ?_⟩
    generalize h_H6 : upd H5 e0 _ = H6
    have k_H6 : Kp H5 H6 := by rw [← h_H6]; exact .new ne0
    have q_H6 := (congrFun h_H6 e0).symm.trans upd_same
    clear h_H6
    refine ⟨szl (by show 4 ≤ 100000; decide), fun t4 nt4 => ?_⟩
    generalize h_H7 : upd H6 t4 _ = H7
    have k_H7 : Kp H6 H7 := by rw [← h_H7]; exact .new nt4
    have q_H7 := (congrFun h_H7 t4).symm.trans upd_same
    clear h_H7
    refine ⟨szl (by show 1 ≤ 100000; decide), fun cl ncl => ?_⟩
    generalize h_H8 : upd H7 cl _ = H8
    have k_H8 : Kp H7 H8 := by rw [← h_H8]; exact .new ncl
    have q_H8 := (congrFun h_H8 cl).symm.trans upd_same
    clear h_H8
    have k48 := ((k_H5.trans k_H6).trans k_H7).trans k_H8
    have k28 := (k_H3.trans k4).trans k48
    have kA := kr.trans k28
    have hL8 := hL.kp kA
    have el : (((qs.map V.int).length : Nat) : Int) = ((qs.length : Nat) : Int) := by rw [List.length_map]
    have hch : ChsAt K H8 [.ref t4] [.row (.q (wayU wy)) qs.length [.int z] []] := by
      refine ⟨⟨⟨fun d hd => ?_, by simp⟩, .ref t, .int ((qs.length : Nat) : Int), .ref t1, .ref e0, ⟨t4, rfl, .inl (.inl ?_)⟩, ⟨t, rfl, ?_⟩, rfl, ⟨_, ⟨t1, rfl, .inl (.inl (((k_H6.trans k_H7).trans k_H8).same _ _ rfl q_H5))⟩, .cons (.int _) .nil⟩, _, ⟨e0, rfl, .inl (.inl ((k_H7.trans k_H8).same _ _ rfl q_H6))⟩, .nil⟩, trivial⟩
      · rw [List.mem_singleton.mp hd]
        exact .int z
      · rw [← el]
        exact k_H8.same _ _ rfl q_H7
      · rw [k48.same _ _ rfl ht]
        show some (HO.tup [V.str "queue", V.str wy]) = some (HO.tup [V.str "queue", V.str (wayN (wayU wy))])
        rw [wayU_N hw]
    have fcl : cl ∉ footL L x.a x.s.n := SqL.not_foot (hL.kp (kr.trans (((k_H3.trans k4).trans ((k_H5.trans k_H6).trans k_H7))))).at_ ncl
    have hfit : FitsC x.c [.row (.q (wayU wy)) qs.length [.int z] []] := by
      refine ⟨⟨key_q _ _, ?_, ?_⟩, trivial⟩
      · show qs.length + 1 ≤ ((x.s.q (wayU wy)).map PyData.int).length
        rw [List.length_map, eq, List.length_append]
        exact Nat.le_refl _
      · show ((x.s.q (wayU wy)).map PyData.int).length + 0 ≤ 10000
        have := hL.ok.q (wayU wy)
        rw [List.length_map]
        omega
    refine ⟨L, x.a, x.c, .ref D, deedR wy, cl, [.ref t4], [.row (.q (wayU wy)) qs.length [.int z] []], rfl, hL8.at_, .tup (.inl (.inl ((k4.trans k48).same _ _ rfl q_H3))) (.cons (.str _) (.cons (.str _) .nil)), .tup (fun d hd => ?_), .inl (.inl q_H8), fcl, hch, hp, (by show 1 < 9000; decide), kA.tab _ hT, fun _ a' H' g => ?_, fun nf => absurd hfit nf⟩
    · simp only [List.mem_cons, List.not_mem_nil, or_false] at hd
      rcases hd with rfl | rfl
      · exact .str _
      · exact .str _
    refine ⟨_, rfl, ?_⟩
    refine k a' H' (Went.pre kA (Went.of g ?_ (setq_ok hL.ok ?_)))
    · refine did_row (s' := x.s.setq (wayU wy) qs) rfl fun y => ?_
      rw [setq_row]
      by_cases z' : y = .q (wayU wy)
      · rw [if_pos z', if_pos z']
        show _ = ((x.s.q (wayU wy)).map PyData.int).take qs.length ++ [] ++ ((x.s.q (wayU wy)).map PyData.int).drop (qs.length + 1)
        rw [eq, List.map_append, List.append_nil, ← List.length_map (as := qs) PyData.int, List.take_left, List.drop_eq_nil_of_le (by simp), List.append_nil]
      · rw [if_neg z', if_neg z']
    · have := hL.ok.q (wayU wy)
      rw [eq, List.length_append] at this
      omega
/-! ### a list of one's own changes, beside a line -/
theorem KpE.mut {S : List Addr} {H H' : Hp} {p : Addr} {o : HO} (e : KpE S H H') (h : H p = none) : KpE S H (upd H' p o) := by
  refine ⟨fun a u t n ha => ?_, fun a ⟨ps, ha, ht⟩ => ?_, fun a ha => ?_⟩
  · rw [upd_ne (ne_of_none ha h)]
    exact e.same a u t n ha
  · obtain ⟨ps', h1, h2⟩ := e.tab a ⟨ps, ha, ht⟩
    exact ⟨ps', by rw [upd_ne (ne_of_none ha h)]; exact h1, h2⟩
  · by_cases q : a = p
    · rw [q]
      exact h
    · rw [upd_ne q] at ha
      exact e.free a ha
theorem LineP.putL {P : Program} {w : World} {K : PySem.W.Frag} {H : Hp} {L : Addr} {x : LS} (l : LineP P w K H L x) {y : Addr} {vs : List V} {o : HO} (hy : H y = some (.lst vs)) (n : y ∉ x.foot L) : LineP P w K (upd H y o) L x := by
  have nS : ∀ {u : HO} {z : Addr}, H z = some u → (∀ g, u ≠ .lst g) → z ∉ [y] := fun {u z} hz hu m => by
    rw [List.mem_singleton.mp m, hy] at hz
    cases hz
    exact hu _ rfl
  obtain ⟨dx, h1⟩ := l.at_.st.ob
  obtain ⟨ky, h2, _⟩ := l.at_.st.rows.ob
  obtain ⟨dx2, h3⟩ := l.at_.st.book.ob
  exact ⟨l.at_.kpE (KpE.put hy rfl List.mem_cons_self) (loose1 hy trivial) (fun b hb m => n (by rw [← List.mem_singleton.mp m]; exact hb)) (nS h1 (by intro g z; cases z)) (nS h2 (by intro g z; cases z)) (nS h3 (by intro g z; cases z)), l.ok⟩
theorem Went.putL {P : Program} {w : World} {K : PySem.W.Frag} {G H : Hp} {L : Addr} {x x' : LS} (g : Went P w K G H L x x') {y : Addr} {vs : List V} {o : HO} (hy : H y = some (.lst vs)) (n : y ∉ x'.foot L) (f : G y = none) : Went P w K G (upd H y o) L x x' :=
  ⟨g.e.mut f, g.ft, g.nn, g.at_.putL hy n⟩
theorem Went.off {P : Program} {w : World} {K : PySem.W.Frag} {G H : Hp} {L : Addr} {x x' : LS} (g : Went P w K G H L x x') {y : Addr} (h : G y ≠ none) (n : y ∉ x.foot L) : y ∉ x'.foot L := fun m => (g.ft y m).elim n h
theorem Went.tup {P : Program} {w : World} {K : PySem.W.Frag} {G H : Hp} {L : Addr} {x x' : LS} (g : Went P w K G H L x x') (l : LineP P w K G L x) {y : Addr} {vs : List V} (h : G y = some (.tup vs)) : H y = some (.tup vs) := g.e.same _ _ rfl (fun m => l.at_.loose y m _ h) h
theorem LineP.foot_none {P : Program} {w : World} {K : PySem.W.Frag} {H : Hp} {L : Addr} {x : LS} (l : LineP P w K H L x) {b : Addr} (h : H b = none) : b ∉ x.foot L := fun m => l.at_.alloc b m h
/-- objects that are no part of a line may change -/
theorem LineP.kpX {P : Program} {w : World} {K : PySem.W.Frag} {X : List Addr} {H H' : Hp} {L : Addr} {x : LS} (l : LineP P w K H L x) (e : KpE X H H') (ob : ∀ b ∈ X, (∃ g, H b = some (.lst g)) ∨ (∃ g, H b = some (.dK g)) ∨ (∃ g, H b = some (.dT g)) ∨ H b = none) (dj : ∀ b ∈ X, b ∉ x.foot L) : LineP P w K H' L x := by
  have lo : ∀ b ∈ X, ∀ u, H b = some u → Loose u := fun b hb u hu => by
    rcases ob b hb with ⟨g, h⟩ | ⟨g, h⟩ | ⟨g, h⟩ | h <;> rw [h] at hu <;> cases hu <;> trivial
  have nO : ∀ {z : Addr} {u : HO}, H z = some u → (∀ g, u ≠ .lst g) → (∀ g, u ≠ .dK g) → (∀ g, u ≠ .dT g) → z ∉ X := fun {z u} hz h1 h2 h3 m => by
    rcases ob z m with ⟨g, h⟩ | ⟨g, h⟩ | ⟨g, h⟩ | h
    · rw [h] at hz; exact h1 g (Option.some.inj hz).symm
    · rw [h] at hz; exact h2 g (Option.some.inj hz).symm
    · rw [h] at hz; exact h3 g (Option.some.inj hz).symm
    · rw [h] at hz; cases hz
  obtain ⟨dx, h1⟩ := l.at_.st.ob
  obtain ⟨ky, h2, _⟩ := l.at_.st.rows.ob
  obtain ⟨dx2, h3⟩ := l.at_.st.book.ob
  exact ⟨l.at_.kpE e lo (fun b hb m => dj b m hb) (nO h1 (by intro g z; cases z) (by intro g z; cases z) (by intro g z; cases z)) (nO h2 (by intro g z; cases z) (by intro g z; cases z) (by intro g z; cases z)) (nO h3 (by intro g z; cases z) (by intro g z; cases z) (by intro g z; cases z)), l.ok⟩
/-- a new line -/
def newL (a : LA) (n : Nat) : LS := ⟨a, newP n, [], [], []⟩
theorem new_line {P : Program} {w : World} {K : PySem.W.Frag} {H : Hp} {L : Addr} {a : LA} {n : Nat} (h : LineAt P w K H L a (newC n)) (h1 : 2 ≤ n) (h2 : n ≤ 12) : LineP P w K H L (newL a n) :=
  ⟨by
    have e : (newL a n).c = newC n := by
      show (⟨n, (newP n).row, [], [], []⟩ : LC) = ⟨n, newRow n, [], [], []⟩
      rw [newP_row]
    rw [e]
    exact h, newP_ok h1 h2⟩
/-! ### data of few levels can be compared -/
theorem lay_all {ds : List PyData} (h : ∀ d ∈ ds, PyData.canLay0 d = true) : PyData.canLayAll0 ds = true := by
  induction ds with
  | nil => simp [PyData.canLayAll0]
  | cons d r ih => simp [PyData.canLayAll0, h d List.mem_cons_self, ih fun x hx => h x (List.mem_cons_of_mem _ hx)]
theorem dep_all {ds : List PyData} {n : Nat} (h : ∀ d ∈ ds, PyData.depth d ≤ n) : PyData.depthAll ds ≤ n := by
  induction ds with
  | nil => simp [PyData.depthAll]
  | cons d r ih =>
    have h1 := h d List.mem_cons_self
    have h2 := ih fun x hx => h x (List.mem_cons_of_mem _ hx)
    simp only [PyData.depthAll]
    omega
/-- the same without texts -/
inductive Dm : Nat → PyData → Prop
  | non (n : Nat) : Dm (n + 1) .none
  | bl (n : Nat) (b : Bool) : Dm (n + 1) (.bool b)
  | int (n : Nat) (i : Int) : Dm (n + 1) (.int i)
  | lst {n : Nat} {ds : List PyData} : (∀ d ∈ ds, Dm n d) → ds.length ≤ 10000 → Dm (n + 1) (.list ds)
  | tup {n : Nat} {ds : List PyData} : (∀ d ∈ ds, Dm n d) → ds.length ≤ 10000 → Dm (n + 1) (.tuple ds)
theorem Dm.dn {n : Nat} {d : PyData} (h : Dm n d) : Dn n d := by
  induction h with
  | non n => exact .non _
  | bl n b => exact .bl _ _
  | int n i => exact .int _ _
  | lst h1 h2 ih => exact .lst ih h2
  | tup h1 h2 ih => exact .tup ih h2
theorem Dm.lay {n : Nat} {d : PyData} (h : Dm n d) : PyData.canLay0 d = true ∧ PyData.depth d ≤ n := by
  induction h with
  | non n => exact ⟨by simp [PyData.canLay0], by simp [PyData.depth]⟩
  | bl n b => exact ⟨by simp [PyData.canLay0], by simp [PyData.depth]⟩
  | int n i => exact ⟨by simp [PyData.canLay0], by simp [PyData.depth]⟩
  | lst h1 h2 ih =>
    refine ⟨by simp only [PyData.canLay0]; exact lay_all fun d hd => (ih d hd).1, ?_⟩
    have := dep_all fun d hd => (ih d hd).2
    simp only [PyData.depth]
    omega
  | tup h1 h2 ih =>
    refine ⟨by simp only [PyData.canLay0]; exact lay_all fun d hd => (ih d hd).1, ?_⟩
    have := dep_all fun d hd => (ih d hd).2
    simp only [PyData.depth]
    omega
theorem Dm.shaped {n : Nat} {d : PyData} (h : Dm n d) (hn : n ≤ 64) : SeqAt.shaped d = true := by
  have ⟨h1, h2⟩ := h.lay
  show (PyData.canLay0 d && decide (PyData.depth d ≤ 64)) = true
  rw [h1, decide_eq_true (by omega)]
  rfl
theorem Dm.same {n : Nat} {d : PyData} (h : Dm n d) (hn : n ≤ 64) : PyData.eqv d d = true := SeqAt.eqv_refl _ (SeqAt.canLay_of_shaped (h.shaped hn))
theorem dm_dI {n : Nat} {ns : List Int} (h : ns.length ≤ 10000) : Dm (n + 2) (dI ns) := .lst (fun d hd => by obtain ⟨z, _, rfl⟩ := List.mem_map.mp hd; exact .int _ _) (by rw [List.length_map]; exact h)
/-! ### the kind of a refusal, of twenty-three -/
def KN : List Str := ["BadWay", "BadSign", "Full", "NothingWaits", "NoMast", "NotReady", "NotRaising", "BadSlip", "Asleep", "Awake", "Fogged", "Clear", "Busy", "NoRow", "NoBook", "Lost", "Legible", "NothingLeft", "BadPlace", "BadWord", "Taken", "Known", "NoWord"]
def kn (i : Nat) : Str := KN.getD i ""
theorem kn_dec : ∀ i, i < 23 → ∀ j, j < 23 → decide (kn i = kn j) = decide (i = j) := by decide +kernel
theorem kn_exc : ∀ i, i < 23 → kn i ∈ factsL.exc := by decide +kernel
theorem kn_kind : ∀ i, i < 23 → kn i ∈ factsL.kind := by decide +kernel
theorem TopB.excM {F : FactsB} {fn : List He.DefD} {K : PySem.W.Frag} {mg : Str → Option Value} (T : TopB F fn K mg) {x : Str} (h : x ∈ F.exc) : ExcT K mg x := by
  obtain ⟨i, hi, e⟩ := List.getElem_of_mem h
  exact TopB.exc T i (by rw [List.getElem?_eq_getElem hi, e])
theorem kind_exc (T : Txt K mg) {i : Nat} (hi : i < 23) : ExcC K (He.ga K (kn i)) := by
  have e := TopB.excM T (kn_exc i hi)
  exact ⟨e.ga, e.gg, e.b, e.h, e.cl, T.oc_get, T.oc_tak, e.mo⟩
theorem kind_sub (T : Txt K mg) {i j : Nat} (hi : i < 23) (hj : j < 23) : PySem.W.subIn K (.ref (He.ga K (kn i))) (.ref (He.ga K (kn j))) = some (decide (i = j)) := by
  have e := kindB_ok (TopB.kinds T) (kn_kind i hi) (kn_kind j hj)
  rw [kn_dec i hi j hj] at e
  exact e
theorem kind_kit (T : Txt K mg) {i : Nat} (hi : i < 23) (j : Nat) (hj : j < 23) : PySem.W.kitOne K (.ref (He.ga K (kn i))) (.ref (He.ga K (kn j))) = some (decide (i = j)) := by
  have ej := TopB.excM T (kn_exc j hj)
  have h := kind_sub T hi hj
  have hs := kind_sub T hi hi
  rw [decide_eq_true rfl] at hs
  by_cases z : i = j
  · rw [decide_eq_true z] at h ⊢
    exact kit_sub ej.i ej.t h
  · rw [decide_eq_false z] at h ⊢
    exact kit_not ej.i ej.t h hs
theorem kind_mast (T : Txt K mg) {i : Nat} (hi : i < 23) : PySem.W.exmOne K (.ref (He.ga K (kn i))) (.ref T.a_MastError) = some true :=
  PySem.W.exm_ref T.b_MastError T.h_MastError T.t_MastError (TopB.excM T (kn_exc i hi)).s
/-- which it is, as the law's list has it -/
def kbs (i : Nat) : List V := (List.range 23).map fun j => V.bl (decide (i = j))
theorem kbs_one : ∀ i, i < 23 → (kbs i).countP (fun z => eqV z (.bl true)) = 1 := by decide +kernel
theorem kbs_flat (i : Nat) : (kbs i).all flatV = true := by
  unfold kbs
  rw [List.all_map]
  exact List.all_eq_true.mpr fun _ _ => rfl
theorem kbs_at {i j : Nat} (hj : j < 23) : (kbs i)[j]? = some (.bl (decide (i = j))) := by
  unfold kbs
  rw [List.getElem?_map, List.getElem?_range hj]
  rfl
theorem kn_at {i : Nat} (hi : i < 23) : atI (KN.map V.str) ((i : Nat) : Int) = some (.str (kn i)) :=
  atI_nat (by
    have h : i < KN.length := hi
    unfold kn
    rw [List.getElem?_map, List.getD_eq_getElem?_getD, List.getElem?_eq_getElem h]
    rfl)
def sp_l_kind (K : PySem.W.Frag) : SpE := fun a c d vs H Q _ => ∃ i : Nat, vs = [.ref a] ∧ i < 23 ∧ c = .ref (He.ga K (kn i)) ∧ d = none ∧ ∀ H', Kp H H' → Q (.str (kn i)) H'
theorem ok_l_kind (T : Txt K mg) : FnE P w K mg base 1 T.f_l_kind T.d_l_kind ["_law_e"] (sp_l_kind K) := by
  refine Fun.okE T.F_l_kind sc_l_kind (fun a c d vs H Q E h => ?_) (fun cdv A outer s H vs Q E a oe c d hz hf hr h => ?_)
  · obtain ⟨i, rfl, _⟩ := h
    rfl
  · obtain ⟨i, rfl, hi, rfl, rfl, k⟩ := h
    refine ⟨_, (pss_cons (ps_set (i := 1) sc_l_kind.nd rfl (by first | exact Or.inl rfl | exact Or.inr rfl) (pe_lst (pa_cons (pe_callB (call_isP K rfl List.mem_cons_self hz hf) (by rfl) T.m_isinstance (by decide +kernel) (pa_cons (pv 0) (pa_cons (pe_glob (v := .ref T.a_BadWay) rfl T.g_BadWay rfl) pa_nil))) (pa_cons (pe_callB (call_isP K rfl List.mem_cons_self hz hf) (by rfl) T.m_isinstance (by decide +kernel) (pa_cons (pv 0) (pa_cons (pe_glob (v := .ref T.a_BadSign) rfl T.g_BadSign rfl) pa_nil))) (pa_cons (pe_callB (call_isP K rfl List.mem_cons_self hz hf) (by rfl) T.m_isinstance (by decide +kernel) (pa_cons (pv 0) (pa_cons (pe_glob (v := .ref T.a_Full) rfl T.g_Full rfl) pa_nil))) (pa_cons (pe_callB (call_isP K rfl List.mem_cons_self hz hf) (by rfl) T.m_isinstance (by decide +kernel) (pa_cons (pv 0) (pa_cons (pe_glob (v := .ref T.a_NothingWaits) rfl T.g_NothingWaits rfl) pa_nil))) pa_nil))))))
      (pss_cons (ps_set (i := 1) sc_l_kind.nd rfl (by first | exact Or.inl rfl | exact Or.inr rfl) (pe_op op_cat (pv 1) (pe_lst (pa_cons (pe_callB (call_isP K rfl List.mem_cons_self hz hf) (by rfl) T.m_isinstance (by decide +kernel) (pa_cons (pv 0) (pa_cons (pe_glob (v := .ref T.a_NoMast) rfl T.g_NoMast rfl) pa_nil))) (pa_cons (pe_callB (call_isP K rfl List.mem_cons_self hz hf) (by rfl) T.m_isinstance (by decide +kernel) (pa_cons (pv 0) (pa_cons (pe_glob (v := .ref T.a_NotReady) rfl T.g_NotReady rfl) pa_nil))) (pa_cons (pe_callB (call_isP K rfl List.mem_cons_self hz hf) (by rfl) T.m_isinstance (by decide +kernel) (pa_cons (pv 0) (pa_cons (pe_glob (v := .ref T.a_NotRaising) rfl T.g_NotRaising rfl) pa_nil))) (pa_cons (pe_callB (call_isP K rfl List.mem_cons_self hz hf) (by rfl) T.m_isinstance (by decide +kernel) (pa_cons (pv 0) (pa_cons (pe_glob (v := .ref T.a_BadSlip) rfl T.g_BadSlip rfl) pa_nil))) pa_nil)))))))
      (pss_cons (ps_set (i := 1) sc_l_kind.nd rfl (by first | exact Or.inl rfl | exact Or.inr rfl) (pe_op op_cat (pv 1) (pe_lst (pa_cons (pe_callB (call_isP K rfl List.mem_cons_self hz hf) (by rfl) T.m_isinstance (by decide +kernel) (pa_cons (pv 0) (pa_cons (pe_glob (v := .ref T.a_Asleep) rfl T.g_Asleep rfl) pa_nil))) (pa_cons (pe_callB (call_isP K rfl List.mem_cons_self hz hf) (by rfl) T.m_isinstance (by decide +kernel) (pa_cons (pv 0) (pa_cons (pe_glob (v := .ref T.a_Awake) rfl T.g_Awake rfl) pa_nil))) (pa_cons (pe_callB (call_isP K rfl List.mem_cons_self hz hf) (by rfl) T.m_isinstance (by decide +kernel) (pa_cons (pv 0) (pa_cons (pe_glob (v := .ref T.a_Fogged) rfl T.g_Fogged rfl) pa_nil))) (pa_cons (pe_callB (call_isP K rfl List.mem_cons_self hz hf) (by rfl) T.m_isinstance (by decide +kernel) (pa_cons (pv 0) (pa_cons (pe_glob (v := .ref T.a_Clear) rfl T.g_Clear rfl) pa_nil))) pa_nil)))))))
      (pss_cons (ps_set (i := 1) sc_l_kind.nd rfl (by first | exact Or.inl rfl | exact Or.inr rfl) (pe_op op_cat (pv 1) (pe_lst (pa_cons (pe_callB (call_isP K rfl List.mem_cons_self hz hf) (by rfl) T.m_isinstance (by decide +kernel) (pa_cons (pv 0) (pa_cons (pe_glob (v := .ref T.a_Busy) rfl T.g_Busy rfl) pa_nil))) (pa_cons (pe_callB (call_isP K rfl List.mem_cons_self hz hf) (by rfl) T.m_isinstance (by decide +kernel) (pa_cons (pv 0) (pa_cons (pe_glob (v := .ref T.a_NoRow) rfl T.g_NoRow rfl) pa_nil))) (pa_cons (pe_callB (call_isP K rfl List.mem_cons_self hz hf) (by rfl) T.m_isinstance (by decide +kernel) (pa_cons (pv 0) (pa_cons (pe_glob (v := .ref T.a_NoBook) rfl T.g_NoBook rfl) pa_nil))) (pa_cons (pe_callB (call_isP K rfl List.mem_cons_self hz hf) (by rfl) T.m_isinstance (by decide +kernel) (pa_cons (pv 0) (pa_cons (pe_glob (v := .ref T.a_Lost) rfl T.g_Lost rfl) pa_nil))) pa_nil)))))))
      (pss_cons (ps_set (i := 1) sc_l_kind.nd rfl (by first | exact Or.inl rfl | exact Or.inr rfl) (pe_op op_cat (pv 1) (pe_lst (pa_cons (pe_callB (call_isP K rfl List.mem_cons_self hz hf) (by rfl) T.m_isinstance (by decide +kernel) (pa_cons (pv 0) (pa_cons (pe_glob (v := .ref T.a_Legible) rfl T.g_Legible rfl) pa_nil))) (pa_cons (pe_callB (call_isP K rfl List.mem_cons_self hz hf) (by rfl) T.m_isinstance (by decide +kernel) (pa_cons (pv 0) (pa_cons (pe_glob (v := .ref T.a_NothingLeft) rfl T.g_NothingLeft rfl) pa_nil))) (pa_cons (pe_callB (call_isP K rfl List.mem_cons_self hz hf) (by rfl) T.m_isinstance (by decide +kernel) (pa_cons (pv 0) (pa_cons (pe_glob (v := .ref T.a_BadPlace) rfl T.g_BadPlace rfl) pa_nil))) pa_nil))))))
      (pss_cons (ps_set (i := 1) sc_l_kind.nd rfl (by first | exact Or.inl rfl | exact Or.inr rfl) (pe_op op_cat (pv 1) (pe_lst (pa_cons (pe_callB (call_isP K rfl List.mem_cons_self hz hf) (by rfl) T.m_isinstance (by decide +kernel) (pa_cons (pv 0) (pa_cons (pe_glob (v := .ref T.a_BadWord) rfl T.g_BadWord rfl) pa_nil))) (pa_cons (pe_callB (call_isP K rfl List.mem_cons_self hz hf) (by rfl) T.m_isinstance (by decide +kernel) (pa_cons (pv 0) (pa_cons (pe_glob (v := .ref T.a_Taken) rfl T.g_Taken rfl) pa_nil))) (pa_cons (pe_callB (call_isP K rfl List.mem_cons_self hz hf) (by rfl) T.m_isinstance (by decide +kernel) (pa_cons (pv 0) (pa_cons (pe_glob (v := .ref T.a_Known) rfl T.g_Known rfl) pa_nil))) (pa_cons (pe_callB (call_isP K rfl List.mem_cons_self hz hf) (by rfl) T.m_isinstance (by decide +kernel) (pa_cons (pv 0) (pa_cons (pe_glob (v := .ref T.a_NoWord) rfl T.g_NoWord rfl) pa_nil))) pa_nil)))))))
      (pss_cons (ps_set (i := 2) sc_l_kind.nd rfl (by first | exact Or.inl rfl | exact Or.inr rfl) (pe_lst (pa_cons pe_str (pa_cons pe_str (pa_cons pe_str (pa_cons pe_str (pa_cons pe_str (pa_cons pe_str (pa_cons pe_str (pa_cons pe_str (pa_cons pe_str pa_nil)))))))))))
      (pss_cons (ps_set (i := 2) sc_l_kind.nd rfl (by first | exact Or.inl rfl | exact Or.inr rfl) (pe_op op_cat (pv 2) (pe_lst (pa_cons pe_str (pa_cons pe_str (pa_cons pe_str (pa_cons pe_str (pa_cons pe_str (pa_cons pe_str (pa_cons pe_str (pa_cons pe_str (pa_cons pe_str pa_nil))))))))))))
      (pss_cons (ps_set (i := 2) sc_l_kind.nd rfl (by first | exact Or.inl rfl | exact Or.inr rfl) (pe_op op_cat (pv 2) (pe_lst (pa_cons pe_str (pa_cons pe_str (pa_cons pe_str (pa_cons pe_str (pa_cons pe_str pa_nil))))))))
      (pss_cons (ps_if (pt_cmpR op_ne (pe_bm PySem.F.plainAttrs_list PySem.F.slot_list_count PySem.F.type_list_count mt_fcount (pv 1) (pa_cons pe_bl pa_nil)) pe_int (nomark _))
      (pss_one (ps_ret pe_str))
      pss_nil)
      (pss_one (ps_ret (pe_ix ix_list (pv 2) (pe_bm PySem.F.plainAttrs_list PySem.F.slot_list_index PySem.F.type_list_index mt_index (pv 1) (pa_cons pe_bl pa_nil)) (fun _ _ => rfl)))))))))))))), ?_⟩
    have xc := kind_exc T hi
    have kt := kind_kit T hi
    refine ⟨_, rfl, _, _, _, _, rfl, .inl rfl, xc, rfl, .own _, kt 0 (by decide), _, rfl, _, _, _, _, rfl, .inl rfl, xc, rfl, .own _, kt 1 (by decide), _, rfl, _, _, _, _, rfl, .inl rfl, xc, rfl, .own _, kt 2 (by decide), _, rfl, _, _, _, _, rfl, .inl rfl, xc, rfl, .own _, kt 3 (by decide), szl (by show 4 ≤ 100000; decide), fun p1 n1 => ?_⟩
    generalize h_H1 : upd H p1 _ = H1
    have k_H1 : Kp H H1 := by rw [← h_H1]; exact .new n1
    have q_H1 := (congrFun h_H1 p1).symm.trans upd_same
    clear h_H1
    refine ⟨_, rfl, _, rfl, _, _, _, _, rfl, .inl rfl, xc, rfl, .own _, kt 4 (by decide), _, rfl, _, _, _, _, rfl, .inl rfl, xc, rfl, .own _, kt 5 (by decide), _, rfl, _, _, _, _, rfl, .inl rfl, xc, rfl, .own _, kt 6 (by decide), _, rfl, _, _, _, _, rfl, .inl rfl, xc, rfl, .own _, kt 7 (by decide), szl (by show 4 ≤ 100000; decide), fun p2 n2 => ?_⟩
    generalize h_H2 : upd H1 p2 _ = H2
    have k_H2 : Kp H1 H2 := by rw [← h_H2]; exact .new n2
    have q_H2 := (congrFun h_H2 p2).symm.trans upd_same
    clear h_H2
    refine ⟨p1, p2, _, _, rfl, rfl, k_H2.same _ _ rfl q_H1, q_H2, szl (by show 8 ≤ 100000; decide), fun p3 n3 => ?_⟩
    generalize h_H3 : upd H2 p3 _ = H3
    have k_H3 : Kp H2 H3 := by rw [← h_H3]; exact .new n3
    have q_H3 := (congrFun h_H3 p3).symm.trans upd_same
    clear h_H3
    refine ⟨_, rfl, _, rfl, _, _, _, _, rfl, .inl rfl, xc, rfl, .own _, kt 8 (by decide), _, rfl, _, _, _, _, rfl, .inl rfl, xc, rfl, .own _, kt 9 (by decide), _, rfl, _, _, _, _, rfl, .inl rfl, xc, rfl, .own _, kt 10 (by decide), _, rfl, _, _, _, _, rfl, .inl rfl, xc, rfl, .own _, kt 11 (by decide), szl (by show 4 ≤ 100000; decide), fun p4 n4 => ?_⟩
    generalize h_H4 : upd H3 p4 _ = H4
    have k_H4 : Kp H3 H4 := by rw [← h_H4]; exact .new n4
    have q_H4 := (congrFun h_H4 p4).symm.trans upd_same
    clear h_H4
    refine ⟨p3, p4, _, _, rfl, rfl, k_H4.same _ _ rfl q_H3, q_H4, szl (by show 12 ≤ 100000; decide), fun p5 n5 => ?_⟩
    generalize h_H5 : upd H4 p5 _ = H5
    have k_H5 : Kp H4 H5 := by rw [← h_H5]; exact .new n5
    have q_H5 := (congrFun h_H5 p5).symm.trans upd_same
    clear h_H5
    refine ⟨_, rfl, _, rfl, _, _, _, _, rfl, .inl rfl, xc, rfl, .own _, kt 12 (by decide), _, rfl, _, _, _, _, rfl, .inl rfl, xc, rfl, .own _, kt 13 (by decide), _, rfl, _, _, _, _, rfl, .inl rfl, xc, rfl, .own _, kt 14 (by decide), _, rfl, _, _, _, _, rfl, .inl rfl, xc, rfl, .own _, kt 15 (by decide), szl (by show 4 ≤ 100000; decide), fun p6 n6 => ?_⟩
    generalize h_H6 : upd H5 p6 _ = H6
    have k_H6 : Kp H5 H6 := by rw [← h_H6]; exact .new n6
    have q_H6 := (congrFun h_H6 p6).symm.trans upd_same
    clear h_H6
    refine ⟨p5, p6, _, _, rfl, rfl, k_H6.same _ _ rfl q_H5, q_H6, szl (by show 16 ≤ 100000; decide), fun p7 n7 => ?_⟩
    generalize h_H7 : upd H6 p7 _ = H7
    have k_H7 : Kp H6 H7 := by rw [← h_H7]; exact .new n7
    have q_H7 := (congrFun h_H7 p7).symm.trans upd_same
    clear h_H7
    refine ⟨_, rfl, _, rfl, _, _, _, _, rfl, .inl rfl, xc, rfl, .own _, kt 16 (by decide), _, rfl, _, _, _, _, rfl, .inl rfl, xc, rfl, .own _, kt 17 (by decide), _, rfl, _, _, _, _, rfl, .inl rfl, xc, rfl, .own _, kt 18 (by decide), szl (by show 3 ≤ 100000; decide), fun p8 n8 => ?_⟩
    generalize h_H8 : upd H7 p8 _ = H8
    have k_H8 : Kp H7 H8 := by rw [← h_H8]; exact .new n8
    have q_H8 := (congrFun h_H8 p8).symm.trans upd_same
    clear h_H8
    refine ⟨p7, p8, _, _, rfl, rfl, k_H8.same _ _ rfl q_H7, q_H8, szl (by show 19 ≤ 100000; decide), fun p9 n9 => ?_⟩
    generalize h_H9 : upd H8 p9 _ = H9
    have k_H9 : Kp H8 H9 := by rw [← h_H9]; exact .new n9
    have q_H9 := (congrFun h_H9 p9).symm.trans upd_same
    clear h_H9
    refine ⟨_, rfl, _, rfl, _, _, _, _, rfl, .inl rfl, xc, rfl, .own _, kt 19 (by decide), _, rfl, _, _, _, _, rfl, .inl rfl, xc, rfl, .own _, kt 20 (by decide), _, rfl, _, _, _, _, rfl, .inl rfl, xc, rfl, .own _, kt 21 (by decide), _, rfl, _, _, _, _, rfl, .inl rfl, xc, rfl, .own _, kt 22 (by decide), szl (by show 4 ≤ 100000; decide), fun p10 n10 => ?_⟩
    generalize h_H10 : upd H9 p10 _ = H10
    have k_H10 : Kp H9 H10 := by rw [← h_H10]; exact .new n10
    have q_H10 := (congrFun h_H10 p10).symm.trans upd_same
    clear h_H10
    refine ⟨p9, p10, _, _, rfl, rfl, k_H10.same _ _ rfl q_H9, q_H10, szl (by show 23 ≤ 100000; decide), fun p11 n11 => ?_⟩
    generalize h_H11 : upd H10 p11 _ = H11
    have k_H11 : Kp H10 H11 := by rw [← h_H11]; exact .new n11
    have q_H11 := (congrFun h_H11 p11).symm.trans upd_same
    clear h_H11
    refine ⟨szl (by show 9 ≤ 100000; decide), fun p12 n12 => ?_⟩
    generalize h_H12 : upd H11 p12 _ = H12
    have k_H12 : Kp H11 H12 := by rw [← h_H12]; exact .new n12
    have q_H12 := (congrFun h_H12 p12).symm.trans upd_same
    clear h_H12
    refine ⟨_, rfl, szl (by show 9 ≤ 100000; decide), fun p13 n13 => ?_⟩
    generalize h_H13 : upd H12 p13 _ = H13
    have k_H13 : Kp H12 H13 := by rw [← h_H13]; exact .new n13
    have q_H13 := (congrFun h_H13 p13).symm.trans upd_same
    clear h_H13
    refine ⟨p12, p13, _, _, rfl, rfl, k_H13.same _ _ rfl q_H12, q_H13, szl (by show 18 ≤ 100000; decide), fun p14 n14 => ?_⟩
    generalize h_H14 : upd H13 p14 _ = H14
    have k_H14 : Kp H13 H14 := by rw [← h_H14]; exact .new n14
    have q_H14 := (congrFun h_H14 p14).symm.trans upd_same
    clear h_H14
    refine ⟨_, rfl, szl (by show 5 ≤ 100000; decide), fun p15 n15 => ?_⟩
    generalize h_H15 : upd H14 p15 _ = H15
    have k_H15 : Kp H14 H15 := by rw [← h_H15]; exact .new n15
    have q_H15 := (congrFun h_H15 p15).symm.trans upd_same
    clear h_H15
    refine ⟨p14, p15, _, _, rfl, rfl, k_H15.same _ _ rfl q_H14, q_H15, szl (by show 23 ≤ 100000; decide), fun p16 n16 => ?_⟩
    generalize h_H16 : upd H15 p16 _ = H16
    have k_H16 : Kp H15 H16 := by rw [← h_H16]; exact .new n16
    have q_H16 := (congrFun h_H16 p16).symm.trans upd_same
    clear h_H16
    have kF := ((((k_H12).trans k_H13).trans k_H14).trans k_H15).trans k_H16
    have qP : H16 p11 = some (.lst (kbs i)) := kF.same _ _ rfl q_H11
    have qN : H16 p16 = some (.lst (KN.map V.str)) := q_H16
    refine ⟨_, rfl, .inl ⟨rfl, _, .inl (.inl qP)⟩, p11, _, _, rfl, rfl, .inl (.inl qP), rfl, kbs_flat i, rfl, _, rfl, ?_⟩
    rw [kbs_one i hi]
    refine iteFo rfl ?_
    refine ⟨_, rfl, _, rfl, .inl ⟨rfl, _, .inl (.inl qP)⟩, p11, _, _, i, .bl true, rfl, rfl, .inl (.inl qP), rfl, kbs_flat i, ?_, rfl, fun m z hm hz => ?_, p16, _, _, .str (kn i), rfl, rfl, .inl (.inl qN), kn_at hi, k _ ((((((((((((((((k_H1).trans k_H2).trans k_H3).trans k_H4).trans k_H5).trans k_H6).trans k_H7).trans k_H8).trans k_H9).trans k_H10).trans k_H11).trans k_H12).trans k_H13).trans k_H14).trans k_H15).trans k_H16)⟩
    · rw [kbs_at hi, decide_eq_true rfl]
    · have e := (kbs_at (i := i) (show m < 23 by omega)).symm.trans hz
      rw [← Option.some.inj e, decide_eq_false (by omega)]
      rfl
/-! ### the law's own sight of what waits -/
def eN : Nat → Str
  | 0 => "send"
  | 1 => "express"
  | _ => "recall"
structure EndSt (H : Hp) (S W : Addr) (ad : Bool → Addr) (qs : Bool → List Int) : Prop where
  st : H S = some (.dK [(Sum.inr "up", .ref (ad true)), (Sum.inr "down", .ref (ad false)), (Sum.inr "words", .ref W)])
  at_ : ∀ u, H (ad u) = some (.lst ((qs u).map V.int))
  ne : ad true ≠ ad false
theorem EndSt.kp {H H' : Hp} {S W : Addr} {ad : Bool → Addr} {qs : Bool → List Int} (s : EndSt H S W ad qs) (k : Kp H H') : EndSt H' S W ad qs := ⟨k.same _ _ rfl s.st, fun u => k.same _ _ rfl (s.at_ u), s.ne⟩
theorem EndSt.kpE {H H' : Hp} {X : List Addr} {S W : Addr} {ad : Bool → Addr} {qs : Bool → List Int} (s : EndSt H S W ad qs) (k : KpE X H H') (h1 : S ∉ X) (h2 : ∀ u, ad u ∉ X) : EndSt H' S W ad qs := ⟨k.same _ _ rfl h1 s.st, fun u => k.same _ _ rfl (h2 u) (s.at_ u), s.ne⟩
theorem end_get {H : Hp} {S W : Addr} {ad : Bool → Addr} {qs : Bool → List Int} (s : EndSt H S W ad qs) {wy : Str} (h : isWay wy = true) : DGet H S (.str wy) (some (.ref (ad (wayU wy)))) := by
  rcases isWay_iff.mp h with rfl | rfl
  · exact DGet.k (k := Sum.inr "up") s.st
  · exact DGet.k (k := Sum.inr "down") s.st
/-- an answer: refused, or told nothing or a number -/
inductive Ans where
  | no (x : Str)
  | told (d : Option Int)
def Ans.d : Ans → PyData
  | .no x => .tuple [.str "no", .str x]
  | .told none => .tuple [.str "told", .none]
  | .told (some z) => .tuple [.str "told", .int z]
def Ans.vs : Ans → List V
  | .no x => [.str "no", .str x]
  | .told none => [.str "told", .non]
  | .told (some z) => [.str "told", .int z]
theorem Ans.dp {K : PySem.W.Frag} {H : Hp} {r : Addr} : ∀ {a : Ans}, H r = some (.tup a.vs) → Dp K H (.ref r) a.d
  | .no _, h => .tup (.inl (.inl h)) (.cons (.str _) (.cons (.str _) .nil))
  | .told none, h => .tup (.inl (.inl h)) (.cons (.str _) (.cons .non .nil))
  | .told (some _), h => .tup (.inl (.inl h)) (.cons (.str _) (.cons (.int _) .nil))
theorem Ans.dn : ∀ (a : Ans), Dn 4 a.d
  | .no x => .tup (fun d hd => by
      simp only [List.mem_cons, List.not_mem_nil, or_false] at hd
      rcases hd with rfl | rfl <;> exact .str _ _) (by show 2 ≤ 10000; decide)
  | .told none => .tup (fun d hd => by
      simp only [List.mem_cons, List.not_mem_nil, or_false] at hd
      rcases hd with rfl | rfl
      · exact .str _ _
      · exact .non _) (by show 2 ≤ 10000; decide)
  | .told (some z) => .tup (fun d hd => by
      simp only [List.mem_cons, List.not_mem_nil, or_false] at hd
      rcases hd with rfl | rfl
      · exact .str _ _
      · exact .int _ _) (by show 2 ≤ 10000; decide)
def lastZ (xs : List Int) : Int := xs.getLast?.getD 0
def endA (qs : Bool → List Int) (k : Nat) (wy : Str) (ns : List Int) : Ans :=
  if isWay wy = false then .no "BadWay" else if k = 2 then (if qs (wayU wy) = [] then .no "NothingWaits" else .told (some (lastZ (qs (wayU wy))))) else if ns.all isSg = false then .no "BadSign" else if 60 < (qs (wayU wy)).length + ns.length then .no "Full" else .told none
def setU (qs : Bool → List Int) (u : Bool) (xs : List Int) : Bool → List Int := fun v => if v = u then xs else qs v
def endQ (qs : Bool → List Int) (k : Nat) (wy : Str) (ns : List Int) : Bool → List Int := match endA qs k wy ns with
  | .no _ => qs
  | .told _ => setU qs (wayU wy) (if k = 2 then (qs (wayU wy)).dropLast else if k = 1 then ns ++ qs (wayU wy) else qs (wayU wy) ++ ns)
def sp_l_end_deed : Sp := fun vs H Q _ => ∃ (S W D : Addr) (ad : Bool → Addr) (qs : Bool → List Int) (k : Nat) (wy : Str) (ns : List Int), vs = [.ref S, .ref D] ∧ EndSt H S W ad qs ∧ H D = some (.tup (V.str (eN k) :: .str wy :: ns.map V.int)) ∧ (k ≠ 2 → ns ≠ []) ∧ k ≤ 2 ∧ ns.length ≤ 1000 ∧ (∀ u, (qs u).length ≤ 60) ∧
  ∀ (r : Addr) (ad' : Bool → Addr) (H' : Hp), H r = none → KpE [S, ad false, ad true] H H' → (∀ x, ad' x = ad x ∨ H (ad' x) = none) → EndSt H' S W ad' (endQ qs k wy ns) → H' r = some (.tup (endA qs k wy ns).vs) → Q (.ref r) H'
theorem cut2 (a b : V) (r : List V) : cutV (a :: b :: r) (some 2) none = r := by
  unfold cutV
  have h1 : HT.sIx (a :: b :: r).length 0 (some 2) = 2 := by
    have z : HT.sIx (a :: b :: r).length 0 (some ((2 : Nat) : Int)) = min 2 (a :: b :: r).length := HT.sIx_nat _ 0 2
    rw [show ((2 : Nat) : Int) = 2 from rfl] at z
    rw [z]
    simp only [List.length_cons]
    omega
  have h2 : HT.sIx (a :: b :: r).length (a :: b :: r).length none = (a :: b :: r).length := rfl
  rw [h1, h2]
  show (r).take _ = r
  rw [List.take_of_length_le]
  simp only [List.length_cons]
  omega
theorem cut2n (a b : V) (r : List V) : ¬ (HT.sIx (a :: b :: r).length 0 (some 2) = 0 ∧ HT.sIx (a :: b :: r).length (a :: b :: r).length none = (a :: b :: r).length) := fun z => by
  have z1 : HT.sIx (a :: b :: r).length 0 (some ((2 : Nat) : Int)) = min 2 (a :: b :: r).length := HT.sIx_nat _ 0 2
  rw [show ((2 : Nat) : Int) = 2 from rfl, z.1] at z1
  simp only [List.length_cons] at z1
  omega
theorem ok_l_end_deed (T : Txt K mg) : FnOk P w K mg base CX0 1 T.f_l_end_deed T.d_l_end_deed ["_law_state", "_law_deed"] sp_l_end_deed := by
  refine T.F_l_end_deed.ok sc_l_end_deed (fun vs H Q E h => ?_) (fun cdv A outer s H vs Q E hr h => ?_)
  · obtain ⟨S, W, D, ad, qs, k, wy, ns, rfl, _⟩ := h
    rfl
  · obtain ⟨S, W, D, ad, qs, k, wy, ns, rfl, hS, hD, hne, hk2, hnl, hql, q⟩ := h
    have hu := hu_of hr
    refine ⟨_, (pss_cons (ps_if (pt_cmpR op_notIn_seq (pe_ix ix_tup (pv 1) pe_int (fun _ _ => rfl)) (pe_tup (pa_cons pe_str (pa_cons pe_str pa_nil))) rfl)
      (pss_one (ps_ret (pe_tup (pa_cons pe_str (pa_cons pe_str pa_nil)))))
      pss_nil)
      (pss_cons (ps_set (i := 2) sc_l_end_deed.nd rfl (by first | exact Or.inl rfl | exact Or.inr rfl) (pe_callTy call_list_of (by rfl) T.m_list (by decide +kernel) (pa_cons (pe_slice sl_tup (pv 1) (po_some pe_int) po_none) pa_nil)))
      (pss_cons (ps_if (pt_cmpR op_eq (pe_ix ix_tup (pv 1) pe_int (fun _ _ => rfl)) pe_str (nomark _))
      (pss_cons (ps_if (pt_cmpR op_eq (pe_callB call_len_seq (by rfl) T.m_len PySem.boot_len (pa_cons (pe_dget hu (pv 0) (pe_ix ix_tup (pv 1) pe_int (fun _ _ => rfl)) (fun _ _ => rfl)) pa_nil)) pe_int (nomark _))
      (pss_one (ps_ret (pe_tup (pa_cons pe_str (pa_cons pe_str pa_nil)))))
      pss_nil)
      (pss_one (ps_ret (pe_tup (pa_cons pe_str (pa_cons (pe_bm0 PySem.F.plainAttrs_list PySem.F.slot_list_pop PySem.F.type_list_pop mt_pop (pe_dget hu (pv 0) (pe_ix ix_tup (pv 1) pe_int (fun _ _ => rfl)) (fun _ _ => rfl))) pa_nil))))))
      pss_nil)
      (pss_cons (ps_if (pt_cmpR op_eq (pe_ix ix_tup (pv 1) pe_int (fun _ _ => rfl)) pe_str (nomark _))
      (pss_cons ps_never
      (pss_one ps_never))
      (pss_one (ps_if (PW.pt (pw_or (pt_cmpR op_lt (pe_callB (cr_min rfl) (by rfl) T.m_min (by decide +kernel) (pa_cons (pv 2) pa_nil)) pe_int (nomark _)) (pw_or1 (pt_cmpR op_gt (pe_callB (cr_max rfl) (by rfl) T.m_max (by decide +kernel) (pa_cons (pv 2) pa_nil)) pe_int (nomark _)))))
      (pss_one (ps_ret (pe_tup (pa_cons pe_str (pa_cons pe_str pa_nil)))))
      pss_nil)))
      (pss_cons (ps_if (pt_cmpR op_gt (pe_op op_add (pe_callB call_len_seq (by rfl) T.m_len PySem.boot_len (pa_cons (pe_dget hu (pv 0) (pe_ix ix_tup (pv 1) pe_int (fun _ _ => rfl)) (fun _ _ => rfl)) pa_nil)) (pe_callB call_len_seq (by rfl) T.m_len PySem.boot_len (pa_cons (pv 2) pa_nil))) pe_int (nomark _))
      (pss_one (ps_ret (pe_tup (pa_cons pe_str (pa_cons pe_str pa_nil)))))
      pss_nil)
      (pss_cons (ps_if (pt_cmpR op_eq (pe_ix ix_tup (pv 1) pe_int (fun _ _ => rfl)) pe_str (nomark _))
      (pss_one (ps_dput hu (pv 0) (pe_ix ix_tup (pv 1) pe_int (fun _ _ => rfl)) (pe_op op_cat (pv 2) (pe_dget hu (pv 0) (pe_ix ix_tup (pv 1) pe_int (fun _ _ => rfl)) (fun _ _ => rfl))) rfl))
      (pss_one (ps_dput hu (pv 0) (pe_ix ix_tup (pv 1) pe_int (fun _ _ => rfl)) (pe_op op_cat (pe_dget hu (pv 0) (pe_ix ix_tup (pv 1) pe_int (fun _ _ => rfl)) (fun _ _ => rfl)) (pv 2)) rfl)))
      (pss_one (ps_ret (pe_tup (pa_cons pe_str (pa_cons pe_non pa_nil))))))))))), ?_⟩
    refine ⟨_, rfl, D, _, _, _, rfl, rfl, .inl (.inl hD), at_1, szl (by show 2 ≤ 100000; decide), fun p np => ?_⟩
    generalize h_H1 : upd H p _ = H1
    have k_H1 : Kp H H1 := by rw [← h_H1]; exact .new np
    have q_H1 := (congrFun h_H1 p).symm.trans upd_same
    clear h_H1
    have hS1 := hS.kp k_H1
    have hD1 := k_H1.same _ _ rfl hD
    refine ⟨p, _, rfl, .inr (.inl (.inl q_H1)), rfl, rfl, _, rfl, ?_⟩
    show if (!isWay wy) = true then _ else _
    by_cases hw : isWay wy = true
    · refine iteFo (by rw [hw]; rfl) ?_
      refine ⟨_, rfl, _, rfl, D, _, rfl, .inl (.inl hD1), cut2n _ _ _, fun pc npc => ?_⟩
      rw [cut2]
      generalize h_H2 : upd H1 pc _ = H2
      have k_H2 : Kp H1 H2 := by rw [← h_H2]; exact .new npc
      have q_H2 := (congrFun h_H2 pc).symm.trans upd_same
      clear h_H2
      refine ⟨pc, _, rfl, .inr (.inl (.inl q_H2)), fun ps nps => ?_⟩
      generalize h_H3 : upd H2 ps _ = H3
      have k_H3 : Kp H2 H3 := by rw [← h_H3]; exact .new nps
      have q_H3 := (congrFun h_H3 ps).symm.trans upd_same
      clear h_H3
      have k13 := k_H2.trans k_H3
      have k03 := k_H1.trans k13
      have hS3 := hS.kp k03
      have hD3 := k03.same _ _ rfl hD
      have say : ∀ (x : Str), endA qs k wy ns = .no x → ∀ G, Kp H G → ∀ r, G r = none → Q (.ref r) (upd G r (.tup [.str "no", .str x])) := fun x ea G kG r nr => by
        have k2 := kG.trans (.new (o := .tup [.str "no", .str x]) nr)
        refine q r ad _ (kG.free _ nr) (KpE.of k2) (fun x => .inl rfl) ?_ ?_
        · unfold endQ
          rw [ea]
          exact hS.kp k2
        · rw [ea]
          exact upd_same
      have a1 : endA qs k wy ns = if k = 2 then (if qs (wayU wy) = [] then Ans.no "NothingWaits" else .told (some (lastZ (qs (wayU wy))))) else if ns.all isSg = false then .no "BadSign" else if 60 < (qs (wayU wy)).length + ns.length then .no "Full" else .told none := if_neg (by rw [hw]; decide)
      refine ⟨_, rfl, D, _, _, _, rfl, rfl, .inl (.inl hD3), at_0, rfl, _, rfl, ?_⟩
      by_cases k2 : k = 2
      · subst k2
        rw [if_pos rfl] at a1
        refine iteTo (by decide +kernel) ?_
        refine ⟨_, rfl, _, rfl, D, _, _, _, rfl, rfl, .inl (.inl hD3), at_1, S, _, rfl, end_get hS3 hw, ?_⟩
        have hat := hS3.at_ (wayU wy)
        refine ⟨ad (wayU wy), _, rfl, .inl (SqL.of hat), rfl, _, rfl, iteD (fun c => ?_) (fun c => ?_)⟩
        · have c := V.int.inj c
          rw [List.length_map] at c
          have e0 : qs (wayU wy) = [] := List.eq_nil_of_length_eq_zero (by omega)
          rw [if_pos e0] at a1
          exact ⟨szl (by show 2 ≤ 100000; decide), fun r nr => say _ a1 _ k03 r nr⟩
        · have e0 : qs (wayU wy) ≠ [] := fun z => c (by rw [z]; rfl)
          rw [if_neg e0] at a1
          obtain ⟨xs, z, eq⟩ : ∃ xs z, qs (wayU wy) = xs ++ [z] := ⟨_, _, (List.dropLast_concat_getLast e0).symm⟩
          have ez : lastZ (qs (wayU wy)) = z := by unfold lastZ; rw [eq, List.getLast?_concat]; rfl
          rw [ez] at a1
          have hat' : H3 (ad (wayU wy)) = some (.lst (xs.map V.int ++ [.int z])) := by rw [hat, eq, List.map_append]; rfl
          refine ⟨_, rfl, _, rfl, D, _, _, _, rfl, rfl, .inl (.inl hD3), at_1, S, _, rfl, end_get hS3 hw, .inl ⟨rfl, _, SqL.of hat'⟩, ad (wayU wy), _, .int z, rfl, rfl, hat', by simp, szl (by show 2 ≤ 100000; decide), fun r nr => ?_⟩
          rw [List.dropLast_concat] at nr ⊢
          have e4 : KpE [S, ad false, ad true] H3 (upd H3 (ad (wayU wy)) (.lst (xs.map V.int))) := KpE.put hat rfl (by cases wayU wy <;> simp)
          have e5 := (KpE.of (S := [S, ad false, ad true]) k03).trans e4
          refine q r ad _ (e5.free _ nr) (e5.trans (KpE.of (.new nr))) (fun x => .inl rfl) (EndSt.kp ⟨?_, fun v => ?_, hS.ne⟩ (.new nr)) ?_
          · rw [upd_ne (ne_of hS3.st hat (by intro y; cases y))]
            exact hS3.st
          · have eQ : endQ qs 2 wy ns = setU qs (wayU wy) xs := by
              unfold endQ
              rw [a1]
              show setU qs (wayU wy) (if 2 = 2 then (qs (wayU wy)).dropLast else _) = _
              rw [if_pos rfl, eq, List.dropLast_concat]
            rw [eQ]
            show upd H3 (ad (wayU wy)) _ (ad v) = some (.lst ((if v = wayU wy then xs else qs v).map V.int))
            by_cases y : v = wayU wy
            · rw [if_pos y, y, upd_same]
            · rw [if_neg y, upd_ne (fun z => ?_)]
              · exact hS3.at_ v
              · have n := hS.ne
                revert y z
                cases v <;> cases wayU wy <;> intro y z <;> first | exact y rfl | exact n z | exact n z.symm
          · rw [a1]
            exact upd_same
      · rw [if_neg k2] at a1
        have nrec : decide (V.str (eN k) = V.str "recall") = false := by
          rcases (show k = 0 ∨ k = 1 by omega) with rfl | rfl <;> decide +kernel
        have nsay : decide (V.str (eN k) = V.str "say") = false := by
          rcases (show k = 0 ∨ k = 1 by omega) with rfl | rfl <;> decide +kernel
        have hn0 : 0 < ns.length := List.length_pos_iff.mpr (hne k2)
        have hps : SqL K H3 ps (ns.map V.int) := .inl (.inl q_H3)
        refine iteFo nrec ?_
        refine ⟨_, rfl, D, _, _, _, rfl, rfl, .inl (.inl hD3), at_0, rfl, _, rfl, iteFo nsay ?_⟩
        refine ⟨_, rfl, ps, ns, rfl, hps, hn0, fun m hm hle => ⟨_, _, rfl, rfl, _, rfl, iteD (fun c => ?_) (fun c => ?_)⟩⟩
        · have ha : ns.all isSg = false := by
            rw [List.all_eq_false]
            refine ⟨m, hm, ?_⟩
            unfold isSg
            rw [decide_eq_false (show ¬ 1 ≤ m by omega), Bool.false_and]
            exact Bool.false_ne_true
          rw [if_pos ha] at a1
          exact iteTo rfl ⟨szl (by show 2 ≤ 100000; decide), fun r nr => say _ a1 _ k03 r nr⟩
        refine ⟨_, rfl, ps, ns, rfl, hps, hn0, fun M hM hMle => ⟨_, _, rfl, rfl, _, rfl, iteD (fun c2 => ?_) (fun c2 => ?_)⟩⟩
        · have ha : ns.all isSg = false := by
            rw [List.all_eq_false]
            refine ⟨M, hM, ?_⟩
            unfold isSg
            rw [decide_eq_false (show ¬ M ≤ 94 by omega), Bool.and_false]
            exact Bool.false_ne_true
          rw [if_pos ha] at a1
          exact ⟨szl (by show 2 ≤ 100000; decide), fun r nr => say _ a1 _ k03 r nr⟩
        have ha : ns.all isSg = true := by
          rw [List.all_eq_true]
          intro z hz
          have h1 := hle z hz
          have h2 := hMle z hz
          unfold isSg
          rw [decide_eq_true (show 1 ≤ z by omega), decide_eq_true (show z ≤ 94 by omega)]
          rfl
        rw [if_neg (by rw [ha]; decide)] at a1
        have hat := hS3.at_ (wayU wy)
        have e1 : (((qs (wayU wy)).map V.int).length : Int) = ((qs (wayU wy)).length : Int) := by rw [List.length_map]
        have e2 : ((ns.map V.int).length : Int) = (ns.length : Int) := by rw [List.length_map]
        refine ⟨_, rfl, _, rfl, D, _, _, _, rfl, rfl, .inl (.inl hD3), at_1, S, _, rfl, end_get hS3 hw, ad (wayU wy), _, rfl, .inl (SqL.of hat), _, rfl, ps, _, rfl, .inl hps, _, _, rfl, rfl, _, _, rfl, rfl, _, rfl, iteD (fun c3 => ?_) (fun c3 => ?_)⟩
        · rw [e1, e2] at c3
          rw [if_pos (by omega)] at a1
          exact ⟨szl (by show 2 ≤ 100000; decide), fun r nr => say _ a1 _ k03 r nr⟩
        rw [e1, e2] at c3
        rw [if_neg (by omega)] at a1
        have hqu := hql (wayU wy)
        have fin : ∀ (xs : List Int) (G : Hp) (pn : Addr), xs = (if k = 1 then ns ++ qs (wayU wy) else qs (wayU wy) ++ ns) → H3 pn = none → Kp H3 G → G pn = some (.lst (xs.map V.int)) → ∀ r, upd G S (.dK (putK [(Sum.inr "up", .ref (ad true)), (Sum.inr "down", .ref (ad false)), (Sum.inr "words", .ref W)] (Sum.inr wy) (.ref pn))) r = none → Q (.ref r) (upd (upd G S (.dK (putK [(Sum.inr "up", .ref (ad true)), (Sum.inr "down", .ref (ad false)), (Sum.inr "words", .ref W)] (Sum.inr wy) (.ref pn)))) r (.tup [.str "told", .non])) := fun xs G pn ex n3 kG qG r nr => by
          have hSG := hS3.kp kG
          have e4 : KpE [S, ad false, ad true] G (upd G S (.dK (putK [(Sum.inr "up", .ref (ad true)), (Sum.inr "down", .ref (ad false)), (Sum.inr "words", .ref W)] (Sum.inr wy) (.ref pn)))) := KpE.put hSG.st rfl List.mem_cons_self
          have e5 := (KpE.of (S := [S, ad false, ad true]) (k03.trans kG)).trans e4
          have nadp : ∀ x, ad x ≠ pn := fun x z => by
            have := hS3.at_ x
            rw [z, n3] at this
            cases this
          refine q r (fun x => if x = wayU wy then pn else ad x) _ (e5.free _ nr) (e5.trans (KpE.of (.new nr))) (fun x => ?_) (EndSt.kp ⟨?_, fun v => ?_, ?_⟩ (.new nr)) ?_
          · show (if x = wayU wy then pn else ad x) = ad x ∨ H (if x = wayU wy then pn else ad x) = none
            by_cases z : x = wayU wy
            · rw [if_pos z]
              exact .inr (k03.free _ n3)
            · rw [if_neg z]
              exact .inl rfl
          · rw [upd_same]
            rcases isWay_iff.mp hw with rfl | rfl <;> rfl
          · have eQ : endQ qs k wy ns = setU qs (wayU wy) xs := by
              unfold endQ
              rw [a1]
              show setU qs (wayU wy) (if k = 2 then _ else if k = 1 then _ else _) = _
              rw [if_neg k2, ex]
            rw [eQ]
            show upd G S _ (if v = wayU wy then pn else ad v) = some (.lst ((if v = wayU wy then xs else qs v).map V.int))
            by_cases y : v = wayU wy
            · rw [if_pos y, if_pos y, upd_ne (ne_of qG hSG.st (by intro z; cases z))]
              exact qG
            · rw [if_neg y, if_neg y, upd_ne (ne_of (hSG.at_ v) hSG.st (by intro z; cases z))]
              exact hSG.at_ v
          · show (if true = wayU wy then pn else ad true) ≠ (if false = wayU wy then pn else ad false)
            cases wayU wy
            · exact nadp true
            · exact (nadp false).symm
          · rw [a1]
            exact upd_same
        refine ⟨_, rfl, D, _, _, _, rfl, rfl, .inl (.inl hD3), at_0, rfl, _, rfl, ?_⟩
        rcases (show k = 0 ∨ k = 1 by omega) with rfl | rfl
        · refine iteFo (by decide +kernel) ?_
          refine ⟨_, rfl, _, rfl, D, _, _, _, rfl, rfl, .inl (.inl hD3), at_1, S, _, rfl, end_get hS3 hw, _, rfl, ad (wayU wy), ps, _, _, rfl, rfl, hat, q_H3, szl (by rw [List.length_map, List.length_map]; omega), fun pn npn => ?_⟩
          generalize h_G : upd H3 pn _ = G
          have k_G : Kp H3 G := by rw [← h_G]; exact .new npn
          have q_G := (congrFun h_G pn).symm.trans upd_same
          clear h_G
          refine ⟨_, rfl, _, rfl, D, _, _, _, rfl, rfl, .inl (.inl (k_G.same _ _ rfl hD3)), at_1, S, _, rfl, DPut.k (k := Sum.inr wy) (hS3.kp k_G).st (szt (by show 3 < 100000; decide)), szl (by show 2 ≤ 100000; decide), fun r nr => ?_⟩
          exact fin (qs (wayU wy) ++ ns) G pn rfl npn k_G (by rw [q_G, List.map_append]) r nr
        · refine iteTo (by decide +kernel) ?_
          refine ⟨_, rfl, _, rfl, _, rfl, D, _, _, _, rfl, rfl, .inl (.inl hD3), at_1, S, _, rfl, end_get hS3 hw, ps, ad (wayU wy), _, _, rfl, rfl, q_H3, hat, szl (by rw [List.length_map, List.length_map]; omega), fun pn npn => ?_⟩
          generalize h_G : upd H3 pn _ = G
          have k_G : Kp H3 G := by rw [← h_G]; exact .new npn
          have q_G := (congrFun h_G pn).symm.trans upd_same
          clear h_G
          refine ⟨_, rfl, _, rfl, D, _, _, _, rfl, rfl, .inl (.inl (k_G.same _ _ rfl hD3)), at_1, S, _, rfl, DPut.k (k := Sum.inr wy) (hS3.kp k_G).st (szt (by show 3 < 100000; decide)), szl (by show 2 ≤ 100000; decide), fun r nr => ?_⟩
          exact fin (ns ++ qs (wayU wy)) G pn rfl npn k_G (by rw [q_G, List.map_append]) r nr
    · have hw : isWay wy = false := by simpa using hw
      refine iteTo (by rw [hw]; rfl) ⟨szl (by show 2 ≤ 100000; decide), fun r nr => ?_⟩
      have ea : endA qs k wy ns = .no "BadWay" := if_pos hw
      have k2 := k_H1.trans (.new (o := .tup [.str "no", .str "BadWay"]) nr)
      refine q r ad _ (k_H1.free _ nr) (KpE.of k2) (fun x => .inl rfl) ?_ ?_
      · unfold endQ
        rw [ea]
        exact hS.kp k2
      · rw [ea]
        exact upd_same
/-! ### a deed drawn -/
/-- a slice of ints from a to b, both within -/
theorem cut_len {ns : List Int} {a : Nat} {z : Int} (h0 : (a : Int) ≤ z) (h1 : z ≤ (ns.length : Int)) : ∃ ms : List Int, cutV (ns.map V.int) (some (a : Int)) (some z) = ms.map V.int ∧ (∀ m ∈ ms, m ∈ ns) ∧ (ms.length : Int) = z - a := by
  obtain ⟨j, rfl⟩ : ∃ j : Nat, z = (j : Int) := ⟨z.toNat, by omega⟩
  obtain ⟨ms, em, hm, _⟩ := cutV_map (lo := some (a : Int)) (hi := some (j : Int)) (ns := ns)
  refine ⟨ms, em, hm, ?_⟩
  have e := congrArg List.length em
  rw [List.length_map] at e
  unfold cutV at e
  rw [List.length_take, List.length_drop, List.length_map, HT.sIx_nat, HT.sIx_nat] at e
  omega
theorem pick_str {xs : List Str} {m : Int} (h0 : 0 ≤ m) (h1 : m < (xs.length : Int)) : ∃ t ∈ xs, atI (xs.map V.str) m = some (.str t) := by
  obtain ⟨k, rfl⟩ : ∃ k : Nat, m = (k : Int) := ⟨m.toNat, by omega⟩
  have hl : k < xs.length := by omega
  exact ⟨xs[k], List.getElem_mem hl, atI_nat (by rw [List.getElem?_map, List.getElem?_eq_getElem hl]; rfl)⟩
theorem pick_int {xs : List Int} {m : Int} (h0 : 0 ≤ m) (h1 : m < (xs.length : Int)) : ∃ t ∈ xs, atI (xs.map V.int) m = some (.int t) := by
  obtain ⟨k, rfl⟩ : ∃ k : Nat, m = (k : Int) := ⟨m.toNat, by omega⟩
  have hl : k < xs.length := by omega
  exact ⟨xs[k], List.getElem_mem hl, atI_nat (by rw [List.getElem?_map, List.getElem?_eq_getElem hl]; rfl)⟩
def sp_l_end (K : PySem.W.Frag) : Sp := fun vs H Q _ => ∃ (sa : Addr) (ns : List Int) (j : Nat), vs = [.ref sa, .int (j : Int)] ∧ SqL K H sa (ns.map V.int) ∧ j ≤ 100000 ∧
  ∀ (D : Addr) (k : Nat) (wy : Str) (sg : List Int) (H' : Hp), H D = none → Kp H H' → H' D = some (.tup (V.str (eN k) :: .str wy :: sg.map V.int)) → k ≤ 2 → (k ≠ 2 → sg ≠ []) → (k = 2 → sg = []) → sg.length ≤ 24 → Q (.ref D) H'
theorem ok_l_end (T : Txt K mg) : FnOk P w K mg base CX0 3 T.f_l_end T.d_l_end ["_law_script", "_law_at"] (sp_l_end K) := by
  refine T.F_l_end.ok sc_l_end (fun vs H Q E h => ?_) (fun cdv A outer s H vs Q E hr h => ?_)
  · obtain ⟨sa, ns, j, rfl, _⟩ := h
    rfl
  · obtain ⟨sa, ns, j, rfl, hS, hj, q⟩ := h
    refine ⟨_, (pss_cons (ps_set (i := 2) sc_l_end.nd rfl (by first | exact Or.inl rfl | exact Or.inr rfl) (pe_call (ok_l_row T) (hr.mono (by decide)) rfl T.g_l_row T.F_l_row.kp T.b_l_row .nil pass0 (pa_cons (pe_call (ok_l_cell T) (hr.mono (by decide)) rfl T.g_l_cell T.F_l_cell.kp T.b_l_cell .nil pass0 (pa_cons (pv 0) (pa_cons (pv 1) pa_nil))) (pa_cons pe_int (pa_cons pe_int pa_nil)))))
      (pss_cons (ps_set (i := 3) sc_l_end.nd rfl (by first | exact Or.inl rfl | exact Or.inr rfl) (pe_ix ix_tup (pe_tup (pa_cons pe_str (pa_cons pe_str (pa_cons pe_str (pa_cons pe_str (pa_cons pe_str (pa_cons pe_str (pa_cons pe_str pa_nil)))))))) (pe_op op_mod (pe_ix ix_list (pv 2) pe_int (fun _ _ => rfl)) pe_int) (fun _ _ => rfl)))
      (Evl.pss_cut (ps_if (pt_cmpR op_gt (pe_op op_mod (pe_op op_fdiv (pe_ix ix_list (pv 2) pe_int (fun _ _ => rfl)) pe_int) pe_int) pe_int (nomark _))
      (pss_one (ps_set (i := 3) sc_l_end.nd rfl (by first | exact Or.inl rfl | exact Or.inr rfl) (pe_ix ix_tup (pe_tup (pa_cons pe_str (pa_cons pe_str pa_nil))) (pe_op op_mod (pe_ix ix_list (pv 2) pe_int (fun _ _ => rfl)) pe_int) (fun _ _ => rfl))))
      pss_nil)
      (pss_cons (ps_if (pt_cmpR op_eq (pe_op op_mod (pe_ix ix_list (pv 2) pe_int (fun _ _ => rfl)) pe_int) pe_int (nomark _))
      (pss_one (ps_ret (pe_tup (pa_cons pe_str (pa_cons (pv 3) pa_nil)))))
      pss_nil)
      (pss_cons (ps_setLc (i := 4) (own := [("_law_num", 5)]) (g := gName 5) (tt := tYes) (by rfl) sc_l_end.nd rfl rfl (sw_true rfl rfl rfl (by decide +kernel)) (pi_list (pe_slice sl_list (pv 2) (po_some pe_int) (po_some (pe_op op_add pe_int (pe_op op_mod (pe_ix ix_list (pv 2) pe_int (fun _ _ => rfl)) pe_int))))) (blkOk_by (own := [("_law_num", 5)]) (N := ["_law_script", "_law_at", "_law_nums", "_law_way", "_law_signs", "_law_num"]) (sc := defScope s_l_end) (by decide +kernel)) (fun _ _ _ _ _ => (pg_name (i := 5) sc_l_end.nd rfl (by first | exact Or.inl rfl | exact Or.inr rfl))) (fun _ _ _ _ _ => pts_nil) (fun _ _ _ _ _ => (pe_op op_add pe_int (pe_op op_mod (pv 5) pe_int))))
      (Evl.pss_cut (ps_if (pt_cmpR op_eq (pe_op op_mod (pe_ix ix_list (pv 2) pe_int (fun _ _ => rfl)) pe_int) pe_int (nomark _))
      (pss_one (ps_asg (pe_ix ix_tup (pe_tup (pa_cons pe_int (pa_cons pe_int (pa_cons (pe_op op_sub pe_int pe_int) (pa_cons (pe_op op_pow pe_int pe_int) pa_nil))))) (pe_op op_mod (pe_ix ix_list (pv 2) pe_int (fun _ _ => rfl)) pe_int) (fun _ _ => rfl)) (pg_sub (pv 4) (pe_op op_mod (pe_op op_fdiv (pe_ix ix_list (pv 2) pe_int (fun _ _ => rfl)) pe_int) (pe_callB call_len_seq (by rfl) T.m_len PySem.boot_len (pa_cons (pv 4) pa_nil))) set_list)))
      pss_nil)
      (pss_one (ps_ret (pe_op op_catT (pe_tup (pa_cons (pe_ix ix_tup (pe_tup (pa_cons pe_str (pa_cons pe_str (pa_cons pe_str (pa_cons pe_str pa_nil))))) (pe_op op_mod (pe_ix ix_list (pv 2) pe_int (fun _ _ => rfl)) pe_int) (fun _ _ => rfl)) (pa_cons (pv 3) pa_nil))) (pe_callTy call_tuple_of (by rfl) T.m_tuple (by decide +kernel) (pa_cons (pv 4) pa_nil))))))))))), ?_⟩
    refine ⟨_, rfl, _, rfl, sa, ns, j, rfl, hS, hj, _, _, _, rfl, by decide, by decide, by decide, by decide, fun nums p1 H1 np1 k1 qp1 ⟨hl, hb⟩ => ?_⟩
    have n0 : 0 < nums.length := by omega
    have n1 : 1 < nums.length := by omega
    have n2 : 2 < nums.length := by omega
    have n3 : 3 < nums.length := by omega
    have n4 : 4 < nums.length := by omega
    refine ⟨szl (by show 7 ≤ 100000; decide), fun pt npt => ?_⟩
    generalize h_H2 : upd H1 pt _ = H2
    have k_H2 : Kp H1 H2 := by rw [← h_H2]; exact .new npt
    have q_H2 := (congrFun h_H2 pt).symm.trans upd_same
    clear h_H2
    obtain ⟨w0, _, ew0⟩ := pick_str (xs := ["up", "down", "up", "down", "Up", "", "upp"]) (Int.emod_nonneg nums[0] (b := 7) (by decide)) (Int.emod_lt_of_pos nums[0] (b := 7) (by decide))
    have qp2 := k_H2.same _ _ rfl qp1
    refine ⟨_, rfl, p1, _, _, _, rfl, rfl, .inl (.inl qp2), at_int (j := 0) n0, _, _, rfl, rfl, (by show (0 : Int) < 7; decide), pt, _, _, _, rfl, rfl, .inl (.inl q_H2), ew0, ?_⟩
    refine ⟨fun σ' G => ∃ wy : Str, σ' = [some (.ref sa), some (.int (j : Int)), some (.ref p1), some (.str wy), none, none] ∧ Kp H2 G, ?_, ?_⟩
    · refine ⟨_, rfl, p1, _, _, _, rfl, rfl, .inl (.inl qp2), at_int (j := 0) n0, _, _, rfl, rfl, ⟨by decide, by decide⟩, _, _, rfl, rfl, (by show (0 : Int) < 6; decide), _, _, rfl, rfl, _, rfl, iteB (fun c => ?_) (fun c => ?_)⟩
      · refine ⟨szl (by show 2 ≤ 100000; decide), fun p2 np2 => ?_⟩
        generalize h_H3 : upd H2 p2 _ = H3
        have k_H3 : Kp H2 H3 := by rw [← h_H3]; exact .new np2
        have q_H3 := (congrFun h_H3 p2).symm.trans upd_same
        clear h_H3
        obtain ⟨w1, _, ew1⟩ := pick_str (xs := ["up", "down"]) (Int.emod_nonneg nums[0] (b := 2) (by decide)) (Int.emod_lt_of_pos nums[0] (b := 2) (by decide))
        exact ⟨_, rfl, p1, _, _, _, rfl, rfl, .inl (.inl (k_H3.same _ _ rfl qp2)), at_int (j := 0) n0, _, _, rfl, rfl, (by show (0 : Int) < 2; decide), p2, _, _, _, rfl, rfl, .inl (.inl q_H3), ew1, _, rfl, k_H3⟩
      · exact ⟨_, rfl, .refl _⟩
    rintro σ' G ⟨wy, rfl, kg⟩
    have qpG := kg.same _ _ rfl qp2
    have kG := (k1.trans k_H2).trans kg
    refine ⟨_, rfl, p1, _, _, _, rfl, rfl, .inl (.inl qpG), at_int (j := 1) n1, _, _, rfl, rfl, (by show (0 : Int) < 4; decide), rfl, _, rfl, iteB (fun c => ?_) (fun c => ?_)⟩
    · refine ⟨_, rfl, szl (by show 2 ≤ 100000; decide), fun D nD => ?_⟩
      exact q D 2 wy [] _ (kG.free _ nD) (kG.trans (.new nD)) upd_same (by decide) (fun z => absurd rfl z) (fun _ => rfl) (by decide)
    have m0 := Int.emod_nonneg nums[2] (b := 24) (by decide)
    have m1 := Int.emod_lt_of_pos nums[2] (b := 24) (by decide)
    obtain ⟨ms, em, hm, hml⟩ := cut_len (ns := nums) (a := 5) (z := 6 + nums[2] % 24) (by omega) (by omega)
    refine ⟨_, rfl, _, rfl, _, rfl, p1, _, _, _, rfl, rfl, .inl (.inl qpG), at_int (j := 2) n2, _, _, rfl, rfl, (by show (0 : Int) < 24; decide), _, _, rfl, rfl, _, rfl, p1, _, rfl, .inl (.inl qpG), fun p3 np3 => ?_⟩
    generalize h_G3 : upd G p3 _ = G3
    have k_G3 : Kp G G3 := by rw [← h_G3]; exact .new np3
    have q_G3 := (congrFun h_G3 p3).symm.trans upd_same
    clear h_G3
    have q3 : G3 p3 = some (.lst (ms.map V.int)) := by rw [← em]; exact q_G3
    clear q_G3
    refine ⟨p3, rfl, ⟨_, .inl (.inl q3)⟩, fun L hL => ?_⟩
    refine lc_list (K := K) (a := p3) (xs := ms.map V.int) (fun i H' => Kp G3 H' ∧ ∃ ss : List Int, H' L = some (.lst (ss.map V.int)) ∧ ss.length = i) ⟨Kp.new hL, [], upd_same, rfl⟩ (fun i H' _ ⟨kp, _⟩ => kp.sqL (.inl (.inl q3))) (fun i x H' hi ⟨kp, ss, hs, hn⟩ => ?_) (fun G4 ⟨kp, ss, hs, hn⟩ => ?_)
    · have hil : i < ms.length := by
        have z := (List.getElem?_eq_some_iff.mp hi).1
        rw [List.length_map] at z
        exact z
      obtain ⟨z, _, rfl, _⟩ := mem_ints hi
      refine ⟨rfl, _, rfl, _, _, rfl, rfl, (by show (0 : Int) < 94; decide), _, _, rfl, rfl, _, hs, szt (by rw [List.length_map]; omega), kp.mut hL, ss ++ [1 + z % 94], ?_, by rw [List.length_append, hn]; rfl⟩
      rw [upd_same, List.map_append]
      rfl
    rw [List.length_map] at hn
    have kG4 := kG.trans (k_G3.trans kp)
    have qp4 := (k_G3.trans kp).same _ _ rfl qpG
    have ssl : (ss.length : Int) = 1 + nums[2] % 24 := by omega
    refine ⟨fun σ' G5 => ∃ sg : List Int, σ' = [some (.ref sa), some (.int (j : Int)), some (.ref p1), some (.str wy), some (.ref L), none] ∧ Kp H G5 ∧ G5 p1 = some (.lst (nums.map V.int)) ∧ G5 L = some (.lst (sg.map V.int)) ∧ sg.length = ss.length, ?_, ?_⟩
    · refine ⟨_, rfl, p1, _, _, _, rfl, rfl, .inl (.inl qp4), at_int (j := 3) n3, _, _, rfl, rfl, (by show (0 : Int) < 7; decide), rfl, _, rfl, iteB (fun c => ?_) (fun c => ?_)⟩
      · refine ⟨_, _, rfl, rfl, _, _, rfl, rfl, ⟨by decide, by decide, by decide⟩, szl (by show 4 ≤ 100000; decide), fun p5 np5 => ?_⟩
        generalize h_G5 : upd G4 p5 _ = G5
        have k_G5 : Kp G4 G5 := by rw [← h_G5]; exact .new np5
        have q_G5 := (congrFun h_G5 p5).symm.trans upd_same
        clear h_G5
        obtain ⟨nv, _, env⟩ := pick_int (xs := [0, 95, 0 - 5, 10 ^ (30 : Int).toNat]) (Int.emod_nonneg nums[4] (b := 4) (by decide)) (Int.emod_lt_of_pos nums[4] (b := 4) (by decide))
        have qp5 := k_G5.same _ _ rfl qp4
        have hs5 := k_G5.same _ _ rfl hs
        have lp : (0 : Int) < (((ss.map V.int).length : Nat) : Int) := by rw [List.length_map]; omega
        have i0 := Int.emod_nonneg (nums[3] / 7) (b := (((ss.map V.int).length : Nat) : Int)) (by omega)
        have i1 := Int.emod_lt_of_pos (nums[3] / 7) lp
        refine ⟨_, rfl, p1, _, _, _, rfl, rfl, .inl (.inl qp5), at_int (j := 4) n4, _, _, rfl, rfl, (by show (0 : Int) < 4; decide), p5, _, _, _, rfl, rfl, .inl (.inl q_G5), env, ?_⟩
        refine ⟨_, rfl, _, rfl, p1, _, _, _, rfl, rfl, .inl (.inl qp5), at_int (j := 3) n3, _, _, rfl, rfl, ⟨by decide, by decide⟩, _, rfl, L, _, rfl, .inl (SqL.of hs5), _, _, rfl, rfl, lp, L, _, _, (nums[3] / 7 % (((ss.map V.int).length : Nat) : Int)).toNat, rfl, rfl, hs5, ?_, ?_⟩
        · unfold ixN
          rw [if_pos i0, if_pos i1]
        · refine ⟨ss.set (nums[3] / 7 % (((ss.map V.int).length : Nat) : Int)).toNat nv, rfl, (kG4.trans k_G5).mut ?_, ?_, ?_, List.length_set ..⟩
          · exact kG.free _ (k_G3.free _ hL)
          · rw [upd_ne (fun z => by rw [z, k_G3.free _ hL] at qpG; cases qpG)]
            exact qp5
          · rw [upd_same, List.map_set]
      · exact ⟨ss, rfl, kG4, qp4, hs, rfl⟩
    rintro σ' G5 ⟨sg, rfl, kg5, qp5, hs5, hl5⟩
    refine ⟨szl (by show 4 ≤ 100000; decide), fun p6 np6 => ?_⟩
    generalize h_G6 : upd G5 p6 _ = G6
    have k_G6 : Kp G5 G6 := by rw [← h_G6]; exact .new np6
    have q_G6 := (congrFun h_G6 p6).symm.trans upd_same
    clear h_G6
    obtain ⟨nm, hnm, enm⟩ := pick_str (xs := ["send", "send", "express", "express"]) (Int.emod_nonneg nums[1] (b := 4) (by decide)) (Int.emod_lt_of_pos nums[1] (b := 4) (by decide))
    refine ⟨_, rfl, p1, _, _, _, rfl, rfl, .inl (.inl (k_G6.same _ _ rfl qp5)), at_int (j := 1) n1, _, _, rfl, rfl, (by show (0 : Int) < 4; decide), p6, _, _, _, rfl, rfl, .inl (.inl q_G6), enm, _, rfl, szl (by show 2 ≤ 100000; decide), fun p7 np7 => ?_⟩
    generalize h_G7 : upd G6 p7 _ = G7
    have k_G7 : Kp G6 G7 := by rw [← h_G7]; exact .new np7
    have q_G7 := (congrFun h_G7 p7).symm.trans upd_same
    clear h_G7
    have hs7 := (k_G6.trans k_G7).same _ _ rfl hs5
    refine ⟨_, rfl, L, _, rfl, .inl ⟨SqL.of hs7, fun p8 np8 => ?_⟩⟩
    generalize h_G8 : upd G7 p8 _ = G8
    have k_G8 : Kp G7 G8 := by rw [← h_G8]; exact .new np8
    have q_G8 := (congrFun h_G8 p8).symm.trans upd_same
    clear h_G8
    have k08 := ((kg5.trans k_G6).trans k_G7).trans k_G8
    have sgn : sg ≠ [] := fun z => by
      rw [z] at hl5
      have hl5 : 0 = ss.length := hl5
      omega
    refine ⟨p7, p8, _, _, rfl, rfl, .inl (.inl (k_G8.same _ _ rfl q_G7)), .inl (.inl q_G8), by simp, szl (by show 2 + (sg.map V.int).length ≤ 100000; rw [List.length_map]; omega), fun z => absurd (List.map_eq_nil_iff.mp z) sgn, fun _ D nD => ?_⟩
    have fin : ∀ k, nm = eN k → k ≤ 1 → Q (.ref D) (upd G8 D (.tup ([.str nm, .str wy] ++ sg.map V.int))) := fun k e hk => by
      refine q D k wy sg _ (k08.free _ nD) (k08.trans (.new nD)) (by rw [upd_same, e]; rfl) (by omega) (fun _ => sgn) (fun z => by omega) (by omega)
    simp only [List.mem_cons, List.not_mem_nil, or_false] at hnm
    rcases hnm with rfl | rfl | rfl | rfl
    · exact fin 0 rfl (by decide)
    · exact fin 0 rfl (by decide)
    · exact fin 1 rfl (by decide)
    · exact fin 1 rfl (by decide)
/-! ### a deed tried -/
theorem send_kn {s : PS} {wy : Str} {ns : List Int} {e : Str} (h : sendV s wy ns = some e) : ∃ i, i < 23 ∧ e = kn i := by
  unfold sendV at h
  by_cases c1 : isWay wy = false
  · rw [if_pos c1] at h
    exact ⟨0, by decide, (Option.some.inj h).symm⟩
  rw [if_neg c1] at h
  by_cases c2 : ns.all isSg = false
  · rw [if_pos c2] at h
    exact ⟨1, by decide, (Option.some.inj h).symm⟩
  rw [if_neg c2] at h
  by_cases c3 : 60 < (s.q (wayU wy)).length + ns.length
  · rw [if_pos c3] at h
    exact ⟨2, by decide, (Option.some.inj h).symm⟩
  rw [if_neg c3] at h
  cases h
theorem endA_send (s : PS) {k : Nat} (hk : k ≠ 2) (wy : Str) (ns : List Int) : endA s.q k wy ns = match sendV s wy ns with
    | some e => .no e
    | none => .told none := by
  unfold endA sendV
  by_cases c1 : isWay wy = false
  · rw [if_pos c1, if_pos c1]
  rw [if_neg c1, if_neg c1, if_neg hk]
  by_cases c2 : ns.all isSg = false
  · rw [if_pos c2, if_pos c2]
  rw [if_neg c2, if_neg c2]
  by_cases c3 : 60 < (s.q (wayU wy)).length + ns.length
  · rw [if_pos c3, if_pos c3]
  · rw [if_neg c3, if_neg c3]
def sp_l_tried (T : Txt K mg) (P : Program) (w : World) : Sp := fun vs H Q _ => ∃ (L D : Addr) (x : LS) (k : Nat) (wy : Str) (ns : List Int), vs = [.ref L, .ref D] ∧ LineP P w K H L x ∧ H D = some (.tup (V.str (eN k) :: .str wy :: ns.map V.int)) ∧ k ≤ 2 ∧ (k ≠ 2 → ns ≠ []) ∧ (k = 2 → ns = []) ∧ ns.length ≤ 1000 ∧ x.past.length < 9000 ∧ GxR.TabG H T.P_tab ∧ GxR.TabG H T.P_tabS ∧
  (∀ e, endA x.s.q k wy ns = .no e → ∀ r H', H r = none → Kp H H' → H' r = some (.tup (Ans.no e).vs) → Q (.ref r) H') ∧
  (∀ d, endA x.s.q k wy ns = .told d → ∀ r x' H', H r = none → Went P w K H H' L x x' → x'.s.q = endQ x.s.q k wy ns → x'.past.length = x.past.length + 1 → H' r = some (.tup (Ans.told d).vs) → Q (.ref r) H')
theorem ok_l_tried (T : Txt K mg) (TB : GxR.TabB base mg T.c_tab T.P_tab) (TBS : GxR.TabB base mg T.c_tabS T.P_tabS) : FnOk P w K mg base CX0 13 T.f_l_tried T.d_l_tried ["_law_line", "_law_deed"] (sp_l_tried T P w) := by
  refine T.F_l_tried.ok sc_l_tried (fun vs H Q E h => ?_) (fun cdv A outer s H vs Q E hr h => ?_)
  · obtain ⟨L, D, x, k, wy, ns, rfl, _⟩ := h
    rfl
  · obtain ⟨L, D, x, k, wy, ns, rfl, hL, hD, hk2, hne, hnil, hnl, hp, hT, hTS, kN, kY⟩ := h
    refine ⟨_, (pss_cons (ps_set (i := 2) sc_l_tried.nd rfl (by first | exact Or.inl rfl | exact Or.inr rfl) (pe_tup (pa_cons pe_str (pa_cons pe_str pa_nil))))
      (pss_cons (ps_set (i := 3) sc_l_tried.nd rfl (by first | exact Or.inl rfl | exact Or.inr rfl) (pe_callTy call_list_of (by rfl) T.m_list (by decide +kernel) (pa_cons (pe_slice sl_tup (pv 1) (po_some pe_int) po_none) pa_nil)))
      (Evl.pss_cut (ps_try_as (i := 4) rfl rfl sc_l_tried.nd rfl rfl ⟨rfl, by decide, Or.inl T.g_MastError⟩ takes0
      (fun W pn xe tk _ => (pss_one (ps_if (pt_cmpR op_eq (pe_ix (ix_tupK K rfl) (pv 1) pe_int (fun _ _ => rfl)) pe_str (nomark _))
      (pss_one (ps_set (i := 2) sc_l_tried.nd rfl (by first | exact Or.inl rfl | exact Or.inr rfl) (pe_tup (pa_cons pe_str (pa_cons (pe_methE (pv 0) T.cl_Line T.M_p_Line_recall (ok_p_Line_recall (P := P) (w := w) (base := base) T TB) (hr.mono (by decide)) T.b_p_Line_recall (fun σ => passAt tk σ) (pa_cons (pe_ix (ix_tupK K rfl) (pv 1) pe_int (fun _ _ => rfl)) pa_nil)) pa_nil)))))
      (pss_one (ps_if (pt_cmpR op_eq (pe_ix (ix_tupK K rfl) (pv 1) pe_int (fun _ _ => rfl)) pe_str (nomark _))
      (pss_one (ps_set (i := 2) sc_l_tried.nd rfl (by first | exact Or.inl rfl | exact Or.inr rfl) (pe_tup (pa_cons pe_str (pa_cons (pe_methE (pv 0) T.cl_Line T.M_p_Line_send (ok_p_Line_send (P := P) (w := w) (base := base) T TB TBS) (hr.mono (by decide)) T.b_p_Line_send (fun σ => passAt tk σ) (pa_cons (pe_ix (ix_tupK K rfl) (pv 1) pe_int (fun _ _ => rfl)) (pa_cons (pv 3) pa_nil))) pa_nil)))))
      (pss_one (ps_set (i := 2) sc_l_tried.nd rfl (by first | exact Or.inl rfl | exact Or.inr rfl) (pe_tup (pa_cons pe_str (pa_cons (pe_methE (pv 0) T.cl_Line T.M_p_Line_express (ok_p_Line_express (P := P) (w := w) (base := base) T TB TBS) (hr.mono (by decide)) T.b_p_Line_express (fun σ => passAt tk σ) (pa_cons (pe_ix (ix_tupK K rfl) (pv 1) pe_int (fun _ _ => rfl)) (pa_cons (pv 3) pa_nil))) pa_nil))))))))))
      (fun a oe cls d pn hz hf => (pss_one (ps_set (i := 2) sc_l_tried.nd rfl (by first | exact Or.inl rfl | exact Or.inr rfl) (pe_tup (pa_cons pe_str (pa_cons (pe_callE (ok_l_kind T) (hr.mono (by decide)) hz hf rfl T.g_l_kind T.F_l_kind.kp T.b_l_kind (pa_cons (pv 4) pa_nil)) pa_nil)))))))
      (pss_cons (ps_if (pt_cmpR (op_neD hr.units) (pv 3) (pe_callTy call_list_of (by rfl) T.m_list (by decide +kernel) (pa_cons (pe_slice sl_tup (pv 1) (po_some pe_int) po_none) pa_nil)) (nomark _))
      (pss_one (ps_ret (pe_tup (pa_cons pe_str (pa_cons pe_str pa_nil)))))
      pss_nil)
      (pss_cons (ps_expr (pe_bm PySem.F.plainAttrs_list PySem.F.slot_list_append PySem.F.type_list_append mt_append (pv 3) (pa_cons pe_int pa_nil)))
      (pss_one (ps_ret (pv 2)))))))), ?_⟩
    refine ⟨szl (by show 2 ≤ 100000; decide), fun p1 np1 => ?_⟩
    generalize h_H1 : upd H p1 _ = H1
    have k_H1 : Kp H H1 := by rw [← h_H1]; exact .new np1
    have q_H1 := (congrFun h_H1 p1).symm.trans upd_same
    clear h_H1
    have hD1 := k_H1.same _ _ rfl hD
    refine ⟨_, rfl, _, rfl, D, _, rfl, .inl (.inl hD1), cut2n _ _ _, fun pc npc => ?_⟩
    rw [cut2]
    generalize h_H2 : upd H1 pc _ = H2
    have k_H2 : Kp H1 H2 := by rw [← h_H2]; exact .new npc
    have q_H2 := (congrFun h_H2 pc).symm.trans upd_same
    clear h_H2
    refine ⟨pc, _, rfl, .inr (.inl (.inl q_H2)), fun hA nhA => ?_⟩
    generalize h_H3 : upd H2 hA _ = H3
    have k_H3 : Kp H2 H3 := by rw [← h_H3]; exact .new nhA
    have q_H3 := (congrFun h_H3 hA).symm.trans upd_same
    clear h_H3
    have k03 := (k_H1.trans k_H2).trans k_H3
    have hD3 := k03.same _ _ rfl hD
    have hL3 := hL.kp k03
    have nA0 : H hA = none := k_H1.free _ (k_H2.free _ nhA)
    have nAf : hA ∉ x.foot L := hL.foot_none nA0
    have sA : SqL K H3 hA (ns.map V.int) := .inl (.inl q_H3)
    obtain ⟨dx, hl⟩ := hL3.at_.ob
    refine ⟨fun σ' G => ∃ (r : Addr) (A : Ans) (y : Option V), σ' = [some (.ref L), some (.ref D), some (.ref r), some (.ref hA), y] ∧ endA x.s.q k wy ns = A ∧ H r = none ∧ G r = some (.tup A.vs) ∧ G hA = some (.lst (ns.map V.int)) ∧ G D = some (.tup (V.str (eN k) :: .str wy :: ns.map V.int)) ∧
      ((∃ e, A = .no e ∧ Kp H G) ∨ ∃ d x', A = .told d ∧ Went P w K H G L x x' ∧ hA ∉ x'.foot L ∧ x'.s.q = endQ x.s.q k wy ns ∧ x'.past.length = x.past.length + 1), ?_, ?_⟩
    · have no : ∀ i, i < 23 → endA x.s.q k wy ns = .no (kn i) → ∀ H5, Kp H3 H5 → ∀ r, H5 r = none → ∀ G, G = upd H5 r (.tup [.str "no", .str (kn i)]) → endA x.s.q k wy ns = .no (kn i) ∧ H r = none ∧ G r = some (.tup (Ans.no (kn i)).vs) ∧ G hA = some (.lst (ns.map V.int)) ∧ G D = some (.tup (V.str (eN k) :: .str wy :: ns.map V.int)) ∧
          ((∃ e, Ans.no (kn i) = .no e ∧ Kp H G) ∨ ∃ d x', Ans.no (kn i) = .told d ∧ Went P w K H G L x x' ∧ hA ∉ x'.foot L ∧ x'.s.q = endQ x.s.q k wy ns ∧ x'.past.length = x.past.length + 1) := fun i hi ea H5 k35 r nr G eG => by
        subst eG
        have kr : Kp H5 (upd H5 r (.tup [.str "no", .str (kn i)])) := .new nr
        exact ⟨ea, (k03.trans k35).free _ nr, upd_same, (k35.trans kr).same _ _ rfl q_H3, (k35.trans kr).same _ _ rfl hD3, .inl ⟨_, rfl, (k03.trans k35).trans kr⟩⟩
      have yes : ∀ (d : Option Int), endA x.s.q k wy ns = .told d → ∀ H5 x', Went P w K H3 H5 L x x' → x'.s.q = endQ x.s.q k wy ns → x'.past.length = x.past.length + 1 → ∀ r, H5 r = none → ∀ G, G = upd H5 r (.tup (Ans.told d).vs) → endA x.s.q k wy ns = .told d ∧ H r = none ∧ G r = some (.tup (Ans.told d).vs) ∧ G hA = some (.lst (ns.map V.int)) ∧ G D = some (.tup (V.str (eN k) :: .str wy :: ns.map V.int)) ∧
          ((∃ e, Ans.told d = .no e ∧ Kp H G) ∨ ∃ d' x', Ans.told d = .told d' ∧ Went P w K H G L x x' ∧ hA ∉ x'.foot L ∧ x'.s.q = endQ x.s.q k wy ns ∧ x'.past.length = x.past.length + 1) := fun d ea H5 x' g eq ep r nr G eG => by
        subst eG
        have kr : Kp H5 (upd H5 r (.tup (Ans.told d).vs)) := .new nr
        exact ⟨ea, k03.free _ (g.e.free _ nr), upd_same, kr.same _ _ rfl (g.e.same _ _ rfl nAf q_H3), kr.same _ _ rfl (g.tup hL3 hD3), .inr ⟨d, x', rfl, (Went.pre k03 g).post kr, g.off (by rw [q_H3]; intro z; cases z) nAf, eq, ep⟩⟩
      have bad : ∀ i, i < 23 → PySem.W.exmOne K (.ref (He.ga K (kn i))) (.ref T.a_MastError) = some true := fun i hi => kind_mast T hi
      refine ⟨_, rfl, D, _, _, _, rfl, rfl, .inl (.inl hD3), at_0, rfl, _, rfl, ?_⟩
      by_cases k2 : k = 2
      · subst k2
        refine iteTo (by decide +kernel) ?_
        have en : ns = [] := hnil rfl
        have a1 : endA x.s.q 2 wy ns = if isWay wy = false then .no "BadWay" else (if x.s.q (wayU wy) = [] then .no "NothingWaits" else .told (some (lastZ (x.s.q (wayU wy))))) := rfl
        refine ⟨_, rfl, L, dx, _, rfl, hl, fldL_no _ _ _ (by decide +kernel) (by decide +kernel) (by decide +kernel), _, rfl, D, _, _, _, rfl, rfl, .inl (.inl hD3), at_1, L, x, wy, rfl, hL3, hp, k03.tab _ hT, fun hw H4 k4 => ?_, fun hw hq H4 k4 => ?_, fun hw hq a' H4 g => ?_⟩
        · refine ⟨true, bad 0 (by decide), fun _ e ne => ?_, fun q => Bool.noConfusion q⟩
          refine ⟨_, rfl, 0, rfl, by decide, rfl, rfl, fun H5 k5 => ⟨szl (by show 2 ≤ 100000; decide), fun r nr => ⟨r, .no (kn 0), _, rfl, no 0 (by decide) (by rw [a1, if_pos hw]; rfl) H5 (k4.trans k5) r nr _ rfl⟩⟩⟩
        · refine ⟨true, bad 3 (by decide), fun _ e ne => ?_, fun q => Bool.noConfusion q⟩
          refine ⟨_, rfl, 3, rfl, by decide, rfl, rfl, fun H5 k5 => ⟨szl (by show 2 ≤ 100000; decide), fun r nr => ⟨r, .no (kn 3), _, rfl, no 3 (by decide) (by rw [a1, if_neg (by rw [hw]; decide), if_pos hq]; rfl) H5 (k4.trans k5) r nr _ rfl⟩⟩⟩
        · have ea : endA x.s.q 2 wy ns = .told (some (lastZ (x.s.q (wayU wy)))) := by rw [a1, if_neg (by rw [hw]; decide), if_neg hq]
          refine ⟨szl (by show 2 ≤ 100000; decide), fun r nr => ⟨r, .told (some (lastZ (x.s.q (wayU wy)))), _, rfl, yes _ ea H4 _ g ?_ ?_ r nr _ rfl⟩⟩
          · unfold endQ
            rw [ea]
            rfl
          · show (x.past ++ [_]).length = _
            rw [List.length_append]
            rfl
      · have nrec : decide (V.str (eN k) = V.str "recall") = false := by
          rcases (show k = 0 ∨ k = 1 by omega) with rfl | rfl <;> decide +kernel
        refine iteFo nrec ?_
        have ends := endA_send x.s k2 wy ns
        refine ⟨_, rfl, D, _, _, _, rfl, rfl, .inl (.inl hD3), at_0, rfl, _, rfl, ?_⟩
        rcases (show k = 0 ∨ k = 1 by omega) with rfl | rfl
        · refine iteTo (by decide +kernel) ?_
          refine ⟨_, rfl, L, dx, _, rfl, hl, fldL_no _ _ _ (by decide +kernel) (by decide +kernel) (by decide +kernel), _, rfl, D, _, _, _, rfl, rfl, .inl (.inl hD3), at_1, _, rfl, L, x, wy, hA, ns, rfl, hL3, sA, nAf, hnl, hp, k03.tab _ hT, k03.tab _ hTS, fun e ev H4 k4 => ?_, fun _ z => absurd z (hne k2), fun ev _ a' H4 g => ?_⟩
          · obtain ⟨i, hi, rfl⟩ := send_kn ev
            rw [ev] at ends
            refine ⟨true, bad i hi, fun _ e ne => ?_, fun q => Bool.noConfusion q⟩
            refine ⟨_, rfl, i, rfl, hi, rfl, rfl, fun H5 k5 => ⟨szl (by show 2 ≤ 100000; decide), fun r nr => ⟨r, .no (kn i), _, rfl, no i hi ends H5 (k4.trans k5) r nr _ rfl⟩⟩⟩
          · rw [ev] at ends
            refine ⟨szl (by show 2 ≤ 100000; decide), fun r nr => ⟨r, .told none, _, rfl, yes none ends H4 _ g ?_ ?_ r nr _ rfl⟩⟩
            · unfold endQ
              rw [ends]
              show (insQ x.s (wayU wy) (x.s.q (wayU wy)).length ns).q = setU x.s.q (wayU wy) (x.s.q (wayU wy) ++ ns)
              unfold insQ
              rw [List.take_length, List.drop_length, List.append_nil]
              rfl
            · show (x.past ++ [_]).length = _
              rw [List.length_append]
              rfl
        · refine iteFo (by decide +kernel) ?_
          refine ⟨_, rfl, L, dx, _, rfl, hl, fldL_no _ _ _ (by decide +kernel) (by decide +kernel) (by decide +kernel), _, rfl, D, _, _, _, rfl, rfl, .inl (.inl hD3), at_1, _, rfl, L, x, wy, hA, ns, rfl, hL3, sA, nAf, hnl, hp, k03.tab _ hT, k03.tab _ hTS, fun e ev H4 k4 => ?_, fun _ z => absurd z (hne k2), fun ev _ a' H4 g => ?_⟩
          · obtain ⟨i, hi, rfl⟩ := send_kn ev
            rw [ev] at ends
            refine ⟨true, bad i hi, fun _ e ne => ?_, fun q => Bool.noConfusion q⟩
            refine ⟨_, rfl, i, rfl, hi, rfl, rfl, fun H5 k5 => ⟨szl (by show 2 ≤ 100000; decide), fun r nr => ⟨r, .no (kn i), _, rfl, no i hi ends H5 (k4.trans k5) r nr _ rfl⟩⟩⟩
          · rw [ev] at ends
            refine ⟨szl (by show 2 ≤ 100000; decide), fun r nr => ⟨r, .told none, _, rfl, yes none ends H4 _ g ?_ ?_ r nr _ rfl⟩⟩
            · unfold endQ
              rw [ends]
              show (insQ x.s (wayU wy) 0 ns).q = setU x.s.q (wayU wy) (ns ++ x.s.q (wayU wy))
              rfl
            · show (x.past ++ [_]).length = _
              rw [List.length_append]
              rfl
    rintro σ' G ⟨r, A, y, rfl, ea, nr, hr4, hA4, hD4, alt⟩
    refine ⟨_, rfl, _, rfl, _, rfl, D, _, rfl, .inl (.inl hD4), cut2n _ _ _, fun pc2 npc2 => ?_⟩
    rw [cut2]
    generalize h_G1 : upd G pc2 _ = G1
    have k_G1 : Kp G G1 := by rw [← h_G1]; exact .new npc2
    have q_G1 := (congrFun h_G1 pc2).symm.trans upd_same
    clear h_G1
    refine ⟨pc2, _, rfl, .inr (.inl (.inl q_G1)), fun l2 nl2 => ?_⟩
    generalize h_G2 : upd G1 l2 _ = G2
    have k_G2 : Kp G1 G2 := by rw [← h_G2]; exact .new nl2
    have q_G2 := (congrFun h_G2 l2).symm.trans upd_same
    clear h_G2
    have kG := k_G1.trans k_G2
    have dm : Dm 4 (dI ns) := dm_dI (by omega)
    have hA6 := kG.same _ _ rfl hA4
    refine ⟨dI ns, dI ns, dp_dI (.inl (.inl hA6)), dp_dI (.inl (.inl q_G2)), dm.shaped (by decide), dm.shaped (by decide), _, rfl, iteFo (by rw [dm.same (by decide)]; rfl) ?_⟩
    refine ⟨_, rfl, .inl ⟨rfl, _, SqL.of hA6⟩, hA, _, _, rfl, rfl, hA6, szt (by rw [List.length_map]; omega), ?_⟩
    refine ⟨_, rfl, ?_⟩
    have hr6 := kG.same _ _ rfl hr4
    have rA : r ≠ hA := ne_of hr6 hA6 (by intro z; cases z)
    rcases alt with ⟨e, rfl, kp⟩ | ⟨d, x', rfl, g, off, eq, ep⟩
    · exact kN e ea r _ nr ((kp.trans kG).mut nA0) (by rw [upd_ne rA]; exact hr6)
    · exact kY d ea r x' _ nr ((g.post kG).putL hA6 off nA0) eq ep (by rw [upd_ne rA]; exact hr6)
/-! ### law -/
def sp_law (K : PySem.W.Frag) (Pt Ps : Addr) : Sp := fun vs H Q _ => ∃ (a : Addr) (ns : List Int), vs = [.ref a] ∧ SqL K H a (ns.map V.int) ∧ ns.length ≤ 63 ∧ GxR.TabG H Pt ∧ GxR.TabG H Ps ∧ ∀ H', Q (.bl true) H'
def looksD (qs : Bool → List Int) : PyData := .list [dI (qs true), dI (qs false)]
theorem dI_dn {n : Nat} {xs : List Int} (h : xs.length ≤ 10000) : Dn (n + 2) (dI xs) := .lst (fun d hd => by
  obtain ⟨x, _, rfl⟩ := List.mem_map.mp hd
  exact .int _ _) (by rw [List.length_map]; exact h)
theorem looks_dn {qs : Bool → List Int} (h : ∀ u, (qs u).length ≤ 60) : Dn 4 (looksD qs) := .lst (fun d hd => by
  have := h false
  have := h true
  simp only [List.mem_cons, List.not_mem_nil, or_false] at hd
  rcases hd with rfl | rfl
  · exact dI_dn (by omega)
  · exact dI_dn (by omega)) (by show 2 ≤ 10000; decide)
structure Sat (P : Program) (w : World) (K : PySem.W.Frag) (L S W : Addr) (G H : Hp) (i : Nat) (x : LS) (ad : Bool → Addr) : Prop where
  kp : Kp G H
  ln : LineP P w K H L x
  past : x.past.length ≤ i
  sk : EndSt H S W ad x.s.q
  fF : ∀ b ∈ x.foot L, G b = none
  fS : ∀ b ∈ [S, ad false, ad true], G b = none
  dj : ∀ b ∈ [S, ad false, ad true], b ∉ x.foot L
theorem Sat.to {P : Program} {w : World} {K : PySem.W.Frag} {L S W : Addr} {G H H' : Hp} {i : Nat} {x : LS} {ad : Bool → Addr} (s : Sat P w K L S W G H i x ad) (k : Kp H H') : Sat P w K L S W G H' i x ad :=
  ⟨s.kp.trans k, s.ln.kp k, s.past, s.sk.kp k, s.fF, s.fS, s.dj⟩
theorem ok_law (T : Txt K mg) (TB : GxR.TabB base mg T.c_tab T.P_tab) (TBS : GxR.TabB base mg T.c_tabS T.P_tabS) {f : Addr} {fd : FuncData} (F : Fun K "law" "law" s_law f fd) : FnOk P w K mg base CX0 20 f fd ["_law_script"] (sp_law K T.P_tab T.P_tabS) := by
  refine F.ok sc_law (fun vs H Q E h => ?_) (fun cdv A outer s H vs Q E hr h => ?_)
  · obtain ⟨a, ns, rfl, _⟩ := h
    rfl
  · obtain ⟨sa, ns, rfl, hS, hlen, hT, hTS, k⟩ := h
    have hu := hu_of hr
    refine ⟨_, (Evl.pss_cut (ps_set (i := 1) sc_law.nd rfl (by first | exact Or.inl rfl | exact Or.inr rfl) (pe_make T.K_Line (ok_p_Line_init T) (hr.mono (by decide)) rfl T.g_Line T.b_p_Line_init .nil pass0 (pa_cons (pe_op op_add pe_int (pe_op op_mod (pe_call (ok_l_cell T) (hr.mono (by decide)) rfl T.g_l_cell T.F_l_cell.kp T.b_l_cell .nil pass0 (pa_cons (pv 0) (pa_cons pe_int pa_nil))) pe_int)) pa_nil)))
      (pss_cons (ps_set (i := 2) sc_law.nd rfl (by first | exact Or.inl rfl | exact Or.inr rfl) (pe_disp (pps_cons pe_str (pe_lst pa_nil) (pps_cons pe_str (pe_lst pa_nil) (pps_cons pe_str pe_dnewK pps_nil))) rfl rfl (by intro z; cases z) (by decide)))
      (pss_cons (ps_for PassesOwn.never rfl (pi_range2 (by rfl) T.m_range (pa_cons pe_int (pa_cons (pe_callB (call_max2 rfl) (by rfl) T.m_max (by decide +kernel) (pa_cons pe_int (pa_cons (pe_callB (call_min2 rfl) (by rfl) T.m_min (by decide +kernel) (pa_cons pe_int (pa_cons (pe_callB call_len_seq (by rfl) T.m_len PySem.boot_len (pa_cons (pv 0) pa_nil)) pa_nil))) pa_nil))) pa_nil))) (pg_name (i := 3) sc_law.nd rfl (by first | exact Or.inl rfl | exact Or.inr rfl))
      (pss_cons (ps_set (i := 4) sc_law.nd rfl (by first | exact Or.inl rfl | exact Or.inr rfl) (pe_call (ok_l_end T) (hr.mono (by decide)) rfl T.g_l_end T.F_l_end.kp T.b_l_end .nil pass0 (pa_cons (pv 0) (pa_cons (pv 3) pa_nil))))
      (pss_cons (ps_set (i := 5) sc_law.nd rfl (by first | exact Or.inl rfl | exact Or.inr rfl) (pe_call (ok_l_end_deed T) (hr.mono (by decide)) rfl T.g_l_end_deed T.F_l_end_deed.kp T.b_l_end_deed .nil pass0 (pa_cons (pv 2) (pa_cons (pv 4) pa_nil))))
      (Evl.pss_cut (ps_if (pt_not (pt_val (pe_call (ok_l_like T 4) (hr.mono (by decide)) rfl T.g_l_like T.F_l_like.kp T.b_l_like .nil pass0 (pa_cons (pe_call (ok_l_tried T TB TBS) (hr.mono (by decide)) rfl T.g_l_tried T.F_l_tried.kp T.b_l_tried .nil pass0 (pa_cons (pv 1) (pa_cons (pv 4) pa_nil))) (pa_cons (pv 5) pa_nil)))))
      (pss_one (ps_ret pe_bl))
      pss_nil)
      (pss_one (ps_if (pt_cmpR op_ne (pe_op op_mod (pe_call (ok_l_cell T) (hr.mono (by decide)) rfl T.g_l_cell T.F_l_cell.kp T.b_l_cell .nil pass0 (pa_cons (pv 0) (pa_cons (pv 3) pa_nil))) pe_int) pe_int (nomark _))
      (pss_cons (ps_set (i := 6) sc_law.nd rfl (by first | exact Or.inl rfl | exact Or.inr rfl) (pe_lst (pa_cons (pe_meth (pv 1) T.cl_Line T.M_p_Line_waiting (ok_p_Line_waiting T) (hr.mono (by decide)) T.b_p_Line_waiting .nil passL (pa_cons pe_str pa_nil)) (pa_cons (pe_meth (pv 1) T.cl_Line T.M_p_Line_waiting (ok_p_Line_waiting T) (hr.mono (by decide)) T.b_p_Line_waiting .nil passL (pa_cons pe_str pa_nil)) pa_nil))))
      (pss_cons (ps_if (pt_not (pt_val (pe_call (ok_l_like T 4) (hr.mono (by decide)) rfl T.g_l_like T.F_l_like.kp T.b_l_like .nil pass0 (pa_cons (pv 6) (pa_cons (pe_lst (pa_cons (pe_dget hu (pv 2) pe_str (fun _ _ => rfl)) (pa_cons (pe_dget hu (pv 2) pe_str (fun _ _ => rfl)) pa_nil))) pa_nil)))))
      (pss_one (ps_ret pe_bl))
      pss_nil)
      (pss_one (ps_expr (pe_bm PySem.F.plainAttrs_list PySem.F.slot_list_append PySem.F.type_list_append mt_append (pe_ix ix_list (pv 6) pe_int (fun _ _ => rfl)) (pa_cons pe_int pa_nil))))))
      pss_nil))))))
      (pss_one (ps_ret (pe_call (ok_l_like T 4) (hr.mono (by decide)) rfl T.g_l_like T.F_l_like.kp T.b_l_like .nil pass0 (pa_cons (pe_lst (pa_cons (pe_meth (pv 1) T.cl_Line T.M_p_Line_waiting (ok_p_Line_waiting T) (hr.mono (by decide)) T.b_p_Line_waiting .nil passL (pa_cons pe_str pa_nil)) (pa_cons (pe_meth (pv 1) T.cl_Line T.M_p_Line_waiting (ok_p_Line_waiting T) (hr.mono (by decide)) T.b_p_Line_waiting .nil passL (pa_cons pe_str pa_nil)) pa_nil))) (pa_cons (pe_lst (pa_cons (pe_dget hu (pv 2) pe_str (fun _ _ => rfl)) (pa_cons (pe_dget hu (pv 2) pe_str (fun _ _ => rfl)) pa_nil))) pa_nil)))))))), ?_⟩
    refine ⟨fun σ' H' => ∃ (n : Nat) (L : Addr) (a : LA), σ' = [some (.ref sa), some (.ref L), none, none, none, none, none] ∧ 2 ≤ n ∧ n ≤ 12 ∧ Kp H H' ∧ LineP P w K H' L (newL a n) ∧ ∀ b ∈ footL L a n, H b = none, ?_, ?_⟩
    · have h0 := Int.emod_nonneg (cellV ns 0) (b := 11) (by decide)
      have h1 := Int.emod_lt_of_pos (cellV ns 0) (b := 11) (by decide)
      refine ⟨_, rfl, sa, ns, 0, rfl, hS, by decide, _, _, rfl, rfl, (by show (0 : Int) < 11; decide), _, _, rfl, rfl, fun L dx nL ndx nn => ?_⟩
      refine ⟨L, dx, (2 + cellV ns 0 % 11).toNat, ?_, upd_same, by omega, by omega, fun a H1 hF e1 hL => ⟨rfl, (2 + cellV ns 0 % 11).toNat, L, a, rfl, by omega, by omega, kp_made nL ndx nn e1, new_line hL (by omega) (by omega), fun b hb => ?_⟩⟩
      · rw [Int.toNat_of_nonneg (by omega)]
        rfl
      · rcases hF b hb with rfl | z
        · exact nL
        · exact ((Kp.new ndx).trans (.new (by rw [upd_ne nn.symm]; exact nL))).free _ z
    rintro σ' H1 ⟨n, L, a, rfl, hn1, hn2, k1, hL, hF0⟩
    intro S nS
    have hS0 : upd H1 S (HO.dK []) S = some (HO.dK []) := upd_same
    have kS : Kp H1 (upd H1 S (HO.dK [])) := .new nS
    generalize upd H1 S (HO.dK []) = H2 at hS0 kS ⊢
    refine ⟨Nat.zero_le _, fun A1 nA1 => ?_⟩
    generalize h_H3 : upd H2 A1 _ = H3
    have k_H3 : Kp H2 H3 := by rw [← h_H3]; exact .new nA1
    have q_H3 := (congrFun h_H3 A1).symm.trans upd_same
    clear h_H3
    refine ⟨Nat.zero_le _, fun A0 nA0 => ?_⟩
    generalize h_H4 : upd H3 A0 _ = H4
    have k_H4 : Kp H3 H4 := by rw [← h_H4]; exact .new nA0
    have q_H4 := (congrFun h_H4 A0).symm.trans upd_same
    clear h_H4
    intro W nW
    generalize h_H6 : upd H4 W _ = H6
    have k_H6 : Kp H4 H6 := by rw [← h_H6]; exact .new nW
    have q_H6 := (congrFun h_H6 W).symm.trans upd_same
    clear h_H6
    have k46 := (k_H3.trans k_H4).trans k_H6
    have qS6 := k46.same _ _ rfl hS0
    have q16 := (k_H4.trans k_H6).same _ _ rfl q_H3
    have q06 := k_H6.same _ _ rfl q_H4
    refine ⟨qS6, [(Sum.inr "up", .ref A1), (Sum.inr "down", .ref A0), (Sum.inr "words", .ref W)], rfl, (by show 3 ≤ 15; decide), ?_⟩
    have k17 : Kp H1 (upd H6 S (.dK (mergeK [] [(Sum.inr "up", .ref A1), (Sum.inr "down", .ref A0), (Sum.inr "words", .ref W)]))) := (kS.trans k46).mut nS
    have q7S : upd H6 S (.dK (mergeK [] [(Sum.inr "up", .ref A1), (Sum.inr "down", .ref A0), (Sum.inr "words", .ref W)])) S = some (.dK [(Sum.inr "up", .ref A1), (Sum.inr "down", .ref A0), (Sum.inr "words", .ref W)]) := upd_same
    have q71 : upd H6 S (.dK (mergeK [] [(Sum.inr "up", .ref A1), (Sum.inr "down", .ref A0), (Sum.inr "words", .ref W)])) A1 = some (.lst []) := by rw [upd_ne (ne_of q16 qS6 (by intro z; cases z))]; exact q16
    have q70 : upd H6 S (.dK (mergeK [] [(Sum.inr "up", .ref A1), (Sum.inr "down", .ref A0), (Sum.inr "words", .ref W)])) A0 = some (.lst []) := by rw [upd_ne (ne_of q06 qS6 (by intro z; cases z))]; exact q06
    generalize upd H6 S (.dK (mergeK [] [(Sum.inr "up", .ref A1), (Sum.inr "down", .ref A0), (Sum.inr "words", .ref W)])) = H7 at k17 q7S q71 q70 ⊢
    have ne10 : A1 ≠ A0 := fun z => by
      rw [← z, q_H3] at nA0
      cases nA0
    have f1 : H1 A1 = none := kS.free _ nA1
    have f0 : H1 A0 = none := kS.free _ (k_H3.free _ nA0)
    have fF1 : ∀ b ∈ [S, A0, A1], H1 b = none := fun b hb => by
      simp only [List.mem_cons, List.not_mem_nil, or_false] at hb
      rcases hb with rfl | rfl | rfl
      · exact nS
      · exact f0
      · exact f1
    have sat0 : Sat P w K L S W H H7 0 (newL a n) (fun u => if u = true then A1 else A0) := by
      refine ⟨k1.trans k17, hL.kp k17, Nat.le_refl _, ⟨q7S, fun u => ?_, ne10⟩, hF0, fun b hb => k1.free _ (fF1 b hb), fun b hb hb2 => hL.at_.alloc b hb2 (fF1 b hb)⟩
      cases u
      · exact q70
      · exact q71
    generalize hx0 : newL a n = x0 at sat0
    generalize (fun u => if u = true then A1 else A0) = ad0 at sat0
    clear q7S q71 q70 hx0
    refine ⟨_, rfl, sa, _, rfl, .inl (sat0.kp.sqL hS), 41, _, rfl, 9, _, rfl, _, _, rfl, ?_, ?_⟩
    · rw [List.length_map]
      split <;> split <;> omega
    refine for_range (lo := 1) (n := ((if (if (((ns.map V.int).length : Nat) : Int) < 41 then (((ns.map V.int).length : Nat) : Int) else 41) > 9 then (if (((ns.map V.int).length : Nat) : Int) < 41 then (((ns.map V.int).length : Nat) : Int) else 41) else 9) - 1).toNat) (fun i σ G => ∃ (x : LS) (ad : Bool → Addr) (y3 y4 y5 y6 : Option V), σ = [some (.ref sa), some (.ref L), some (.ref S), y3, y4, y5, y6] ∧ Sat P w K L S W H G i x ad)
      ⟨x0, ad0, none, none, none, none, rfl, sat0⟩ ?_ ?_
    · rintro i σ G hi ⟨x, ad, y3, y4, y5, y6, rfl, st⟩
      have hi : i < 40 := by
        rw [List.length_map] at hi
        revert hi
        split <;> split <;> omega
      refine ⟨_, rfl, _, rfl, sa, ns, 1 + i, rfl, st.kp.sqL hS, by omega, fun D kd wy sg G4 nD k4 hD hk2 hne hnil hsl => ?_⟩
      have st4 := st.to k4
      have pl4 := st4.past
      refine ⟨_, rfl, _, rfl, S, W, D, ad, x.s.q, kd, wy, sg, rfl, st4.sk, hD, hne, hk2, by omega, st4.ln.ok.q, fun r ad5 G5 nr e5 ha5 sk5 hr5 => ?_⟩
      have ob4 : ∀ b ∈ [S, ad false, ad true], (∃ g, G4 b = some (.lst g)) ∨ (∃ g, G4 b = some (.dK g)) ∨ (∃ g, G4 b = some (.dT g)) ∨ G4 b = none := fun b hb => by
        simp only [List.mem_cons, List.not_mem_nil, or_false] at hb
        rcases hb with rfl | rfl | rfl
        · exact .inr (.inl ⟨_, st4.sk.st⟩)
        · exact .inl ⟨_, st4.sk.at_ false⟩
        · exact .inl ⟨_, st4.sk.at_ true⟩
      have nT : ∀ {z : Addr} {vs : List V}, G4 z = some (.tup vs) → z ∉ [S, ad false, ad true] := fun {z vs} hz m => by
        rcases ob4 z m with ⟨g, h⟩ | ⟨g, h⟩ | ⟨g, h⟩ | h <;> rw [hz] at h <;> cases h
      have ln5 := st4.ln.kpX e5 ob4 st4.dj
      have kp5 := KpE.kp st4.kp e5 st4.fS
      have all5 : ∀ b ∈ [S, ad5 false, ad5 true], b ∈ [S, ad false, ad true] ∨ G4 b = none := fun b hb => by
        simp only [List.mem_cons, List.not_mem_nil, or_false] at hb
        rcases hb with rfl | rfl | rfl
        · exact .inl List.mem_cons_self
        · rcases ha5 false with z | z
          · rw [z]; exact .inl (by simp)
          · exact .inr z
        · rcases ha5 true with z | z
          · rw [z]; exact .inl (by simp)
          · exact .inr z
      have fS5 : ∀ b ∈ [S, ad5 false, ad5 true], H b = none := fun b hb => (all5 b hb).elim (st4.fS b) (st4.kp.free b)
      have dj5 : ∀ b ∈ [S, ad5 false, ad5 true], b ∉ x.foot L := fun b hb hb2 => (all5 b hb).elim (fun m => st4.dj b m hb2) (fun z => st4.ln.at_.alloc b hb2 z)
      have hD5 := e5.same _ _ rfl (nT hD) hD
      refine ⟨fun σ' G7 => ∃ x' : LS, σ' = [some (.ref sa), some (.ref L), some (.ref S), some (.int (1 + (i : Int))), some (.ref D), some (.ref r), y6] ∧ Sat P w K L S W H G7 (i + 1) x' ad5, ?_, ?_⟩
      · refine ⟨_, rfl, _, rfl, L, D, x, kd, wy, sg, rfl, ln5, hD5, hk2, hne, hnil, by omega, by omega, kp5.tab _ hT, kp5.tab _ hTS, fun e ea t G6 nt k6 ht6 => ?_, fun d ea t x' G6 nt g eq ep ht6 => ?_⟩
        · rw [ea] at hr5
          have eQ : endQ x.s.q kd wy sg = x.s.q := by unfold endQ; rw [ea]
          rw [eQ] at sk5
          have hr6 := k6.same _ _ rfl hr5
          refine ⟨_, rfl, _, _, (Ans.no e).d, rfl, Ans.dp ht6, Ans.dp hr6, Ans.dn _, fun G7 k7 => ⟨_, rfl, iteFo rfl ?_⟩⟩
          exact ⟨x, rfl, ⟨kp5.trans (k6.trans k7), ln5.kp (k6.trans k7), by omega, sk5.kp (k6.trans k7), st4.fF, fS5, dj5⟩⟩
        · rw [ea] at hr5
          have hr6 := g.tup ln5 hr5
          refine ⟨_, rfl, _, _, (Ans.told d).d, rfl, Ans.dp ht6, Ans.dp hr6, Ans.dn _, fun G7 k7 => ⟨_, rfl, iteFo rfl ?_⟩⟩
          have al5 : ∀ b ∈ [S, ad5 false, ad5 true], G5 b ≠ none := fun b hb z => by
            simp only [List.mem_cons, List.not_mem_nil, or_false] at hb
            rcases hb with rfl | rfl | rfl
            · rw [sk5.st] at z; cases z
            · rw [sk5.at_ false] at z; cases z
            · rw [sk5.at_ true] at z; cases z
          have kp6 : Kp H G6 := KpE.kp kp5 g.e st4.fF
          have sk6 := sk5.kpE g.e (fun m => dj5 S List.mem_cons_self m) (fun u m => dj5 (ad5 u) (by cases u <;> simp) m)
          rw [← eq] at sk6
          exact ⟨x', rfl, ⟨kp6.trans k7, g.at_.kp k7, by omega, sk6.kp k7, fun b hb => (g.ft b hb).elim (st4.fF b) (kp5.free b), fS5, fun b hb => g.off (al5 b hb) (dj5 b hb)⟩⟩
      rintro σ' G7 ⟨x', rfl, s7⟩
      have lenB := s7.ln.ok.q
      refine ⟨_, rfl, _, rfl, sa, ns, 1 + i, rfl, s7.kp.sqL hS, by omega, _, _, rfl, rfl, (by show (0 : Int) < 3; decide), rfl, _, rfl, iteB (fun c => ?_) (fun c => ?_)⟩
      · obtain ⟨dx7, hl7⟩ := s7.ln.at_.ob
        refine ⟨_, rfl, L, dx7, _, rfl, hl7, fldL_no _ _ _ (by decide +kernel) (by decide +kernel) (by decide +kernel), L, x', "up", rfl, s7.ln, fun _ r1 G8 nr1 k8 hr1 => ?_, fun c => by cases c⟩
        have s8 := s7.to k8
        refine ⟨_, rfl, L, dx7, _, rfl, k8.same _ _ rfl hl7, fldL_no _ _ _ (by decide +kernel) (by decide +kernel) (by decide +kernel), L, x', "down", rfl, s8.ln, fun _ r2 G9 nr2 k9 hr2 => ?_, fun c => by cases c⟩
        refine ⟨szl (by show 2 ≤ 100000; decide), fun pf npf => ?_⟩
        generalize h_Ga : upd G9 pf _ = Ga
        have k_Ga : Kp G9 Ga := by rw [← h_Ga]; exact .new npf
        have q_Ga := (congrFun h_Ga pf).symm.trans upd_same
        clear h_Ga
        have s10 := (s8.to k9).to k_Ga
        refine ⟨_, rfl, _, rfl, S, _, rfl, end_get s10.sk (wy := "up") rfl, _, rfl, S, _, rfl, end_get s10.sk (wy := "down") rfl, szl (by show 2 ≤ 100000; decide), fun pd npd => ?_⟩
        generalize h_Gb : upd Ga pd _ = Gb
        have k_Gb : Kp Ga Gb := by rw [← h_Gb]; exact .new npd
        have q_Gb := (congrFun h_Gb pd).symm.trans upd_same
        clear h_Gb
        have s11 := s10.to k_Gb
        have hr1' := (k9.trans (k_Ga.trans k_Gb)).same _ _ rfl hr1
        have hr2' := (k_Ga.trans k_Gb).same _ _ rfl hr2
        have qf' := k_Gb.same _ _ rfl q_Ga
        refine ⟨_, _, looksD x'.s.q, rfl, .lst (.inl (.inl qf')) (.cons (dp_dI (.inl (.inl hr1'))) (.cons (dp_dI (.inl (.inl hr2'))) .nil)), .lst (.inl (.inl q_Gb)) (.cons (dp_dI (.inl (.inl (s11.sk.at_ true)))) (.cons (dp_dI (.inl (.inl (s11.sk.at_ false)))) .nil)), looks_dn lenB, fun Gc kc => ⟨_, rfl, iteFo rfl ?_⟩⟩
        have hr1c := kc.same _ _ rfl hr1'
        refine ⟨_, rfl, pf, [.ref r1, .ref r2], 0, .ref r1, rfl, rfl, .inl (.inl (kc.same _ _ rfl qf')), rfl, .inl ⟨rfl, _, SqL.of hr1c⟩, r1, _, _, rfl, rfl, hr1c, szt (by have := lenB true; rw [List.length_map]; exact Nat.lt_of_le_of_lt this (by decide)), ?_⟩
        exact ⟨x', ad5, _, _, _, _, rfl, s7.to (((k8.trans (k9.trans (k_Ga.trans k_Gb))).trans kc).mut nr1)⟩
      · exact ⟨x', ad5, _, _, _, _, rfl, s7⟩
    · rintro σ G ⟨x, ad, y3, y4, y5, y6, rfl, st⟩
      have lenB := st.ln.ok.q
      obtain ⟨dx7, hl7⟩ := st.ln.at_.ob
      refine ⟨_, rfl, L, dx7, _, rfl, hl7, fldL_no _ _ _ (by decide +kernel) (by decide +kernel) (by decide +kernel), L, x, "up", rfl, st.ln, fun _ r1 G8 nr1 k8 hr1 => ?_, fun c => by cases c⟩
      have s8 := st.to k8
      refine ⟨_, rfl, L, dx7, _, rfl, k8.same _ _ rfl hl7, fldL_no _ _ _ (by decide +kernel) (by decide +kernel) (by decide +kernel), L, x, "down", rfl, s8.ln, fun _ r2 G9 nr2 k9 hr2 => ?_, fun c => by cases c⟩
      refine ⟨szl (by show 2 ≤ 100000; decide), fun pf npf => ?_⟩
      generalize h_Ga : upd G9 pf _ = Ga
      have k_Ga : Kp G9 Ga := by rw [← h_Ga]; exact .new npf
      have q_Ga := (congrFun h_Ga pf).symm.trans upd_same
      clear h_Ga
      have s10 := (s8.to k9).to k_Ga
      refine ⟨_, rfl, S, _, rfl, end_get s10.sk (wy := "up") rfl, _, rfl, S, _, rfl, end_get s10.sk (wy := "down") rfl, szl (by show 2 ≤ 100000; decide), fun pd npd => ?_⟩
      generalize h_Gb : upd Ga pd _ = Gb
      have k_Gb : Kp Ga Gb := by rw [← h_Gb]; exact .new npd
      have q_Gb := (congrFun h_Gb pd).symm.trans upd_same
      clear h_Gb
      have s11 := s10.to k_Gb
      have hr1' := (k9.trans (k_Ga.trans k_Gb)).same _ _ rfl hr1
      have hr2' := (k_Ga.trans k_Gb).same _ _ rfl hr2
      exact ⟨_, _, looksD x.s.q, rfl, .lst (.inl (.inl (k_Gb.same _ _ rfl q_Ga))) (.cons (dp_dI (.inl (.inl hr1'))) (.cons (dp_dI (.inl (.inl hr2'))) .nil)), .lst (.inl (.inl q_Gb)) (.cons (dp_dI (.inl (.inl (s11.sk.at_ true)))) (.cons (dp_dI (.inl (.inl (s11.sk.at_ false)))) .nil)), looks_dn lenB, fun Gc _ => k Gc⟩
end
theorem all_mk {w : World} {K : PySem.W.Frag} {h : Heap} {mg : Str → Option Value} {fa : Addr} (X : K.In h) (G : h.Ns mainGlobals mg) (hfa : mg ("law" : Str) = some (.ref fa)) (c : SaysBT factsL fnL tfL h K) :
    LamX.LawAtS PySem.Challenge.rw_mastword_k22_signs_that_wait w K CX0 20 63 "_law_script" mg fa h := by
  have T : Txt K mg := ⟨⟨h, X, G⟩, c.b⟩
  have hl : mg ("law" : Str) = some (.ref (He.ga K "law")) := TopB.glo T 0 rfl
  have e := hfa.symm.trans hl
  cases e
  have F : Fun K "law" "law" s_law (He.fAd K ("law", none)) (fdOf K (He.fAd K ("law", none))) := TopB.fun_ T (a := ("law", none)) 36 rfl
  obtain ⟨oc, od, kV, doc, pm, an, cdv, ct, osl, efd, lk, hcd⟩ := F.ex
  refine ⟨fdOf K (He.fAd K ("law", none)), tfL.map (He.cT K), sp_law K (He.tabOf K (He.codeOf K ("is_word", none))) (He.tabOf K (He.codeOf K ("check_signs", none))), fun p hp => ?_, fun p hp => ?_, fun p hp => ?_, fun s v => ?_, fun H a ns hl _ hT hS => ⟨a, ns, rfl, hS, hl, ⟨#[], hT (He.cT K ("is_word", none)) (List.mem_map.mpr ⟨_, by decide, rfl⟩), trivial⟩, ⟨#[], hT (He.cT K ("check_signs", none)) (List.mem_map.mpr ⟨_, by decide, rfl⟩), trivial⟩, fun _ => rfl⟩, fun base _ _ TB => ok_law T (let tb := TB (He.cT K ("is_word", none)) (List.mem_map.mpr ⟨_, by decide, rfl⟩); ⟨tb.code, tb.bm, tb.gP⟩) (let tb := TB (He.cT K ("check_signs", none)) (List.mem_map.mpr ⟨_, by decide, rfl⟩); ⟨tb.code, tb.bm, tb.gP⟩) F⟩
  · obtain ⟨q, hq, rfl⟩ := List.mem_map.mp hp
    exact c.empty q hq
  · obtain ⟨q, hq, rfl⟩ := List.mem_map.mp hp
    exact c.out q hq
  · obtain ⟨q, hq, rfl⟩ := List.mem_map.mp hp
    exact PySem.W.codeHd_of_K X (c.hd q hq)
  · rw [efd]
    exact .of_eq rfl

end Mw
open PySem PySem.W PySem.Calls PyProof.Rows
set_option maxRecDepth 100000 in
set_option maxHeartbeats 0 in
theorem PySem.Challenge.cw_mastword_k22_signs_that_wait_holds : PySem.Challenge.rw_mastword_k22_signs_that_wait.Holds := by
  w_on; o_law
  refine HandSHeadRun.head_any (r := (OpenLaw.row PySem.Challenge.rw_mastword_k22_signs_that_wait)) (q := view (OpenLaw.row PySem.Challenge.rw_mastword_k22_signs_that_wait).prog [88]) (H := Mw.hookBT Mw.asL Mw.factsL Mw.fnL Mw.tfL) (ob := Mw.obL) (M := 16000) (loose := Mw.looseL) (d := HandSHeadRun.topDef (OpenLaw.row PySem.Challenge.rw_mastword_k22_signs_that_wait).prog 88) (kwd := []) Mw.obL_eq
    (by kernel_rfl) (fun s => by kernel_rfl) Mw.runL (by kernel_rfl) (by kernel_rfl) (by kernel_rfl) (by rfl) (by first | assumption | decide +kernel) (by decide +kernel) ⟨rfl, rfl, rfl, rfl, rfl, by decide +kernel⟩ ?hw ?hc
  case hw => w_witness2
  case hc =>
    refine LamX.walk_ofTsE (l := PySem.Challenge.rw_mastword_k22_signs_that_wait) (n := 63) (k := 20) (x := "_law_script") (CX := fun _ => L2.CX0) rfl (by decide) (by kernel_rfl) ⟨rfl, by decide, by decide⟩ ?F (fun _ _ _ _ _ z => z)
    intro w mg fa h Y G hmg0
    obtain ⟨K, KX, c⟩ := Y
    have hmg : mg ("law" : PySem.Str) = some (.ref fa) := by
      have e : (HandSHeadRun.topDef (OpenLaw.row PySem.Challenge.rw_mastword_k22_signs_that_wait).prog 88).name = ("law" : PySem.Str) := by kernel_rfl
      rw [← e]
      exact hmg0
    exact ⟨K, KX, Mw.all_mk (w := w) KX G hmg c⟩

