import PyProof.Rows.All
import Wide.All
import OpenK.AllK
import Wide.FinOn
import HandS.ForMost
import HandS.ForExc
import HandS.AnyAll
import HandS.EndTab
import HandS.ExcIs
import HandS.ExcField
import HandS.ExcInit
import HandS.IsInst
import HandS.Conv
import HandS.Replace
import HandS.Flow
import HandS.Walk
import HandS.Evl
import KE.KExcIs
import HandS.EndOwn
import HandS.CallRecv
import HandS.Deep
import HandS.More
import KE.SortData
import KE.KDictWalk
import PySem.Challenge.RW_mastword_k06_words_told_by_signs
set_option Elab.async false
set_option linter.all false
set_option maxRecDepth 100000
set_option maxHeartbeats 2000000
namespace Mw
open PySem PySem.Spec PyProof.Rows L2
/-! ### what is kept: every tracked thing but the tables of code objects, which stay tables -/
def isT : HO → Bool
  | .tbl _ => true
  | _ => false
structure Kp (H H' : Hp) : Prop where
  same : ∀ a o, isT o = false → H a = some o → H' a = some o
  tab : ∀ a, GxR.TabG H a → GxR.TabG H' a
  free : ∀ a, H' a = none → H a = none
theorem Kp.refl (H : Hp) : Kp H H := ⟨fun _ _ _ h => h, fun _ h => h, fun _ h => h⟩
theorem Kp.trans {H H1 H2 : Hp} (a : Kp H H1) (b : Kp H1 H2) : Kp H H2 :=
  ⟨fun x o t h => b.same x o t (a.same x o t h), fun x h => b.tab x (a.tab x h), fun x h => a.free x (b.free x h)⟩
theorem Kp.mut {H H' : Hp} {p : Addr} {o : HO} (e : Kp H H') (h : H p = none) : Kp H (upd H' p o) := by
  refine ⟨fun a u t ha => ?_, fun a ⟨ps, ha, ht⟩ => ?_, fun a ha => ?_⟩
  · rw [upd_ne (ne_of_none ha h)]
    exact e.same a u t ha
  · obtain ⟨ps', h1, h2⟩ := e.tab a ⟨ps, ha, ht⟩
    exact ⟨ps', by rw [upd_ne (ne_of_none ha h)]; exact h1, h2⟩
  · by_cases q : a = p
    · rw [q]
      exact h
    · rw [upd_ne q] at ha
      exact e.free a ha
theorem Kp.new {H : Hp} {p : Addr} {o : HO} (h : H p = none) : Kp H (upd H p o) := (Kp.refl H).mut h
theorem Kp.rd {H H' : Hp} {a : Addr} {u : HO} (e : Kp H H') (t : isT u = false) (h : Rd H a u) : Rd H' a u := by
  rcases h with h | ⟨o, h⟩
  · exact Or.inl (e.same a _ t h)
  · exact Or.inr ⟨o, e.same a _ rfl h⟩
theorem Kp.sqL {K : PySem.W.Frag} {H H' : Hp} {a : Addr} {xs : List V} (e : Kp H H') (h : SqL K H a xs) : SqL K H' a xs := by
  rcases h with h | h
  · exact Or.inl (e.rd rfl h)
  · exact Or.inr h
theorem Kp.sqT {K : PySem.W.Frag} {H H' : Hp} {a : Addr} {xs : List V} (e : Kp H H') (h : SqT K H a xs) : SqT K H' a xs := by
  rcases h with h | h
  · exact Or.inl (e.rd rfl h)
  · exact Or.inr h
mutual
theorem Kp.dp {K : PySem.W.Frag} {H H' : Hp} (e : Kp H H') : ∀ {d : PyData} {v : V}, Dp K H v d → Dp K H' v d
  | _, _, .non => .non
  | _, _, .bl b => .bl b
  | _, _, .int i => .int i
  | _, _, .str x => .str x
  | _, _, .lst h a => .lst (e.sqL h) (Kp.dpAll e a)
  | _, _, .tup h a => .tup (e.sqT h) (Kp.dpAll e a)
theorem Kp.dpAll {K : PySem.W.Frag} {H H' : Hp} (e : Kp H H') : ∀ {ds : List PyData} {vs : List V}, DpAll K H vs ds → DpAll K H' vs ds
  | _, _, .nil => .nil
  | _, _, .cons h t => .cons (Kp.dp e h) (Kp.dpAll e t)
end
theorem DpAll.len {K : PySem.W.Frag} {H : Hp} : ∀ {vs : List V} {ds : List PyData}, DpAll K H vs ds → vs.length = ds.length
  | _, _, .nil => rfl
  | _, _, .cons _ t => congrArg (· + 1) (DpAll.len t)
theorem DpAll.get {K : PySem.W.Frag} {H : Hp} : ∀ {vs : List V} {ds : List PyData} {i : Nat} {d : PyData}, DpAll K H vs ds → ds[i]? = some d → ∃ v, vs[i]? = some v ∧ Dp K H v d
  | _, _, i, d, .nil, h => by simp at h
  | _, _, 0, d, .cons a _, h => by
    have e := Option.some.inj h
    subst e
    exact ⟨_, rfl, a⟩
  | _, _, i + 1, d, .cons _ t, h => DpAll.get (i := i) t h
theorem DpAll.app {K : PySem.W.Frag} {H : Hp} : ∀ {vs ws : List V} {ds es : List PyData}, DpAll K H vs ds → DpAll K H ws es → DpAll K H (vs ++ ws) (ds ++ es)
  | _, _, _, _, .nil, b => b
  | _, _, _, _, .cons a t, b => .cons a (DpAll.app t b)
/-- data without lists -/
inductive Nl : PyData → Prop
  | non : Nl .none
  | bl (b : Bool) : Nl (.bool b)
  | int (i : Int) : Nl (.int i)
  | str (x : Str) : Nl (.str x)
  | tup {ds : List PyData} : (∀ d ∈ ds, Nl d) → Nl (.tuple ds)
/-! a list may change: what has no list in it stays -/
mutual
theorem Dp.mut {K : PySem.W.Frag} {H : Hp} {p : Addr} {o : HO} {zs : List V} (hp : H p = some (.lst zs)) : ∀ {d : PyData} {v : V}, Nl d → Dp K H v d → Dp K (upd H p o) v d
  | _, _, _, .non => .non
  | _, _, _, .bl b => .bl b
  | _, _, _, .int i => .int i
  | _, _, _, .str x => .str x
  | _, _, n, .lst _ _ => nomatch n
  | _, _, n, .tup h a => by
    cases n with
    | tup n =>
      refine .tup ?_ (DpAll.mut hp n a)
      rcases h with (h | ⟨ob, h⟩) | h
      · exact .inl (.inl (by rw [upd_ne (ne_of h hp (by intro z; cases z))]; exact h))
      · exact .inl (.inr ⟨ob, by rw [upd_ne (ne_of h hp (by intro z; cases z))]; exact h⟩)
      · exact .inr h
theorem DpAll.mut {K : PySem.W.Frag} {H : Hp} {p : Addr} {o : HO} {zs : List V} (hp : H p = some (.lst zs)) : ∀ {ds : List PyData} {vs : List V}, (∀ d ∈ ds, Nl d) → DpAll K H vs ds → DpAll K (upd H p o) vs ds
  | _, _, _, .nil => .nil
  | _, _, n, .cons h t => .cons (Dp.mut hp (n _ List.mem_cons_self) h) (DpAll.mut hp (fun d hd => n d (List.mem_cons_of_mem _ hd)) t)
end
theorem DpAll.snoc {K : PySem.W.Frag} {H : Hp} {vs : List V} {ds : List PyData} {v : V} {d : PyData} (a : DpAll K H vs ds) (h : Dp K H v d) : DpAll K H (vs ++ [v]) (ds ++ [d]) := DpAll.app a (.cons h .nil)
theorem DpAll.dropLast {K : PySem.W.Frag} {H : Hp} : ∀ {vs : List V} {ds : List PyData}, DpAll K H vs ds → DpAll K H vs.dropLast ds.dropLast
  | _, _, .nil => .nil
  | _, _, .cons _ .nil => .nil
  | _, _, .cons h (.cons h2 t) => .cons h (DpAll.dropLast (.cons h2 t))
theorem dp_ints {K : PySem.W.Frag} {H : Hp} : ∀ ns : List Int, DpAll K H (ns.map V.int) (ns.map PyData.int)
  | [] => .nil
  | n :: r => .cons (.int n) (dp_ints r)
theorem dp_strs {K : PySem.W.Frag} {H : Hp} : ∀ ns : List Str, DpAll K H (ns.map V.str) (ns.map PyData.str)
  | [] => .nil
  | n :: r => .cons (.str n) (dp_strs r)
/-- a list of ints, a list of texts as data -/
def dI (ns : List Int) : PyData := .list (ns.map PyData.int)
def dS (ns : List Str) : PyData := .list (ns.map PyData.str)
theorem dp_dI {K : PySem.W.Frag} {H : Hp} {a : Addr} {ns : List Int} (h : SqL K H a (ns.map V.int)) : Dp K H (.ref a) (dI ns) := .lst h (dp_ints ns)
theorem dpAll_ints {K : PySem.W.Frag} {H : Hp} : ∀ {ns : List Int} {vs : List V}, DpAll K H vs (ns.map PyData.int) → vs = ns.map V.int
  | [], _, .nil => rfl
  | n :: r, _, .cons h t => by
    cases h
    rw [dpAll_ints t]
    rfl
theorem dp_of_dI {K : PySem.W.Frag} {H : Hp} {v : V} {ns : List Int} (h : Dp K H v (dI ns)) : ∃ a, v = .ref a ∧ SqL K H a (ns.map V.int) := by
  cases h with
  | lst h t =>
    rw [dpAll_ints t] at h
    exact ⟨_, rfl, h⟩
/-! ### small words -/
theorem at_int {ns : List Int} {j : Nat} (h : j < ns.length) : atI (ns.map V.int) (j : Int) = some (.int ns[j]) := atI_nat (by rw [List.getElem?_map, List.getElem?_eq_getElem h]; rfl)
theorem at_intZ {ns : List Int} {z : Int} (h0 : 0 ≤ z) (h : z.toNat < ns.length) : atI (ns.map V.int) z = some (.int ns[z.toNat]) := by
  have e := at_int h
  rw [Int.toNat_of_nonneg h0] at e
  exact e
theorem szl {n : Nat} (h : n ≤ 100000) : n ≤ sizeLine := Nat.le_trans h (by decide)
theorem szt {n : Nat} (h : n < 100000) : n < sizeLine := Nat.lt_of_lt_of_le h (by decide)
theorem iteB {b : Bool} {A B : Prop} (h1 : b = true → A) (h2 : b = false → B) : if b = true then A else B := by
  cases b with
  | true => rw [if_pos rfl]; exact h1 rfl
  | false => rw [if_neg Bool.false_ne_true]; exact h2 rfl
theorem iteD {c : Prop} [Decidable c] {A B : Prop} (h1 : c → A) (h2 : ¬ c → B) : if decide c = true then A else B :=
  iteB (fun h => h1 (of_decide_eq_true h)) (fun h => h2 (of_decide_eq_false h))
theorem iteN {c : Prop} [Decidable c] {A B : Prop} (h1 : ¬ c → A) (h2 : c → B) : if (!decide c) = true then A else B :=
  iteB (fun h => h1 (fun z => by rw [decide_eq_true z] at h; cases h)) (fun h => h2 (by
    by_cases z : c
    · exact z
    · rw [decide_eq_false z] at h; cases h))
theorem iteTo {b : Bool} {A B : Prop} (e : b = true) (h : A) : if b = true then A else B := by rw [if_pos e]; exact h
theorem iteFo {b : Bool} {A B : Prop} (e : b = false) (h : B) : if b = true then A else B := by rw [e, if_neg Bool.false_ne_true]; exact h
/-! ### rules with the written part by its own name (inside a comprehension) -/
section
variable {X : Cx} (K : PySem.W.Frag)
theorem ix_listK (h : X.K = K) : IxR X (rIxL K) := h ▸ ix_list
theorem ix_tupK (h : X.K = K) : IxR X (rIxT K) := h ▸ ix_tup
theorem ix_seqK (h : X.K = K) : IxR X (rIx K) := h ▸ ix_seq
def rLenSq : List V → Hp → VK → Prop := fun xs H Q => ∃ p ys, xs = [.ref p] ∧ (SqL K H p ys ∨ SqT K H p ys) ∧ Q (.int ys.length) H
theorem call_lenSK (h : X.K = K) : CallR X (.builtin "len") (rLenSq K) := h ▸ call_len_seq
def rLenV : List V → Hp → VK → Prop := fun xs H Q => ∃ x n, xs = [x] ∧ LenV K x H n ∧ Q (.int n) H
theorem call_lenK (h : X.K = K) : CallR X (.builtin "len") (rLenV K) := h ▸ call_len
theorem op_inK (h : X.K = K) : OpR X (compareOp .In) (rIn K false) := h ▸ op_in_seq
theorem op_notInK (h : X.K = K) : OpR X (compareOp .NotIn) (rIn K true) := h ▸ op_notIn_seq
theorem op_eqDK (h : X.K = K) (hu : X.A.units + 64 < cLine) : OpR X (compareOp .Eq) (rEqD K) := h ▸ op_eqD hu
theorem op_neDK (h : X.K = K) (hu : X.A.units + 64 < cLine) : OpR X (compareOp .NotEq) (rNeD K) := h ▸ op_neD hu
theorem call_isiKK (h : X.K = K) : CallR X (.builtin "isinstance") (rIsi K) := h ▸ call_isi
end
section
variable {X : Cx} (K : PySem.W.Frag)
theorem pgK {e : Expr} {n : Nat} {t : TGs} (h : X.K = K) (p : PG X e (gTup X.K n t)) : PG X e (gTup K n t) := h ▸ p
/-- isinstance(e, C), e what the suite has caught (without or with a dict of its own) -/
def rIsX (cls : Value) (d : Option Addr) (a : Addr) : List V → Hp → VK → Prop := fun xs H Q => ∃ (D : Addr) (c : V) (cv : Value) (b : Bool), cls = .ref D ∧ (d = none ∨ ∃ dd fs, d = some dd ∧ H dd = some (.xd fs)) ∧ ExcC K D ∧ xs = [.ref a, c] ∧ ClsV c cv ∧ PySem.W.kitOne K (.ref D) cv = some b ∧ Q (.bl b) H
theorem call_isX {a : Addr} {oe : Obj} {pn : List (Addr × Obj)} {cls : Value} {d : Option Addr} (h : X.K = K) (hz : Zc cls d oe) (hf : ∃ vs, oe.data = .fields vs) : CallR (X.suite a ((a, oe) :: pn)) (.builtin "isinstance") (rIsX K cls d a) := by
  subst h
  intro pins s σ H xs us Q I r h'
  obtain ⟨D, c, cv, b, rfl, hd, C, rfl, hc, hk, q⟩ := h'
  cases r with | cons rx rr =>
  cases rr with | cons rt rr =>
  cases rr
  cases rx
  have ec := hc.eq rt
  subst ec
  obtain ⟨hget, _⟩ := I.pin (a, oe) (List.mem_append_left _ List.mem_cons_self)
  obtain ⟨vs, hv⟩ := hf
  have hcl : (PySem.W.clsIn X.K D).isSome = true := by
    obtain ⟨cd, hc, _⟩ := PySem.W.any_some C.hd
    rw [hc]
    first | rfl | done
  have nc : PySem.W.notCls oe = true := by
    unfold PySem.W.notCls
    rw [hv]
  rcases hd with rfl | ⟨dd, fs, rfl, hdd⟩
  · have J : PySem.W.InstAt s.heap a oe D none := ⟨hget, hz.1, nc, by rw [hz.2]; trivial⟩
    exact PySem.W.kia_one (PySem.W.kitx_exc hcl C.hg C.hk C.hs C.ha C.hn C.ht C.hm) I.kIn J hk (fun z => nomatch z) fun tk => ⟨.bl b, H, I.kept (t' := tk) fun _ _ z => z, rfl, q⟩
  · obtain ⟨mA, hns, hr⟩ := I.hok dd _ hdd
    obtain ⟨od, ho, hl⟩ := lookIn_ns hns
    have J : PySem.W.InstAt s.heap a oe D (some od) := ⟨hget, hz.1, nc, by rw [hz.2]; exact ho⟩
    exact PySem.W.kia_one (PySem.W.kitx_exc hcl C.hg C.hk C.hs C.ha C.hn C.ht C.hm) I.kIn J hk (fun z => nomatch z) fun tk => ⟨.bl b, H, I.kept (t' := tk) fun _ _ z => z, rfl, q⟩
end
/-! ### isinstance of an own error, by what the written part says of its class -/
theorem kit_sub {K : PySem.W.Frag} {t : Value} {C : Addr} (ic : PySem.W.isClsIn K C = true) (tC : PySem.W.typeIn K (.ref C) = some (.type "type")) (h : PySem.W.subIn K t (.ref C) = some true) : PySem.W.kitOne K t (.ref C) = some true := by
  unfold PySem.W.kitOne
  by_cases e : (t == .ref C) = true
  · rw [if_pos e]
  · rw [if_neg e]
    have h2 : ((PySem.W.clsIn K C).isSome && PySem.W.typeIn K (.ref C) == some (.type "type")) = true := by
      have q : (PySem.W.clsIn K C).isSome = true := ic
      rw [q, tC]
      rfl
    show (if ((PySem.W.clsIn K C).isSome && PySem.W.typeIn K (.ref C) == some (.type "type")) = true then PySem.W.subIn K t (.ref C) else none) = some true
    rw [if_pos h2]
    exact h
theorem kit_not {K : PySem.W.Frag} {t : Value} {C : Addr} (ic : PySem.W.isClsIn K C = true) (tC : PySem.W.typeIn K (.ref C) = some (.type "type")) (h : PySem.W.subIn K t (.ref C) = some false) (hs : PySem.W.subIn K t t = some true) : PySem.W.kitOne K t (.ref C) = some false := by
  unfold PySem.W.kitOne
  have e : ¬ (t == .ref C) = true := fun e => by
    have z : t = .ref C := by simpa using e
    rw [z] at h hs
    rw [h] at hs
    cases hs
  rw [if_neg e]
  have h2 : ((PySem.W.clsIn K C).isSome && PySem.W.typeIn K (.ref C) == some (.type "type")) = true := by
    have q : (PySem.W.clsIn K C).isSome = true := ic
    rw [q, tC]
    rfl
  show (if ((PySem.W.clsIn K C).isSome && PySem.W.typeIn K (.ref C) == some (.type "type")) = true then PySem.W.subIn K t (.ref C) else none) = some false
  rw [if_pos h2]
  exact h
theorem meta_ve : PySem.W.kitMeta "ValueError" = true := by decide +kernel
theorem kit_ve {K : PySem.W.Frag} {C : Addr} (h : PySem.W.subIn K (.ref C) (.type "ValueError") = some true) : PySem.W.kitOne K (.ref C) (.type "ValueError") = some true := by
  unfold PySem.W.kitOne
  rw [if_neg (by intro z; cases z)]
  show (if PySem.W.kitMeta "ValueError" = true then PySem.W.subIn K (.ref C) (.type "ValueError") else none) = some true
  rw [if_pos meta_ve]
  exact h
theorem at_mod (z : Str) {m : Int} {n : Nat} (hn : 0 < n) (hl : z.cps.toList.length = n) : ∃ c, atI z.cps.toList (m % (n : Int)) = some c := by
  have h0 : 0 ≤ m % (n : Int) := Int.emod_nonneg _ (by omega)
  have h1 : m % (n : Int) < (n : Int) := Int.emod_lt_of_pos _ (by omega)
  have hj : (m % (n : Int)).toNat < z.cps.toList.length := by omega
  refine ⟨z.cps.toList[(m % (n : Int)).toNat], ?_⟩
  have e := atI_nat (List.getElem?_eq_getElem hj)
  rw [Int.toNat_of_nonneg h0] at e
  exact e
theorem cutV_map {lo hi : Option Int} {ns : List Int} : ∃ ms : List Int, cutV (ns.map V.int) lo hi = ms.map V.int ∧ (∀ m ∈ ms, m ∈ ns) ∧ ms.length ≤ ns.length := by
  unfold cutV
  rw [List.length_map]
  refine ⟨(ns.drop _).take _, by rw [List.map_take, List.map_drop], fun m h => List.mem_of_mem_drop (List.mem_of_mem_take h), ?_⟩
  rw [List.length_take, List.length_drop]
  omega
theorem mem_ints {ns : List Int} {i : Nat} {x : V} (h : (ns.map V.int)[i]? = some x) : ∃ z, z ∈ ns ∧ x = .int z ∧ ns[i]? = some z := by
  rw [List.getElem?_map] at h
  cases e : ns[i]? with
  | none =>
    rw [e] at h
    cases h
  | some z =>
    rw [e] at h
    exact ⟨z, List.mem_of_getElem? e, (Option.some.inj h).symm, rfl⟩
theorem mem_strs {ns : List Str} {i : Nat} {x : V} (h : (ns.map V.str)[i]? = some x) : ∃ z, z ∈ ns ∧ x = .str z ∧ ns[i]? = some z := by
  rw [List.getElem?_map] at h
  cases e : ns[i]? with
  | none =>
    rw [e] at h
    cases h
  | some z =>
    rw [e] at h
    exact ⟨z, List.mem_of_getElem? e, (Option.some.inj h).symm, rfl⟩
theorem take_snoc {α : Type} {l : List α} {i : Nat} {z : α} (h : l[i]? = some z) : l.take (i + 1) = l.take i ++ [z] := by
  rw [List.take_succ, h]
  rfl
/-! ### all(test for x in a text): the test may read the module's names -/
section
open GxR
variable {X : Cx} {pins : List (Addr × Obj)} {σ : L2.St} {H : Hp} {s : Shared}
/-- the test of one sign, the module's names being mg -/
def EltG (prog : Program) (w : World) (mg : Str → Option Value) (sco : Scope) (x : Str) (elt : Expr) (pb : Nat → Bool) : Prop :=
  ∀ (en : Env) (B : Around) (F : Value → Shared → Prop) (c : Nat) (t : Tok) (z : Shared) (m : Str → Option Value),
    en.scope = sco → en.globals = mainGlobals → z.heap.Ns mainGlobals mg → z.heap.Ns en.locals m → m x = some (.str ⟨#[c]⟩ t) →
    wpAny (model prog w) B (eval elt en) (fun y z' => y = .bool (pb c) ∧ Keeps z z') F z
theorem elt_inG {prog : Program} {w : World} {mg : Str → Option Value} {sco : Scope} {x g : Str} {L : Str} {tl : Tok} {p1 p2 p3 : Pos} (kf : sco.kind = .function) (lx : sco.names.lookup x = some .local) (lg : sco.names.lookup g = some .globalImplicit)
    (hL : mg g = some (.str L tl)) (dx : (x == ("__debug__" : Str)) = false := by decide) (dg : (g == ("__debug__" : Str)) = false := by decide) :
    EltG prog w mg sco x (.Compare (.Name x p1) [.In] [.Name g p2] p3) (fun c => decide (c ∈ L.cps.toList)) := by
  intro en B F c t z m es eg ng nl hm
  have kk : en.scope.kind = .function := by rw [es]; exact kf
  refine wpAny_Compare1 ?_ rfl
  refine wpAny_Name (wpAny_loadName_local kk (show en.scope.names.lookup x = some .local by rw [es]; exact lx) nl hm ?_) dx
  refine Calls.Name_function_global kk (show en.scope.names.lookup g = some .globalImplicit by rw [es]; exact lg) (Calls.loadGlobal_global (mg := mg) (by rw [eg]; exact ng) hL ?_) dg
  refine PyProof.Rows.in_str ⟨?_, keeps_refl _⟩
  rw [PySem.StrLaws.found_one L c]
theorem gen_signs {c P : Addr} {elt src : Expr} {x : Str} {px gp : Pos} {sco : Scope} {pb : Nat → Bool} {te : TE} {k : Nat} {Z : Value → Shared → Prop} {R : Str → Hp → Prop}
    (hr : Room k X.A) (TB : TabB X.base X.mg c P) (hco : X.env.code = .ref c) (S : GenS X.env sco x) (hi : PE X src te) (hel : EltG X.prog X.w X.mg sco x elt pb)
    (hs : ∀ v, genFold src X.env v = pure v) (I : Inv X pins σ H s) (h : te σ H fun v H1 => ∃ a : Str, v = .str a ∧ TabG H1 P ∧ R a H1)
    (hZ : ∀ a H1 g z, R a H1 → Ready X pins σ H1 P a pb g z → Z (.ref g) z) :
    wpAny (model X.prog X.w) X.A (eval (.GeneratorExp elt [⟨.Name x px, src, [], 0⟩] sco gp) X.env) Z X.xe s := by
  refine wpAny_GeneratorExp_walksQ hr.hd S.co (closure_ok S.free) S.cell S.dot S.loc S.kind (by have d := hr.dp; omega) ?_ hs
  refine thn (hi.run pins s σ H _ I h) fun xv z1 ⟨v, H1, J, r1, q⟩ => ?_
  obtain ⟨a, rfl, ⟨ps, hP, ht⟩, q⟩ := q
  obtain ⟨t, rfl⟩ := _root_.id r1
  refine wpAny_pyIter_str fun it St W w0 => ?_
  have gP : z1.heap.get? P = some { cls := .none, data := .fields ps } := J.hok P _ hP
  have gP2 : (z1.heap.push it).get? P = some { cls := .none, data := .fields ps } := Heap.get?_push_of_some _ gP
  have ltP : P < z1.heap.objs.size := Heap.lt_size gP
  have hd2 : PySem.W.CodeHd (z1.heap.push it) c P := TB.code.keeps fun b u e => Heap.get?_push_of_some _ (J.bk b u e)
  have nl2 : (z1.heap.push it).NoLimit := J.nolimit.push it
  have go : ∀ (code : Value) (hh : Heap) (tk : Nat) (qs : Array Value), Heap.ExtBut P (z1.heap.push it) hh → (z1.heap.push it).objs.size ≤ hh.objs.size →
      hh.get? P = some { cls := .none, data := .fields qs } → (∃ more, qs = ps ++ more) → TriplesOk qs.toList →
      wpAny (model X.prog X.w) X.A (builtinsFor X.env.globals X.env.builtins) (fun bi s₄ =>
        ∃ Ia fp wr n₀ Pf St₀ pz F, Value.ref z1.heap.objs.size = .ref Ia ∧ (∀ A' : Around, A'.handled = none → Walks X.prog X.w A' Ia fp wr n₀ Pf St₀) ∧
          St₀ 0 s₄.heap ∧ (∀ b ∈ fp, b < s₄.heap.objs.size) ∧ s₄.heap.NoLimit ∧ cStatics ∉ wr ∧
          (∀ hf : Heap, (∀ b o, s₄.heap.get? b = some o → hf.get? b = some o) →
            QuietGen X.prog X.w (genEnv sco (cloFrom X.env.cells sco.names []) s₄.heap.objs.size code bi X.env) x [] elt (List.range s₄.heap.objs.size) wr Pf pz F hf) ∧
          (∀ a h₅ tk gs, gs.bare = true → s₄.heap.objs.size < a → h₅.objs.size = a + 1 → (∀ b o, s₄.heap.get? b = some o → h₅.get? b = some o) →
            WalksS X.prog X.w X.A.in4 a (a :: s₄.heap.objs.size :: List.range s₄.heap.objs.size) (s₄.heap.objs.size :: wr) (GenOnlyQ s₄.gens.size)
              (passing pz n₀ 0).length (fun j y => ∃ i, (passing pz n₀ 0)[j]? = some i ∧ F i y)
              (GenAt X.prog X.w X.A.in4 a s₄.gens.size s₄.heap.objs.size (List.range s₄.heap.objs.size) wr pz n₀ F) →
            GenAt X.prog X.w X.A.in4 a s₄.gens.size s₄.heap.objs.size (List.range s₄.heap.objs.size) wr pz n₀ F 0 { s₄ with gens := s₄.gens.push gs, toks := tk, heap := h₅ } →
            Z (.ref a) { s₄ with gens := s₄.gens.push gs, toks := tk, heap := h₅ })) X.xe { z1 with heap := hh, toks := tk } := by
    intro code hh tk qs ex sz gq mr tq
    obtain ⟨bm, ob, b1, b2, b3, b4, b5, b6, b7, b8⟩ := TB.bm
    have neS : cStatics ≠ P := fun e => by
      obtain ⟨_, ns, _⟩ := J.nolimit
      obtain ⟨oo, es, ep, go1, gd, _⟩ := ns
      rw [e, gP] at go1
      cases go1
      cases gd
    have ltS : cStatics < z1.heap.objs.size := let ⟨_, ns, _⟩ := J.nolimit; ns.lt
    have szp : (z1.heap.push it).objs.size = z1.heap.objs.size + 1 := Heap.size_push ..
    have kp : ∀ b u, b ≠ P → z1.heap.get? b = some u → hh.get? b = some u := fun b u hb e => ex b u hb (Heap.get?_push_of_some _ e)
    have gl1 : z1.heap.Ns mainGlobals X.mg := J.mod.glob.keeps J.bk
    have glh : hh.Ns mainGlobals X.mg := (gl1.push it).extBut ex TB.gP
    refine wpAny_builtinsFor (m := X.mg) (by rw [J.ok.glob]; exact glh) b1 b2 (kp _ _ b4 (J.bk _ _ b5)) b6 b7 b8 ?_
    refine ⟨z1.heap.objs.size, [z1.heap.objs.size], [z1.heap.objs.size], a.cps.size, SignAt a, St, (fun _ => true), (fun i y => ∃ cc, a.cps[i]? = some cc ∧ y = .bool (pb cc)), rfl, W, ?_, ?_, nl2.extBut ex neS, ?_, ?_, ?_⟩
    · refine (W X.A hr.hd).frame _ _ _ w0 fun b hb u e => ex b u (fun eq => ?_) e
      rw [List.mem_singleton.mp hb] at eq
      exact Nat.ne_of_lt ltP eq.symm
    · intro b hb
      rw [List.mem_singleton.mp hb]
      show z1.heap.objs.size < hh.objs.size
      omega
    · exact fun m => Nat.ne_of_lt ltS (List.mem_singleton.mp m)
    · intro hf keep
      refine ⟨fun A' E' i v z2 m2 _ _ _ _ _ => ?_, fun A' E' i v z2 m2 _ hv _ hn hm hk => ?_⟩
      · simp only [List.forIn_nil]
        exact wpAny_pure ⟨rfl, keeps_refl _⟩
      · obtain ⟨cc, u, hcc, rfl⟩ := hv
        have ngl : z2.heap.Ns mainGlobals X.mg := by
          have lt1 : mainGlobals < z1.heap.objs.size := gl1.lt
          obtain ⟨og, es, ep, e1, er⟩ := glh
          exact ⟨og, es, ep, hk mainGlobals (List.mem_range.mpr (Heap.lt_size e1)) (fun m => Nat.ne_of_lt lt1 (List.mem_singleton.mp m)) og (keep _ _ e1), er⟩
        exact wpAny_mono (hel _ A' E' cc u z2 m2 rfl J.ok.glob ngl hn hm) (fun y z3 r => ⟨⟨cc, hcc, r.1⟩, r.2⟩) fun _ _ e => e
    · intro g h5 tk5 gs bare lt5 sz5 k5 W5 at5
      simp only [GxR.passing_true, List.length_range] at W5
      refine hZ a H1 g _ q ⟨_, _, _, _, _, W5.in4_1, at5, ?_, fun z' mv => ?_⟩
      · intro j y sj Qj Ej hy hQj
        obtain ⟨i, hij, cc, hcc, rfl⟩ := hy
        obtain ⟨lj, ej⟩ := List.getElem?_eq_some_iff.mp hij
        rw [List.getElem_range] at ej
        subst ej
        have e9 : a.cps.toList[j]? = some cc := by rw [Array.getElem?_toList]; exact hcc
        have hQ2 : Qj (trF pb a.cps.toList j) sj := hQj
        rw [trF_some e9] at hQ2
        exact wpAny_truthy_bool hQ2
      · obtain ⟨more, em⟩ := mr
        have out : ∀ b u, z1.heap.get? b = some u → b ∉ hh.objs.size :: [z1.heap.objs.size] := fun b u e hb => by
          have lt := Heap.lt_size e
          rcases List.mem_cons.mp hb with y | y
          · rw [y] at lt
            have lt' : (hh.objs.size : Nat) < z1.heap.objs.size := lt
            omega
          · rw [List.mem_singleton.mp y] at lt
            exact Nat.lt_irrefl _ lt
        have J2 := inv_tab (more := more) (h' := z'.heap) (g' := z'.gens) (d' := z'.drawn) (t' := z'.toks) J hP
          (fun b u hb e => mv.heap b u (out b u e) (k5 b u (kp b u hb e)))
          (by rw [← em]; exact mv.heap P _ (out P _ gP) (k5 P _ gq))
          (AllBare.movedS (J.bare.push bare) mv)
        rw [sh_eta z1 z' mv.os] at J2
        exact ⟨upd H1 P (.tbl (ps ++ more)), ⟨⟨ps ++ more, upd_same, by rw [← em]; exact tq⟩, fun b hb => upd_ne hb⟩, J2⟩
  refine ⟨nl2, ?_⟩
  cases hf : codeAmong gp ps.toList with
  | none =>
    refine wpAny_genexprCodeX hco (hd2.code gP2 ht) (hd2.tab gP2) hf fun c' h' tk ex ge lt hc' _ tab' _ => ?_
    obtain ⟨_, _, _, _, _, _, _, _, _, _, _, _, _, _, _, _, _, _, _, tr, _⟩ := hc'
    exact go _ h' tk _ ex (Nat.le_trans ge (Nat.le_of_lt lt)) tab'.2 ⟨_, rfl⟩ tr
  | some cv =>
    refine wpAny_genexprCode_hit hco (hd2.code gP2 ht) hf ?_
    exact go cv (z1.heap.push it) z1.toks ps (Heap.ExtBut.refl _ _) (Nat.le_refl _) gP2 ⟨#[], by simp⟩ ht
theorem pe_allG {c P : Addr} {elt src : Expr} {x : Str} {px p pos gp : Pos} {sco : Scope} {pb : Nat → Bool} {te : TE} {k : Nat}
    (hr : Room k X.A) (hg : Gl X "all") (hm : X.mg "all" = none) (hb : bootBuiltins "all" = some (.builtin "all")) (TB : TabB X.base X.mg c P) (hco : X.env.code = .ref c) (S : GenS X.env sco x) (hi : PE X src te) (hel : EltG X.prog X.w X.mg sco x elt pb)
    (hs : ∀ v, genFold src X.env v = pure v)
    (he : starEach [.GeneratorExp elt [⟨.Name x px, src, [], 0⟩] sco gp] X.env = (false, eval (.GeneratorExp elt [⟨.Name x px, src, [], 0⟩] sco gp) X.env) :: starEach [] X.env := by rfl) :
    PE X (.Call (.Name "all" p) [.GeneratorExp elt [⟨.Name x px, src, [], 0⟩] sco gp] [] pos) (tAllS P pb te) := by
  refine ⟨fun pins z σ H Q I h => ?_⟩
  refine wpAny_Call_Name_kw (ld_blt I hg hm hb (PyProof.Rows.callWith_builtin1 ?_ he (by rfl)))
  rw [he]
  show wpAny _ _ (spliced ((false, eval (.GeneratorExp elt [⟨.Name x px, src, [], 0⟩] sco gp) X.env) :: backTo pos (starEach [] X.env))) _ _ z
  refine Calls.spliced_cons (gen_signs (R := fun a H1 => ∀ H2, Tabbed P H1 H2 → Q (.bl (a.cps.toList.all pb)) H2) hr TB hco S hi hel hs I h fun a H1 g z5 hR hG => ?_)
  obtain ⟨fp, wr, G, F, St, W, st0, tru, fin⟩ := hG
  refine Calls.spliced_nil (call_all_walkS (W.self 0 _ _ _ st0 ⟨g, fp, wr, G, _, F, St, _, rfl, W, st0, tru, fun z' mv => ?_⟩))
  obtain ⟨H2, tb, J⟩ := fin z' mv
  refine ⟨.bl _, H2, J, rfl, ?_⟩
  rw [all_signs a pb]
  exact hR H2 tb
/-- a table may grow -/
theorem kp_tabbed {P : Addr} {H H' : Hp} (h : TabG H P) (t : Tabbed P H H') : Kp H H' := by
  obtain ⟨ps, hP, _⟩ := h
  obtain ⟨⟨qs, hQ, tq⟩, e⟩ := t
  refine ⟨fun b o n hb => ?_, fun b hb => ?_, fun b hb => ?_⟩
  · have ne : b ≠ P := fun z => by
      rw [z, hP] at hb
      cases hb
      cases n
    rw [e b ne]
    exact hb
  · by_cases z : b = P
    · rw [z]
      exact ⟨qs, hQ, tq⟩
    · obtain ⟨rs, h1, h2⟩ := hb
      exact ⟨rs, by rw [e b z]; exact h1, h2⟩
  · by_cases z : b = P
    · rw [z, hQ] at hb
      cases hb
    · rw [e b z] at hb
      exact hb
end

/-! ### a def whose code object is known, a method that may raise in a try, the end with a table -/
structure FunC (K : PySem.W.Frag) (x qual : Str) (st : Stmt) (f : Addr) (fd : FuncData) (c : Addr) : Prop where
  ex : ∃ (oc : Value) (od : Option Addr) (kV doc pm : Value) (an : Option Addr) (ct : Value) (osl : Array (Option Value)),
    fd = PySem.W.fnOf x qual (defArgs st) (defBody st) (defScope st) .none kV doc pm an (.ref c) ct ∧ K.lookup f = some ⟨oc, od, .func fd, osl⟩ ∧ PySem.W.codeIn K (.ref c) qual = true
theorem FunC.ok {P : Program} {w : World} {K : PySem.W.Frag} {mg : Str → Option Value} {base : Heap} {x qual : Str} {st : Stmt} {f c : Addr} {fd : FuncData} {N ps : List Str} {k : Nat} {sp : Sp} (F : FunC K x qual st f fd c) (S : FnScope N ps (defScope st)) (len : ∀ vs H Q E, sp vs H Q E → vs.length = ps.length)
    (body : ∀ (A : Around) (outer : List Env) (s : Shared) (H : Hp) (vs : List V) (Q : VK) (E : XK), Room k (A.deeper (envOfC qual (defScope st) s.heap.objs.size f (.ref c))) → sp vs H Q E →
      ∃ t, PSs (cxOf CX0 P w K mg base N qual (defScope st) f (.ref c) A outer s H E).nox (defBody st) t ∧ t { nx := fun _ H' => Q .non H', rt := Q } (start N vs) H) : FnOk P w K mg base CX0 (k + 1) f fd ps sp := by
  obtain ⟨oc, od, kV, doc, pm, an, ct, osl, rfl, lk, cd⟩ := F.ex
  refine fn_of lk cd S len fun A outer s H vs Q E hr hs => ?_
  obtain ⟨t, h, q⟩ := body A outer s H vs Q E hr hs
  exact ⟨t, h.nox, q⟩
theorem noFree {names : List (Str × NameKind)} {cells : List (Str × Addr)} (h : names.all (fun y => decide (y.2 ≠ .free)) = true) : ∀ y ∈ names, y.2 = .free → ∃ c, cells.lookup y.1 = some c := fun y hy e =>
  absurd e (of_decide_eq_true (List.all_eq_true.mp h y hy))
theorem noCell {names : List (Str × NameKind)} (h : names.all (fun y => decide (y.2 ≠ .cell)) = true) : ∀ y ∈ names, y.2 ≠ .cell := fun y hy => of_decide_eq_true (List.all_eq_true.mp h y hy)
section
variable {X : Cx} {CX : CXT} {k : Nat} {C f : Addr} {fd : FuncData} {ps : List Str} {sp : Sp} {m : Str} {o e : Expr} {es : List Expr} {ta : TE} {t : TA} {E : L2.St → XK} {apos pos : Pos}
def tMethE (C : Addr) (m : Str) (sp : Sp) (E : L2.St → XK) (ta : TE) (t : TA) : TE := fun σ H Q => ta σ H fun x H1 => ∃ a dx fs, x = .ref a ∧ H1 a = some (.ins C dx fs) ∧ fs.lookup m = none ∧ t σ H1 fun vs H2 => sp (.ref a :: vs) H2 Q (E σ)
theorem pe_methE {pl : Sem Bool} (he : PE X o ta) (c : Cls X.K C) (hm : Meth X.K C m f) (F : FnOk X.prog X.w X.K X.mg X.base CX k f fd ps sp) (hr : Room k X.A) (hb : Binds X.K fd ps []) (hx : ∀ σ, PassesAt CX X σ (E σ)) (ha : PA X (e :: es) t)
    (s1 : starEach (e :: es) X.env = (false, eval e X.env) :: starEach es X.env := by rfl) (s2 : (backTo pos (starEach es X.env)).any (·.1) = false := by rfl)
    (ht : eval (.Call (.Attribute o m apos) (e :: es) [] pos) X.env = (do
      let v ← eval o X.env
      standAt apos.atName
      let (g, fst) ← holding [v] (getMethod v m pl)
      callWith pos g fst (backTo pos (starEach (e :: es) X.env)) (backToKw pos (keywordEach [] X.env))) := by rfl) :
    PE X (.Call (.Attribute o m apos) (e :: es) [] pos) (tMethE C m sp E ta t) := by
  refine ⟨fun pins z σ H Q I h => ?_⟩
  refine PySem.W.methodCall_KW (pl := pl) (thn (he.run pins z σ H _ I h) fun u z1 ⟨x, H1, J, rx, a, dx, fs, ex, ea, l, q⟩ => ?_) ht
  subst ex
  obtain rfl : u = Value.ref a := rx
  refine getmeth_ok J ea c hm l ?_
  refine PySem.W.callWith_K (first := [.ref a]) (h₀ := X.base) I.ok.mod.kin hm.kp (thn (ha.run pos pins z1 σ H1 _ J q) fun us z2 ⟨vs, H2, J2, r, q2⟩ => ⟨J2.kIn, ?_⟩) s1 s2
  exact run_fnS (us := .ref a :: us) (vs := .ref a :: vs) F hr hb (hx σ) J2 (.cons rfl r) q2
end
theorem walk_tab {l : PySem.W.OpenLaw} {n k : Nat} {q : Program} {loose : List Str} {XP : (Str → Option Value) → Heap → Prop} {YP : World → Heap → Prop} {d : DefRec} {K : Params → PySem.W.Frag} {CX : World → CXT} {x : Str} (nms : List Str)
    (hn : l.most = some n) (hz : n ≤ sizeLine) (hdf : d.params.defaults = []) (hr : Room k callerA) (hrec : nms.all (fun y => (recsOf q).any fun e => e.name == y) = true) (hY : ∀ (w : World) (h : Heap), YP w h → (K w.params).In h)
    (F : ∀ (w : World) (mg : Str → Option Value) (fa : Addr) (h : Heap), (K w.params).In h → h.Ns mainGlobals mg → mg d.name = some (.ref fa) → (∀ y ∈ nms, ∀ f, mg y = some (.ref f) → LamX.OwnTab (K w.params) f h) → LamX.LawAtS l w (K w.params) (CX w) k n x mg fa h)
    (hCX : ∀ (w : World) (H : Hp) (s : Shared) (e : Value) (s' : Shared), CX w [] H s (fun _ _ _ => False) e s' → False) :
    PySem.W.WalkO q loose XP YP l.row.toRowW d [] (fun f vs => PySem.call f vs) := by
  refine Att.attach_callB hn hdf fun w s0 s1 mg mb fa o pm cd doc a vs ns G Y ho hd hcd hmg hob hin hlen hbits hg => ?_
  have KX := hY w _ Y
  have own : ∀ y ∈ nms, ∀ f, mg y = some (.ref f) → LamX.OwnTab (K w.params) f s1.heap := fun y hy f hf c P o1 fd1 e dd us sl k1 k2 k3 k4 k5 => by
    obtain ⟨dl, hm, he⟩ := List.any_eq_true.mp (List.all_eq_true.mp hrec y hy)
    have en : dl.name = y := beq_iff_eq.mp he
    obtain ⟨a', o', fd', c', P', t1, t2, t3, t4, t5, t6⟩ := G.T.tab dl hm
    rw [en, hf] at t1
    cases t1
    rw [KX _ _ k1] at t2
    cases t2
    rw [k2] at t3
    cases t3
    rw [k3] at t4
    cases t4
    obtain ⟨⟨oc, vc, u1, _, u3, u4⟩, hP⟩ := t6
    rw [KX _ _ k4] at u1
    cases u1
    cases u3
    rw [k5] at u4
    cases u4
    exact hP
  obtain ⟨fd, cs, sp, hT, nT, C, hb, hsp, hF⟩ := F w mg fa _ KX G.T.g hmg own
  exact LamX.law_callTs KX G.T.g G.T.b G.T.builtins G.T.nolimit hg hT nT C G.T.bmain hob hin (Nat.le_trans hlen hz) hr hF hb (fun H hH hS => hsp H a ns hlen hbits hH hS) fun H e s' => hCX w H s1 e s'
theorem codeHd_mk {K : PySem.W.Frag} {h : Heap} {c P : Addr} {dd : Option Addr} {vs : Array Value} {sl : Array (Option Value)} {fl : Str} {tf tg tt : Tok} {fg tx : Int} {b : Bool} (X : K.In h) (l : K.lookup c = some ⟨.type "code", dd, .fields vs, sl⟩) (h11 : vs[11]? = some (.ref P)) (h18 : vs.getD 18 .none = .str fl tf)
    (h7 : vs.getD 7 .none = .int fg tg) (h9 : vs.getD 9 .none = .bool b) (h10 : vs.getD 10 .none = .int tx tt) (ne : c ≠ P) : PySem.W.CodeHd h c P :=
  ⟨_, vs, fl, tf, fg, tg, b, tx, tt, X _ _ l, rfl, rfl, h11, by rw [Array.getD_eq_getD_getElem?, h11]; rfl, h18, h7, h9, h10, ne⟩

/-! ### sorted of data: a list of tuples of one shape -/
def sortD (ds : List PyData) : List PyData := ds.mergeSort (PySem.W.dataLe false id)
theorem each_of {K : PySem.W.Frag} {H : Hp} : ∀ {xs : List V} {us : List Value} {ds : List PyData}, Vals xs us → DpAll K H xs ds → PySem.W.EachIs (fun v d => ∃ x, RelV x v ∧ Dp K H x d) us ds
  | [], _, _, r, h => by
    cases r
    cases h
    exact .nil
  | x :: xs, _, _, r, h => by
    cases r with
    | cons r1 r2 =>
      cases h with
      | cons h1 h2 => exact .cons ⟨x, r1, h1⟩ (each_of r2 h2)
theorem each_back {K : PySem.W.Frag} {H : Hp} : ∀ {us : List Value} {ds : List PyData}, PySem.W.EachIs (fun v d => ∃ x, RelV x v ∧ Dp K H x d) us ds → ∃ ys, Vals ys us ∧ DpAll K H ys ds
  | _, _, .nil => ⟨[], .nil, .nil⟩
  | _, _, .cons ⟨x, r, h⟩ t => by
    obtain ⟨ys, a, b⟩ := each_back t
    exact ⟨x :: ys, .cons r a, .cons h b⟩
def rSortedD (K : PySem.W.Frag) : List V → Hp → VK → Prop := fun vs H Q => ∃ (a : Addr) (xs : List V) (ds : List PyData), vs = [V.ref a] ∧ SqL K H a xs ∧ DpAll K H xs ds ∧ PySem.W.AllAlike ds ∧ PySem.W.Sortable ds ∧ (∀ d ∈ ds, d.depth ≤ 60) ∧
  ∀ ys p, DpAll K H ys (sortD ds) → H p = none → Q (.ref p) (upd H p (.lst ys))
section
variable {X : Cx}
theorem cr_sortedD (hu : X.A.units + 65 < cLine) : CallR X (.builtin "sorted") (rSortedD X.K) := by
  intro pins s σ H vs us Q I r h
  obtain ⟨a, xs, ds, rfl, hs, hd, hal, hsb, hdp, q⟩ := h
  obtain ⟨its, rv, hl, hz⟩ := I.list hs
  obtain ⟨u, rfl, ru⟩ := vals1 r
  obtain rfl : u = Value.ref a := ru
  have e := each_of rv hd
  have er : PySem.W.EachIs (fun v d => ∃ as, Reads s.heap v (id d) as) its ds := e.mono fun v d ⟨x, r, h⟩ => Dp.reads I d x v h r
  have hlen : ds.length ≤ sizeLine := by rw [← DpAll.len hd]; exact hz
  refine PySem.W.sorted_data (enc := id) (bs := ds) hl.isList e er (by rw [List.map_id]; exact hal) (by rw [List.map_id]; exact hsb) hlen (fun d m => ?_) fun out ho eo => ?_
  · have z := hdp d m
    show X.A.units + 2 + d.depth < cLine
    omega
  · obtain ⟨ys, v1, v2⟩ := each_back eo
    obtain ⟨n, hn⟩ := sortedAll_at s.heap its out.toArray
    refine ⟨.ref (s.heap.objs.size + 1), upd H (s.heap.objs.size + 1) (.lst ys), I.laid (t' := s.toks) (fun b o e => sortedAll_old e) (Nat.le_succ _) ⟨?_, out, n, v1, hn⟩, rfl, q ys _ v2 (I.hok.fresh (Nat.le_succ _))⟩
    rw [v1.length, ho]
    exact hlen
end
theorem hu65 {A : Around} {k : Nat} (hr : Room k A) : A.units + 65 < cLine := by
  have z := hr.un
  omega
theorem op_notInDK {X : Cx} (K : PySem.W.Frag) (h : X.K = K) (hu : X.A.units + 65 < cLine) : OpR X (compareOp .NotIn) (rNotInD K) := h ▸ op_notInD hu

/-! ### d.items() of a locked dict whose keys are tuples -/
theorem raw_pairs {X : Cx} {pins : List (Addr × Obj)} {σ : L2.St} {H : Hp} {s : Shared} {d : Addr} {o : Obj} {kvs : List (List Key × V)} (I : Inv X pins σ H s) (h : H d = some (.frz o (.dT kvs))) :
    (d == sysModules) = false ∧ ∃ (es : Array DictEntry) (ep : Nat), o.data = .dict es ep ∧ s.heap.DictRaw d es ep ∧ es.size = kvs.length ∧
      ∀ (i : Nat) (hi : i < es.size) (k : List Key) (v : V), kvs[i]? = some (k, v) → ∃ q : Addr, es[i].key = .ref q ∧ H q = some (.tup (k.map kV)) ∧ RelV v es[i].val := by
  obtain ⟨g0, _, g1, xs, pr, o1, es, ep, g2, g3, g4, g5, _⟩ := I.hok d _ h
  have eo : o = o1 := Option.some.inj (g0.symm.trans g2)
  subst eo
  have hn : es.size = xs.length := by
    have z := congrArg List.length g5
    rw [List.length_map, Array.length_toList] at z
    exact z
  refine ⟨g1, es, ep, g4, ⟨o, g2, g3, g4⟩, by rw [hn]; exact (Paired.length pr).symm, fun i hi k v hk => ?_⟩
  obtain ⟨b, hb, b1, b2, b3⟩ := L2.paired_get pr hk
  have hl : es.toList[i]? = some (entryOfKey (tupleKind (mixKind X.prog X.w)) b) := by
    rw [g5, List.getElem?_map, hb]
    rfl
  have hv : es[i] = entryOfKey (tupleKind (mixKind X.prog X.w)) b := by
    rw [Array.getElem?_toList, Array.getElem?_eq_getElem hi] at hl
    exact Option.some.inj hl
  rw [hv]
  exact ⟨b.2.1, rfl, b2, b3⟩
def Itit (d : Addr) (o : Obj) (kvs : List (List Key × V)) : It where
  go := fun i H => H d = some (.frz o (.dT kvs)) ∧ i < kvs.length
  yld := fun i H x H' => ∃ (T q : Addr) (k : List Key) (v : V), kvs[i]? = some (k, v) ∧ x = .ref T ∧ H T = none ∧ H q = some (.tup (k.map kV)) ∧ H' = upd H T (.tup [.ref q, v])
  stop := fun i H => H d = some (.frz o (.dT kvs)) ∧ kvs.length ≤ i
/-- where the iterator stands: behind i of n entries -/
def ItAt (d it : Addr) (n ep i : Nat) (h : Heap) : Prop := ∃ ok ov, IsItemIter h it d i n ep ok ov
theorem turn_pairs {P : Program} {w : World} {K : PySem.W.Frag} {d : Addr} {o : Obj} {es : Array DictEntry} {ep : Nat} {kvs : List (List Key × V)} {elts : List Expr} {c : Nat} {pos : Pos} (it : Addr) (hod : o.data = .dict es ep) :
    Turn P w K (.Tuple elts c pos) (Itit d o kvs) [it] it (ItAt d it kvs.length ep) := by
  have one : ∀ b : Addr, b ∈ [it] → b = it := fun b hb => List.mem_singleton.mp hb
  refine ⟨List.mem_singleton.mpr rfl, fun i h st b hb => ?_, fun i h h' st k => ?_, ?_, ?_, fun A i s Q E st h => ?_⟩
  · obtain ⟨ok, ov, e⟩ := st
    rw [one b hb]
    exact ⟨_, e, fun v z => by cases z⟩
  · obtain ⟨ok, ov, e⟩ := st
    exact ⟨ok, ov, k it (List.mem_singleton.mpr rfl) _ e⟩
  · intro X hP hw hK hc i pins s σ H E I hf st hg
    subst hP hw hK
    obtain ⟨hd, hi⟩ := hg
    obtain ⟨hs, es2, ep2, hd2, hraw, hsz, hat⟩ := raw_pairs I hd
    rw [hod] at hd2
    cases hd2
    obtain ⟨k, v, hkv⟩ : ∃ k v, kvs[i]? = some (k, v) := ⟨_, _, List.getElem?_eq_getElem hi⟩
    have hie : i < es.size := by rw [hsz]; exact hi
    obtain ⟨q, key, hq, hv⟩ := hat i hie k v hkv
    obtain ⟨ok, ov, he⟩ := st
    rw [← hsz] at he
    have hlt := Heap.lt_size he
    refine wpAny_pyNext_items_item_raw he hraw hie fun h1 out tup sz kept => ⟨_, rfl, ?_⟩
    refine wpAny_letOwnedTupleGo_items (s := { s with heap := h1 }) out fun h2 at2 sb => ?_
    have tup2 := (sb.2 _ (Nat.ne_of_gt hlt)).trans tup
    have okn : ObjOk X.prog X.w (upd H s.heap.objs.size (.tup [.ref q, v])) h2 s.heap.objs.size (.tup [.ref q, v]) :=
      ⟨szl (by show 2 ≤ 100000; decide), [es[i].key, es[i].val], .cons (by rw [key]; rfl) (.cons hv .nil), ⟨_, tup2, rfl, _, rfl⟩⟩
    have I2 := I.turnedNew (t' := s.toks) (ch := [it]) (fun b ob hb e => (sb.2 b fun z => hb (by rw [z]; exact List.mem_singleton.mpr rfl)).trans (kept b ob (fun z => hb (by rw [z]; exact List.mem_singleton.mpr rfl)) e)) hf (Nat.le_refl _) okn
    refine ⟨.ref s.heap.objs.size, _, I2, rfl, ⟨_, q, k, v, hkv, rfl, I.hok.fresh (Nat.le_refl _), hq, rfl⟩, ⟨_, _, by rw [← hsz]; exact at2⟩, fun b hb => ?_⟩
    rw [one b hb, upd_ne (Nat.ne_of_lt hlt)]
    exact (hf it (List.mem_singleton.mpr rfl)).1
  · intro X hP hw hK hc i pins s σ H E I hf st hg
    subst hP hw hK
    obtain ⟨hd, hi⟩ := hg
    obtain ⟨hs, es2, ep2, hd2, hraw, hsz, hat⟩ := raw_pairs I hd
    rw [hod] at hd2
    cases hd2
    obtain ⟨f0, f1, f2, f3, f4, f5⟩ := hf it (List.mem_singleton.mpr rfl)
    obtain ⟨ok, ov, he⟩ := st
    rw [← hsz] at he
    exact wpAny_pyNext_items_end_raw (I.ok.hd hc) he hraw (by rw [hsz]; exact hi) fun h1 eb => ⟨rfl, I.turned (t' := s.toks) (fun b ob hb e => eb b ob hb e) f0 f1 f3 f4 f5⟩
  · obtain ⟨_, _, e⟩ := st
    exact wpAny_pyIter_itemiter e h
def iPairs (td : TE) : TI := fun σ H R => td σ H fun x H1 => ∃ (d : Addr) (o : Obj) (kvs : List (List Key × V)), x = .ref d ∧ H1 d = some (.frz o (.dT kvs)) ∧ R (Itit d o kvs) H1
theorem pi_pairs {X : Cx} {e : Expr} {td : TE} {apos cpos : Pos} {elts : List Expr} {c : Nat} {pos : Pos} (he : PE X e td) (hbase : attributeBase e "items" X.env (eval e X.env) = eval e X.env := by rfl) (hl : (apos.endLine == cpos.line) = true := by rfl) :
    PI X (.Tuple elts c pos) (.Call (.Attribute e "items" apos) [] [] cpos) (iPairs td) := by
  refine ⟨fun pins s σ H R I h => wpAny_Call_method (T := "dict") (id := "dict.items") hbase rfl hl F.plainAttrs_dict F.slot_dict_items F.type_dict_items (thn (he.run pins s σ H _ I h) fun u s1 z => ?_)⟩
  obtain ⟨x, H1, I1, rx, d, o, kvs, rfl, hd, q⟩ := z
  obtain rfl : u = Value.ref d := rx
  obtain ⟨hs, es, ep, hod, hraw, hsz, _⟩ := raw_pairs I1 hd
  have hraw0 := hraw
  obtain ⟨ob, b1, b2, b3⟩ := hraw0
  have I2 : Inv X pins σ H1 { s1 with heap := s1.heap.push { cls := .type "dict_items", data := .fields #[.ref d] } } := I1.kept (t' := s1.toks) fun _ _ g => Heap.get?_push_of_some _ g
  have fin : wpAny (model X.prog X.w) X.A (pyIter (.ref s1.heap.objs.size)) (PIE X pins σ (.Tuple elts c pos) R) X.xe { s1 with heap := s1.heap.push { cls := .type "dict_items", data := .fields #[.ref d] } } := by
    refine wpAny_pyIter_items_raw (d := d) (es := es) (ep := ep) ⟨_, Heap.get?_push_size _ rfl, rfl, rfl⟩ (hraw.at fun _ g => Heap.get?_push_of_some _ g) (pi_one (tk := s1.toks) I2 _ (turn_pairs _ hod) ⟨.none, .none, ?_⟩ q)
    rw [← hsz]
    exact Heap.get?_push_size _ rfl
  refine ⟨hraw.typeIs, ?_, ?_⟩
  · intro a2 e2
    cases e2
    exact ⟨ob, b1, b2.2.1⟩
  · show wpAny _ _ (callWith cpos (.builtin "dict.items") [.ref d] [] []) _ X.xe s1
    exact method_meetsIn F.slot_dict_items F.entry_dict_items rfl (PySem.evalArgs_none ⟨rfl, hraw.typeIs, F.args_dict_items_1 _, _, meets_dict_items_raw d hs, ⟨es, ep, hraw⟩, fin⟩)
theorem walk_pairs {d : Addr} {o : Obj} {kvs : List (List Key × V)} : Walk (Itit d o kvs) kvs.length (fun H => H d = some (.frz o (.dT kvs))) (fun i H x H' => ∃ (T q : Addr) (k : List Key) (v : V), kvs[i]? = some (k, v) ∧ x = .ref T ∧ H T = none ∧ H q = some (.tup (k.map kV)) ∧ H' = upd H T (.tup [.ref q, v])) := by
  constructor
  · exact fun i H hi g => And.intro g hi
  · exact fun H g => And.intro g (Nat.le_refl _)
  · exact fun i H x H' hi g y => y

/-! ### del d[k] of a dict whose keys are tuples -/
theorem KT.drop {H : Hp} {kvs : List (List Key × V)} {xs : List (List Key × Addr × Value)} (r : KT H kvs xs) (k : List Key) : KT H (dropK kvs k) (withoutH xs k) := by
  unfold dropK withoutH
  induction r with
  | nil => exact .nil
  | @cons p q ps qs h t ih =>
    obtain ⟨h1, h2, h3⟩ := h
    by_cases e : p.1 = k
    · have e' : q.1 = k := h1.symm.trans e
      rw [List.filter_cons_of_neg (by simp [e]), List.filter_cons_of_neg (by simp [e'])]
      exact ih
    · have e' : ¬ q.1 = k := fun z => e (h1.trans z)
      rw [List.filter_cons_of_pos (by simp [e]), List.filter_cons_of_pos (by simp [e'])]
      exact .cons ⟨h1, h2, h3⟩ ih
section
variable {X : Cx} {pins : List (Addr × Obj)} {σ : L2.St} {H : Hp} {s : Shared} {a b : Addr} {kvs : List (List Key × V)} {k : List Key} {A : Around} {E : Value → Shared → Prop}
theorem d_delItemT {Q : Unit → Shared → Prop} (hu : A.units + 1 < cLine) (I : Inv X pins σ H s) (e : H a = some (.dT kvs)) (eb : H b = some (.tup (k.map kV))) (l : (valV kvs k).isSome = true) (h : ∀ s', Inv X pins σ (upd H a (.dT (dropK kvs k))) s' → Q () s') :
    wpAny (model X.prog X.w) A (delItem (.ref a) (.ref b)) Q E s := by
  obtain ⟨z, hd, xs, rel, dd⟩ := dt_of I.hok e
  have hz : xs.length ≤ sizeLine := by rw [← Paired.length rel]; exact z
  have hl : (dropK kvs k).length ≤ sizeLine := Nat.le_trans (dropK_le kvs k) z
  obtain ⟨p, hp⟩ : ∃ p, atKey xs k = some p := by
    have q := (rel.val k).isSome_eq
    rw [l, Option.isSome_map] at q
    exact Option.isSome_iff_exists.mp q.symm
  refine wpAny_delItem_heap (hsz := hz) (tupleKind_room_in1 hu) (key_of I.hok eb) hd dd hp fun h' dd' hs => h _ ?_
  obtain ⟨q, es, ep, hq, h2, h3, h4, _, h5⟩ := dd'
  refine d_write I (by rw [e]; exact True.intro) hs ⟨q, hq⟩ ⟨hl, hd, _, L2.KT.keeps (KT.drop rel k) fun c ys ec => ?_, q, es, ep, hq, h2, h3, h4, h5⟩
  rw [upd_ne (ne_of ec e (fun z => nomatch z))]
  exact ec
end
section
variable {X : Cx} {o i : Expr} {td ty : TE} {tpos pos : Pos}
def sDDelT (td ty : TE) : TS := fun D σ H => td σ H fun x H1 => ty σ H1 fun y H2 => ∃ (a b : Addr) (kvs : List (List Key × V)) (k : List Key), x = .ref a ∧ y = .ref b ∧ H2 a = some (.dT kvs) ∧ H2 b = some (.tup (k.map kV)) ∧ (valV kvs k).isSome = true ∧ D.nx σ (upd H2 a (.dT (dropK kvs k)))
theorem ps_ddelT (hu : X.A.units + 1 < cLine) (ho : PE X o td) (hi : PE X i ty) : PS X (.Delete [.Subscript o i tpos] pos) (sDDelT td ty) := by
  refine ⟨fun pins s σ H D I h => ?_⟩
  refine wpAny_Delete (wpAny_deleteEach_cons (wpAny_delete_Subscript (thn (ho.run pins s σ H _ I h) fun u s1 ⟨x, H1, I1, rx, q1⟩ => thn (hi.run pins s1 σ H1 _ I1 q1) fun iv s2 ⟨y, H2, I2, ry, a, b, kvs, k, ex, ey, e, eb, l, q2⟩ => ?_)))
  subst ex ey
  obtain rfl : u = Value.ref a := rx
  obtain rfl : iv = Value.ref b := ry
  exact d_delItemT hu I2 e eb l fun s3 I3 => wpAny_deleteEach_nil ⟨σ, _, I3, q2⟩
end

def top (i : Nat) : Stmt := PySem.Challenge.pw_mastword_k06_words_told_by_signs.main.body.getD i (.Pass ⟨0, 0, 0, 0⟩)
abbrev s_p_sign_of : Stmt := top 12
theorem sc_p_sign_of : FnScope ["letter"] ["letter"] (defScope s_p_sign_of) := ⟨rfl, rfl, rfl, by decide +kernel, rfl, by decide +kernel, by decide +kernel⟩
abbrev s_p_is_word : Stmt := top 15
theorem sc_p_is_word : FnScope ["text", "letter"] ["text"] (defScope s_p_is_word) := ⟨rfl, rfl, rfl, by decide +kernel, rfl, by decide +kernel, by decide +kernel⟩
abbrev s_p_check_word : Stmt := top 16
theorem sc_p_check_word : FnScope ["text"] ["text"] (defScope s_p_check_word) := ⟨rfl, rfl, rfl, by decide +kernel, rfl, by decide +kernel, by decide +kernel⟩
abbrev s_p_check_place : Stmt := top 17
theorem sc_p_check_place : FnScope ["page", "line"] ["page", "line"] (defScope s_p_check_place) := ⟨rfl, rfl, rfl, by decide +kernel, rfl, by decide +kernel, by decide +kernel⟩
abbrev s_p_Phrasebook_init : Stmt := inClass (top 18) 0
theorem sc_p_Phrasebook_init : FnScope ["self"] ["self"] (defScope s_p_Phrasebook_init) := ⟨rfl, rfl, rfl, by decide +kernel, rfl, by decide +kernel, by decide +kernel⟩
abbrev s_p_Phrasebook_enter : Stmt := inClass (top 18) 1
theorem sc_p_Phrasebook_enter : FnScope ["self", "page", "line", "word"] ["self", "page", "line", "word"] (defScope s_p_Phrasebook_enter) := ⟨rfl, rfl, rfl, by decide +kernel, rfl, by decide +kernel, by decide +kernel⟩
abbrev s_p_Phrasebook_strike : Stmt := inClass (top 18) 2
theorem sc_p_Phrasebook_strike : FnScope ["self", "page", "line", "word"] ["self", "page", "line"] (defScope s_p_Phrasebook_strike) := ⟨rfl, rfl, rfl, by decide +kernel, rfl, by decide +kernel, by decide +kernel⟩
abbrev s_p_Phrasebook_place_of : Stmt := inClass (top 18) 3
theorem sc_p_Phrasebook_place_of : FnScope ["self", "word"] ["self", "word"] (defScope s_p_Phrasebook_place_of) := ⟨rfl, rfl, rfl, by decide +kernel, rfl, by decide +kernel, by decide +kernel⟩
abbrev s_p_Phrasebook_word_at : Stmt := inClass (top 18) 4
theorem sc_p_Phrasebook_word_at : FnScope ["self", "page", "line"] ["self", "page", "line"] (defScope s_p_Phrasebook_word_at) := ⟨rfl, rfl, rfl, by decide +kernel, rfl, by decide +kernel, by decide +kernel⟩
abbrev s_p_Phrasebook_words : Stmt := inClass (top 18) 5
theorem sc_p_Phrasebook_words : FnScope ["self", "word", "page", "line"] ["self"] (defScope s_p_Phrasebook_words) := ⟨rfl, rfl, rfl, by decide +kernel, rfl, by decide +kernel, by decide +kernel⟩
abbrev s_p_signs_of : Stmt := top 19
theorem sc_p_signs_of : FnScope ["book", "words", "signs", "word", "place", "letter"] ["book", "words"] (defScope s_p_signs_of) := ⟨rfl, rfl, rfl, by decide +kernel, rfl, by decide +kernel, by decide +kernel⟩
abbrev s_l_cell : Stmt := top 21
theorem sc_l_cell : FnScope ["_law_script", "_law_at"] ["_law_script", "_law_at"] (defScope s_l_cell) := ⟨rfl, rfl, rfl, by decide +kernel, rfl, by decide +kernel, by decide +kernel⟩
abbrev s_l_row : Stmt := top 22
theorem sc_l_row : FnScope ["_law_cell_here", "_law_many", "_law_size", "_law_row_here", "_law_rest", "_law_k", "_law_seed", "_law_mixed"] ["_law_cell_here", "_law_many", "_law_size"] (defScope s_l_row) := ⟨rfl, rfl, rfl, by decide +kernel, rfl, by decide +kernel, by decide +kernel⟩
abbrev s_l_like : Stmt := top 23
theorem sc_l_like : FnScope ["_law_found", "_law_due", "_law_k"] ["_law_found", "_law_due"] (defScope s_l_like) := ⟨rfl, rfl, rfl, by decide +kernel, rfl, by decide +kernel, by decide +kernel⟩
abbrev s_l_word : Stmt := top 24
theorem sc_l_word : FnScope ["_law_cell_here", "_law_nums", "_law_some", "_law_num", "_law_size"] ["_law_cell_here"] (defScope s_l_word) := ⟨rfl, rfl, rfl, by decide +kernel, rfl, by decide +kernel, by decide +kernel⟩
abbrev s_l_signs_of : Stmt := top 25
theorem sc_l_signs_of : FnScope ["_law_words", "_law_some", "_law_signs", "_law_word_here", "_law_letter"] ["_law_words", "_law_some"] (defScope s_l_signs_of) := ⟨rfl, rfl, rfl, by decide +kernel, rfl, by decide +kernel, by decide +kernel⟩
abbrev s_l_book : Stmt := top 26
theorem sc_l_book : FnScope ["_law_script", "_law_at", "_law_book_here", "_law_words", "_law_k", "_law_nums", "_law_word_here", "_law_spot", "_law_one"] ["_law_script", "_law_at"] (defScope s_l_book) := ⟨rfl, rfl, rfl, by decide +kernel, rfl, by decide +kernel, by decide +kernel⟩
abbrev s_l_some_words : Stmt := top 27
theorem sc_l_some_words : FnScope ["_law_words", "_law_cell_here", "_law_most", "_law_nums", "_law_known", "_law_found", "_law_num", "_law_word_here"] ["_law_words", "_law_cell_here", "_law_most"] (defScope s_l_some_words) := ⟨rfl, rfl, rfl, by decide +kernel, rfl, by decide +kernel, by decide +kernel⟩
abbrev s_l_told : Stmt := top 28
theorem sc_l_told : FnScope ["_law_book_here", "_law_words", "_law_told_here", "e"] ["_law_book_here", "_law_words"] (defScope s_l_told) := ⟨rfl, rfl, rfl, by decide +kernel, rfl, by decide +kernel, by decide +kernel⟩
abbrev s_l_later : Stmt := top 29
theorem sc_l_later : FnScope ["_law_book_here", "_law_words", "_law_letter_signs", "_law_spot", "_law_at", "_law_one"] ["_law_book_here", "_law_words"] (defScope s_l_later) := ⟨rfl, rfl, rfl, by decide +kernel, rfl, by decide +kernel, by decide +kernel⟩
abbrev s_law : Stmt := top 30
theorem sc_law : FnScope ["_law_script", "_law_book_here", "_law_words", "_law_some", "_law_pick", "_law_due", "_law_at", "_law_turn", "_law_handed", "_law_found", "_law_word_here"] ["_law_script"] (defScope s_law) := ⟨rfl, rfl, rfl, by decide +kernel, rfl, by decide +kernel, by decide +kernel⟩
structure Txt (K : PySem.W.Frag) (mg : Str → Option Value) where
  a_MastError : Addr
  a_BadPlace : Addr
  a_BadWord : Addr
  a_Taken : Addr
  a_Known : Addr
  a_NoWord : Addr
  g_MastError : mg "MastError" = some (.ref a_MastError)
  x_MastError : PySem.W.excIn K a_MastError [.type "ValueError", .type "Exception", .type "BaseException", .type "object"] "ValueError.__new__" = true
  k_MastError : PySem.W.keepIn K (.ref a_MastError) = true
  b_MastError : PySem.W.subIn K (.ref a_MastError) (.type "BaseException") = some true
  t_MastError : PySem.W.typeIn K (.ref a_MastError) = some (.type "type")
  i_MastError : PySem.W.isClsIn K a_MastError = true
  h_MastError : PySem.W.hasDictIn K a_MastError = true
  ga_MastError : PySem.W.findIn K (.ref a_MastError) "__getattribute__" = some (some (.builtin "BaseException.__getattribute__"))
  gg_MastError : PySem.W.findIn K (.ref a_MastError) "__getattr__" = some none
  cl_MastError : PySem.W.findIn K (.ref a_MastError) "__class__" = some (some (.builtin "object.__class__"))
  mo_MastError : PySem.W.mroIn K a_MastError (.type "object") = some true
  v_MastError : PySem.W.subIn K (.ref a_MastError) (.type "ValueError") = some true
  s_MastError_MastError : PySem.W.subIn K (.ref a_MastError) (.ref a_MastError) = some true
  g_BadPlace : mg "BadPlace" = some (.ref a_BadPlace)
  x_BadPlace : PySem.W.excIn K a_BadPlace [.type "ValueError", .type "Exception", .type "BaseException", .type "object"] "ValueError.__new__" = true
  k_BadPlace : PySem.W.keepIn K (.ref a_BadPlace) = true
  b_BadPlace : PySem.W.subIn K (.ref a_BadPlace) (.type "BaseException") = some true
  t_BadPlace : PySem.W.typeIn K (.ref a_BadPlace) = some (.type "type")
  i_BadPlace : PySem.W.isClsIn K a_BadPlace = true
  h_BadPlace : PySem.W.hasDictIn K a_BadPlace = true
  ga_BadPlace : PySem.W.findIn K (.ref a_BadPlace) "__getattribute__" = some (some (.builtin "BaseException.__getattribute__"))
  gg_BadPlace : PySem.W.findIn K (.ref a_BadPlace) "__getattr__" = some none
  cl_BadPlace : PySem.W.findIn K (.ref a_BadPlace) "__class__" = some (some (.builtin "object.__class__"))
  mo_BadPlace : PySem.W.mroIn K a_BadPlace (.type "object") = some true
  v_BadPlace : PySem.W.subIn K (.ref a_BadPlace) (.type "ValueError") = some true
  s_BadPlace_MastError : PySem.W.subIn K (.ref a_BadPlace) (.ref a_MastError) = some true
  g_BadWord : mg "BadWord" = some (.ref a_BadWord)
  x_BadWord : PySem.W.excIn K a_BadWord [.type "ValueError", .type "Exception", .type "BaseException", .type "object"] "ValueError.__new__" = true
  k_BadWord : PySem.W.keepIn K (.ref a_BadWord) = true
  b_BadWord : PySem.W.subIn K (.ref a_BadWord) (.type "BaseException") = some true
  t_BadWord : PySem.W.typeIn K (.ref a_BadWord) = some (.type "type")
  i_BadWord : PySem.W.isClsIn K a_BadWord = true
  h_BadWord : PySem.W.hasDictIn K a_BadWord = true
  ga_BadWord : PySem.W.findIn K (.ref a_BadWord) "__getattribute__" = some (some (.builtin "BaseException.__getattribute__"))
  gg_BadWord : PySem.W.findIn K (.ref a_BadWord) "__getattr__" = some none
  cl_BadWord : PySem.W.findIn K (.ref a_BadWord) "__class__" = some (some (.builtin "object.__class__"))
  mo_BadWord : PySem.W.mroIn K a_BadWord (.type "object") = some true
  v_BadWord : PySem.W.subIn K (.ref a_BadWord) (.type "ValueError") = some true
  s_BadWord_MastError : PySem.W.subIn K (.ref a_BadWord) (.ref a_MastError) = some true
  s_BadWord_BadWord : PySem.W.subIn K (.ref a_BadWord) (.ref a_BadWord) = some true
  g_Taken : mg "Taken" = some (.ref a_Taken)
  x_Taken : PySem.W.excIn K a_Taken [.type "ValueError", .type "Exception", .type "BaseException", .type "object"] "ValueError.__new__" = true
  k_Taken : PySem.W.keepIn K (.ref a_Taken) = true
  b_Taken : PySem.W.subIn K (.ref a_Taken) (.type "BaseException") = some true
  t_Taken : PySem.W.typeIn K (.ref a_Taken) = some (.type "type")
  i_Taken : PySem.W.isClsIn K a_Taken = true
  h_Taken : PySem.W.hasDictIn K a_Taken = true
  ga_Taken : PySem.W.findIn K (.ref a_Taken) "__getattribute__" = some (some (.builtin "BaseException.__getattribute__"))
  gg_Taken : PySem.W.findIn K (.ref a_Taken) "__getattr__" = some none
  cl_Taken : PySem.W.findIn K (.ref a_Taken) "__class__" = some (some (.builtin "object.__class__"))
  mo_Taken : PySem.W.mroIn K a_Taken (.type "object") = some true
  v_Taken : PySem.W.subIn K (.ref a_Taken) (.type "ValueError") = some true
  s_Taken_MastError : PySem.W.subIn K (.ref a_Taken) (.ref a_MastError) = some true
  g_Known : mg "Known" = some (.ref a_Known)
  x_Known : PySem.W.excIn K a_Known [.type "ValueError", .type "Exception", .type "BaseException", .type "object"] "ValueError.__new__" = true
  k_Known : PySem.W.keepIn K (.ref a_Known) = true
  b_Known : PySem.W.subIn K (.ref a_Known) (.type "BaseException") = some true
  t_Known : PySem.W.typeIn K (.ref a_Known) = some (.type "type")
  i_Known : PySem.W.isClsIn K a_Known = true
  h_Known : PySem.W.hasDictIn K a_Known = true
  ga_Known : PySem.W.findIn K (.ref a_Known) "__getattribute__" = some (some (.builtin "BaseException.__getattribute__"))
  gg_Known : PySem.W.findIn K (.ref a_Known) "__getattr__" = some none
  cl_Known : PySem.W.findIn K (.ref a_Known) "__class__" = some (some (.builtin "object.__class__"))
  mo_Known : PySem.W.mroIn K a_Known (.type "object") = some true
  v_Known : PySem.W.subIn K (.ref a_Known) (.type "ValueError") = some true
  s_Known_MastError : PySem.W.subIn K (.ref a_Known) (.ref a_MastError) = some true
  g_NoWord : mg "NoWord" = some (.ref a_NoWord)
  x_NoWord : PySem.W.excIn K a_NoWord [.type "ValueError", .type "Exception", .type "BaseException", .type "object"] "ValueError.__new__" = true
  k_NoWord : PySem.W.keepIn K (.ref a_NoWord) = true
  b_NoWord : PySem.W.subIn K (.ref a_NoWord) (.type "BaseException") = some true
  t_NoWord : PySem.W.typeIn K (.ref a_NoWord) = some (.type "type")
  i_NoWord : PySem.W.isClsIn K a_NoWord = true
  h_NoWord : PySem.W.hasDictIn K a_NoWord = true
  ga_NoWord : PySem.W.findIn K (.ref a_NoWord) "__getattribute__" = some (some (.builtin "BaseException.__getattribute__"))
  gg_NoWord : PySem.W.findIn K (.ref a_NoWord) "__getattr__" = some none
  cl_NoWord : PySem.W.findIn K (.ref a_NoWord) "__class__" = some (some (.builtin "object.__class__"))
  mo_NoWord : PySem.W.mroIn K a_NoWord (.type "object") = some true
  v_NoWord : PySem.W.subIn K (.ref a_NoWord) (.type "ValueError") = some true
  s_NoWord_MastError : PySem.W.subIn K (.ref a_NoWord) (.ref a_MastError) = some true
  a_Phrasebook : Addr
  g_Phrasebook : mg "Phrasebook" = some (.ref a_Phrasebook)
  cl_Phrasebook : Cls K a_Phrasebook
  n_Phrasebook_word_by_place : NoAttr K a_Phrasebook "word_by_place"
  n_Phrasebook_place_by_word : NoAttr K a_Phrasebook "place_by_word"
  f_p_sign_of : Addr
  d_p_sign_of : FuncData
  F_p_sign_of : Fun K "sign_of" "sign_of" s_p_sign_of f_p_sign_of d_p_sign_of
  b_p_sign_of : Binds K d_p_sign_of ["letter"] []
  g_p_sign_of : mg "sign_of" = some (.ref f_p_sign_of)
  f_p_is_word : Addr
  d_p_is_word : FuncData
  c_tab : Addr
  P_tab : Addr
  W_p_is_word : FunC K "is_word" "is_word" s_p_is_word f_p_is_word d_p_is_word c_tab
  F_p_is_word : Fun K "is_word" "is_word" s_p_is_word f_p_is_word d_p_is_word
  b_p_is_word : Binds K d_p_is_word ["text"] []
  g_p_is_word : mg "is_word" = some (.ref f_p_is_word)
  f_p_check_word : Addr
  d_p_check_word : FuncData
  F_p_check_word : Fun K "check_word" "check_word" s_p_check_word f_p_check_word d_p_check_word
  b_p_check_word : Binds K d_p_check_word ["text"] []
  g_p_check_word : mg "check_word" = some (.ref f_p_check_word)
  f_p_check_place : Addr
  d_p_check_place : FuncData
  F_p_check_place : Fun K "check_place" "check_place" s_p_check_place f_p_check_place d_p_check_place
  b_p_check_place : Binds K d_p_check_place ["page", "line"] []
  g_p_check_place : mg "check_place" = some (.ref f_p_check_place)
  f_p_Phrasebook_init : Addr
  d_p_Phrasebook_init : FuncData
  F_p_Phrasebook_init : Fun K "__init__" "Phrasebook.__init__" s_p_Phrasebook_init f_p_Phrasebook_init d_p_Phrasebook_init
  b_p_Phrasebook_init : Binds K d_p_Phrasebook_init ["self"] []
  M_p_Phrasebook_init : Meth K a_Phrasebook "__init__" f_p_Phrasebook_init
  K_Phrasebook : Mk K a_Phrasebook f_p_Phrasebook_init
  f_p_Phrasebook_enter : Addr
  d_p_Phrasebook_enter : FuncData
  F_p_Phrasebook_enter : Fun K "enter" "Phrasebook.enter" s_p_Phrasebook_enter f_p_Phrasebook_enter d_p_Phrasebook_enter
  b_p_Phrasebook_enter : Binds K d_p_Phrasebook_enter ["self", "page", "line", "word"] []
  M_p_Phrasebook_enter : Meth K a_Phrasebook "enter" f_p_Phrasebook_enter
  f_p_Phrasebook_strike : Addr
  d_p_Phrasebook_strike : FuncData
  F_p_Phrasebook_strike : Fun K "strike" "Phrasebook.strike" s_p_Phrasebook_strike f_p_Phrasebook_strike d_p_Phrasebook_strike
  b_p_Phrasebook_strike : Binds K d_p_Phrasebook_strike ["self", "page", "line"] []
  M_p_Phrasebook_strike : Meth K a_Phrasebook "strike" f_p_Phrasebook_strike
  f_p_Phrasebook_place_of : Addr
  d_p_Phrasebook_place_of : FuncData
  F_p_Phrasebook_place_of : Fun K "place_of" "Phrasebook.place_of" s_p_Phrasebook_place_of f_p_Phrasebook_place_of d_p_Phrasebook_place_of
  b_p_Phrasebook_place_of : Binds K d_p_Phrasebook_place_of ["self", "word"] []
  M_p_Phrasebook_place_of : Meth K a_Phrasebook "place_of" f_p_Phrasebook_place_of
  f_p_Phrasebook_word_at : Addr
  d_p_Phrasebook_word_at : FuncData
  F_p_Phrasebook_word_at : Fun K "word_at" "Phrasebook.word_at" s_p_Phrasebook_word_at f_p_Phrasebook_word_at d_p_Phrasebook_word_at
  b_p_Phrasebook_word_at : Binds K d_p_Phrasebook_word_at ["self", "page", "line"] []
  M_p_Phrasebook_word_at : Meth K a_Phrasebook "word_at" f_p_Phrasebook_word_at
  f_p_Phrasebook_words : Addr
  d_p_Phrasebook_words : FuncData
  F_p_Phrasebook_words : Fun K "words" "Phrasebook.words" s_p_Phrasebook_words f_p_Phrasebook_words d_p_Phrasebook_words
  b_p_Phrasebook_words : Binds K d_p_Phrasebook_words ["self"] []
  M_p_Phrasebook_words : Meth K a_Phrasebook "words" f_p_Phrasebook_words
  f_p_signs_of : Addr
  d_p_signs_of : FuncData
  F_p_signs_of : Fun K "signs_of" "signs_of" s_p_signs_of f_p_signs_of d_p_signs_of
  b_p_signs_of : Binds K d_p_signs_of ["book", "words"] []
  g_p_signs_of : mg "signs_of" = some (.ref f_p_signs_of)
  f_l_cell : Addr
  d_l_cell : FuncData
  F_l_cell : Fun K "_law_cell" "_law_cell" s_l_cell f_l_cell d_l_cell
  b_l_cell : Binds K d_l_cell ["_law_script", "_law_at"] []
  g_l_cell : mg "_law_cell" = some (.ref f_l_cell)
  f_l_row : Addr
  d_l_row : FuncData
  F_l_row : Fun K "_law_row" "_law_row" s_l_row f_l_row d_l_row
  b_l_row : Binds K d_l_row ["_law_cell_here", "_law_many", "_law_size"] []
  g_l_row : mg "_law_row" = some (.ref f_l_row)
  f_l_like : Addr
  d_l_like : FuncData
  F_l_like : Fun K "_law_like" "_law_like" s_l_like f_l_like d_l_like
  b_l_like : Binds K d_l_like ["_law_found", "_law_due"] []
  g_l_like : mg "_law_like" = some (.ref f_l_like)
  f_l_word : Addr
  d_l_word : FuncData
  F_l_word : Fun K "_law_word" "_law_word" s_l_word f_l_word d_l_word
  b_l_word : Binds K d_l_word ["_law_cell_here"] []
  g_l_word : mg "_law_word" = some (.ref f_l_word)
  f_l_signs_of : Addr
  d_l_signs_of : FuncData
  F_l_signs_of : Fun K "_law_signs_of" "_law_signs_of" s_l_signs_of f_l_signs_of d_l_signs_of
  b_l_signs_of : Binds K d_l_signs_of ["_law_words", "_law_some"] []
  g_l_signs_of : mg "_law_signs_of" = some (.ref f_l_signs_of)
  f_l_book : Addr
  d_l_book : FuncData
  F_l_book : Fun K "_law_book" "_law_book" s_l_book f_l_book d_l_book
  b_l_book : Binds K d_l_book ["_law_script", "_law_at"] []
  g_l_book : mg "_law_book" = some (.ref f_l_book)
  f_l_some_words : Addr
  d_l_some_words : FuncData
  F_l_some_words : Fun K "_law_some_words" "_law_some_words" s_l_some_words f_l_some_words d_l_some_words
  b_l_some_words : Binds K d_l_some_words ["_law_words", "_law_cell_here", "_law_most"] []
  g_l_some_words : mg "_law_some_words" = some (.ref f_l_some_words)
  f_l_told : Addr
  d_l_told : FuncData
  F_l_told : Fun K "_law_told" "_law_told" s_l_told f_l_told d_l_told
  b_l_told : Binds K d_l_told ["_law_book_here", "_law_words"] []
  g_l_told : mg "_law_told" = some (.ref f_l_told)
  f_l_later : Addr
  d_l_later : FuncData
  F_l_later : Fun K "_law_later" "_law_later" s_l_later f_l_later d_l_later
  b_l_later : Binds K d_l_later ["_law_book_here", "_law_words"] []
  g_l_later : mg "_law_later" = some (.ref f_l_later)
  u_LETTERS : Value
  c_LETTERS : mg "LETTERS" = some u_LETTERS
  r_LETTERS : RelV (.str "abcdefghijklmnopqrstuvwxyz") u_LETTERS
  u_LAST_PAGE : Value
  c_LAST_PAGE : mg "LAST_PAGE" = some u_LAST_PAGE
  r_LAST_PAGE : RelV (.int 40) u_LAST_PAGE
  u_FIRST_LETTER : Value
  c_FIRST_LETTER : mg "FIRST_LETTER" = some u_FIRST_LETTER
  r_FIRST_LETTER : RelV (.int 41) u_FIRST_LETTER
  u_END : Value
  c_END : mg "END" = some u_END
  r_END : RelV (.int 67) u_END
  u_LONGEST_WORD : Value
  c_LONGEST_WORD : mg "LONGEST_WORD" = some u_LONGEST_WORD
  r_LONGEST_WORD : RelV (.int 12) u_LONGEST_WORD
  m_all : mg "all" = none
  m_len : mg "len" = none
  m_sorted : mg "sorted" = none
  m_list : mg "list" = none
  m_range : mg "range" = none
  m_isinstance : mg "isinstance" = none
  m_bool : mg "bool" = none
  m_int : mg "int" = none
  m_str : mg "str" = none
  m_tuple : mg "tuple" = none
  oc_get : PySem.W.specialIn K (.builtin "object.__class__") "__get__" = some (some (.builtin "getset_descriptor.__get__"))
  oc_tak : PySem.W.takesIn K (.builtin "object.__class__") = some true
section
variable {P : Program} {w : World} {K : PySem.W.Frag} {mg : Str → Option Value} {base : Heap}
/-! ### _law_cell: an int of the script -/
def cellV (ns : List Int) (j : Nat) : Int :=
  if j < ns.length then ns.getD j 0 else if ns.length = 0 then 29 * (j : Int) + 5 else ns.getD (j % ns.length) 0 % 1000003 + 103 * (j : Int)
def sp_l_cell (K : PySem.W.Frag) : Sp := fun vs H Q _ => ∃ (l : Addr) (ns : List Int) (j : Nat), vs = [.ref l, .int j] ∧ SqL K H l (ns.map V.int) ∧ j ≤ 100000 ∧ Q (.int (cellV ns j)) H
theorem getD_at {ns : List Int} {j : Nat} (h : j < ns.length) : atI (ns.map V.int) (j : Int) = some (.int (ns.getD j 0)) := by
  rw [at_int h, List.getD_eq_getElem?_getD, List.getElem?_eq_getElem h]
  rfl
theorem ok_l_cell (T : Txt K mg) : FnOk P w K mg base CX0 1 T.f_l_cell T.d_l_cell ["_law_script", "_law_at"] (sp_l_cell K) := by
  refine T.F_l_cell.ok sc_l_cell (fun vs H Q E h => ?_) (fun cdv A outer s H vs Q E hr h => ?_)
  · obtain ⟨l, ns, j, rfl, _⟩ := h
    rfl
  · obtain ⟨l, ns, j, rfl, hS, hj, k⟩ := h
    have hlen : ((ns.map V.int).length : Int) = (ns.length : Int) := by rw [List.length_map]
    refine ⟨_, (pss_cons (ps_if (pt_cmpR op_lt (pv 1) (pe_callB call_len_seq (by rfl) T.m_len PySem.boot_len (pa_cons (pv 0) pa_nil)) (nomark _))
      (pss_one (ps_ret (pe_ix ix_list (pv 0) (pv 1) (fun _ _ => rfl))))
      pss_nil)
      (pss_cons (ps_if (pt_cmpR op_eq (pe_callB call_len_seq (by rfl) T.m_len PySem.boot_len (pa_cons (pv 0) pa_nil)) pe_int (nomark _))
      (pss_one (ps_ret (pe_op op_add (pe_op op_mul pe_int (pv 1)) pe_int)))
      pss_nil)
      (pss_one (ps_ret (pe_op op_add (pe_op op_mod (pe_ix ix_list (pv 0) (pe_op op_mod (pv 1) (pe_callB call_len_seq (by rfl) T.m_len PySem.boot_len (pa_cons (pv 0) pa_nil))) (fun _ _ => rfl)) pe_int) (pe_op op_mul pe_int (pv 1))))))), ?_⟩
    refine ⟨_, rfl, _, rfl, l, _, rfl, .inl hS, _, _, rfl, rfl, _, rfl, iteD (fun c => ?_) (fun c => ?_)⟩
    · rw [hlen] at c
      refine ⟨_, rfl, _, rfl, l, _, _, _, rfl, rfl, hS, getD_at (show j < ns.length by omega), ?_⟩
      have e : cellV ns j = ns.getD j 0 := if_pos (by omega)
      rw [e] at k
      exact k
    · rw [hlen] at c
      refine ⟨_, rfl, l, _, rfl, .inl hS, rfl, _, rfl, iteD (fun c2 => ?_) (fun c2 => ?_)⟩
      · have c3 : (ns.length : Int) = 0 := by
          have z := V.int.inj c2
          rw [hlen] at z
          exact z
        have e : cellV ns j = 29 * (j : Int) + 5 := by
          unfold cellV
          rw [if_neg (by omega), if_pos (by omega)]
        rw [e] at k
        exact ⟨_, rfl, _, _, rfl, rfl, .inl ⟨by decide, by decide⟩, _, _, rfl, rfl, k⟩
      · have c3 : ns.length ≠ 0 := fun z => c2 (by rw [hlen, z]; rfl)
        have hm : j % ns.length < ns.length := Nat.mod_lt _ (by omega)
        have e : cellV ns j = ns.getD (j % ns.length) 0 % 1000003 + 103 * (j : Int) := by
          unfold cellV
          rw [if_neg (by omega), if_neg c3]
        rw [e] at k
        have ea : atI (ns.map V.int) ((j : Int) % ((ns.map V.int).length : Int)) = some (.int (ns.getD (j % ns.length) 0)) := by
          rw [hlen, ← Int.natCast_emod]
          exact getD_at hm
        exact ⟨_, rfl, _, rfl, _, rfl, l, _, rfl, .inl hS, _, _, rfl, rfl, (by show (0 : Int) < ((ns.map V.int).length : Int); rw [hlen]; omega), l, _, _, _, rfl, rfl, hS, ea, _, _, rfl, rfl, (by show (0 : Int) < 1000003; decide), _, rfl, _, _, rfl, rfl, .inl ⟨by decide, by decide⟩, _, _, rfl, rfl, k⟩
/-! ### _law_like of one datum with itself -/
inductive Dn : Nat → PyData → Prop
  | non (n : Nat) : Dn (n + 1) .none
  | bl (n : Nat) (b : Bool) : Dn (n + 1) (.bool b)
  | int (n : Nat) (i : Int) : Dn (n + 1) (.int i)
  | str (n : Nat) (x : Str) : Dn (n + 1) (.str x)
  | lst {n : Nat} {ds : List PyData} : (∀ d ∈ ds, Dn n d) → ds.length ≤ 10000 → Dn (n + 1) (.list ds)
  | tup {n : Nat} {ds : List PyData} : (∀ d ∈ ds, Dn n d) → ds.length ≤ 10000 → Dn (n + 1) (.tuple ds)
def tyN : PyData → String
  | .none => "NoneType" | .bool _ => "bool" | .int _ => "int" | .str _ => "str" | .list _ => "list" | .tuple _ => "tuple" | .dict _ => "dict"
theorem ty_of {K : PySem.W.Frag} {H : Hp} {v : V} {d : PyData} (h : Dp K H v d) : TyX K H v (.type (tyN d)) := by
  cases h with
  | non => exact .base .non
  | bl b => exact .base (.bl b)
  | int i => exact .base (.int i)
  | str x => exact .base (.str x)
  | lst h _ =>
    rcases h with (h | ⟨o, h⟩) | ⟨o, its, n, e, c, _⟩
    · exact .base (.lst h)
    · exact .base (.frz h)
    · exact .kList e c
  | tup h _ =>
    rcases h with (h | ⟨o, h⟩) | ⟨o, its, n, e, c, _⟩
    · exact .base (.tup h)
    · exact .fTuple h
    · exact .kTuple e c
def sp_l_like (K : PySem.W.Frag) (n : Nat) : Sp := fun vs H Q _ => ∃ (u v : V) (d : PyData), vs = [u, v] ∧ Dp K H u d ∧ Dp K H v d ∧ Dn n d ∧ ∀ H', Kp H H' → Q (.bl true) H'
theorem fn_none {P : Program} {w : World} {K : PySem.W.Frag} {mg : Str → Option Value} {base : Heap} {f : Addr} {fd : FuncData} {ps : List Str} {sp : Sp} {k : Nat} (h : ∀ vs H Q E, ¬ sp vs H Q E) : FnOk P w K mg base CX0 k f fd ps sp :=
  ⟨fun vs H Q E q => (h vs H Q E q).elim, fun _ _ _ H _ _ vs Q E _ _ _ _ q => (h vs H Q E q).elim⟩
theorem bl_all {n : Nat} : ((List.replicate n true).map V.bl) = List.replicate n (V.bl true) := List.map_replicate
theorem all_rep (n : Nat) : (List.replicate n true).all id = true := by
  rw [List.all_eq_true]
  intro x hx
  rw [List.eq_of_mem_replicate hx]
  rfl
theorem k_bb : kitB "bool" "bool" = some true := by decide +kernel
theorem k_bi : kitB "bool" "int" = some true := by decide +kernel
theorem k_bs : kitB "bool" "str" = some false := by decide +kernel
theorem k_bl : kitB "bool" "list" = some false := by decide +kernel
theorem k_bt : kitB "bool" "tuple" = some false := by decide +kernel
theorem k_ib : kitB "int" "bool" = some false := by decide +kernel
theorem k_ii : kitB "int" "int" = some true := by decide +kernel
theorem k_is : kitB "int" "str" = some false := by decide +kernel
theorem k_il : kitB "int" "list" = some false := by decide +kernel
theorem k_it : kitB "int" "tuple" = some false := by decide +kernel
theorem k_sb : kitB "str" "bool" = some false := by decide +kernel
theorem k_si : kitB "str" "int" = some false := by decide +kernel
theorem k_ss : kitB "str" "str" = some true := by decide +kernel
theorem k_sl : kitB "str" "list" = some false := by decide +kernel
theorem k_st : kitB "str" "tuple" = some false := by decide +kernel
theorem k_lb : kitB "list" "bool" = some false := by decide +kernel
theorem k_li : kitB "list" "int" = some false := by decide +kernel
theorem k_ls : kitB "list" "str" = some false := by decide +kernel
theorem k_ll : kitB "list" "list" = some true := by decide +kernel
theorem k_lt : kitB "list" "tuple" = some false := by decide +kernel
theorem k_tb : kitB "tuple" "bool" = some false := by decide +kernel
theorem k_ti : kitB "tuple" "int" = some false := by decide +kernel
theorem k_ts : kitB "tuple" "str" = some false := by decide +kernel
theorem k_tl : kitB "tuple" "list" = some false := by decide +kernel
theorem k_tt : kitB "tuple" "tuple" = some true := by decide +kernel
theorem dec_self {x : V} : decide (x = x) = true := decide_eq_true rfl
theorem ok_l_like (T : Txt K mg) : ∀ n : Nat, FnOk P w K mg base CX0 n T.f_l_like T.d_l_like ["_law_found", "_law_due"] (sp_l_like K n)
  | 0 => fn_none fun vs H Q E ⟨u, v, d, _, _, _, h, _⟩ => nomatch h
  | n + 1 => by
    have IH := ok_l_like T n
    refine T.F_l_like.ok sc_l_like (fun vs H Q E h => ?_) (fun cdv A outer s H vs Q E hr h => ?_)
    · obtain ⟨u, v, d, rfl, _⟩ := h
      rfl
    · obtain ⟨u, v, d, rfl, hu, hv, hn, k⟩ := h
      have tu := ty_of hu
      have tv := ty_of hv
      refine ⟨_, (pss_cons (ps_if (pt_cmpR op_isN (pv 1) pe_non (nomark _))
      (pss_one (ps_ret (pe_cmpR op_isN (pv 0) pe_non (nomark _))))
      pss_nil)
      (pss_cons (ps_if (pt_val (pe_callB call_isi (by rfl) T.m_isinstance (by decide +kernel) (pa_cons (pv 1) (pa_cons (pe_bltn (v := .ty "bool") (by rfl) T.m_bool (by decide +kernel) rfl) pa_nil))))
      (pss_one (ps_ret (pe_and (pe_callB call_isi (by rfl) T.m_isinstance (by decide +kernel) (pa_cons (pv 0) (pa_cons (pe_bltn (v := .ty "bool") (by rfl) T.m_bool (by decide +kernel) rfl) pa_nil))) (pe_one (pe_cmpR op_eq (pv 0) (pv 1) (nomark _))))))
      pss_nil)
      (pss_cons (ps_if (pt_val (pe_callB call_isi (by rfl) T.m_isinstance (by decide +kernel) (pa_cons (pv 1) (pa_cons (pe_bltn (v := .ty "int") (by rfl) T.m_int (by decide +kernel) rfl) pa_nil))))
      (pss_one (ps_ret (pe_and (pe_callB call_isi (by rfl) T.m_isinstance (by decide +kernel) (pa_cons (pv 0) (pa_cons (pe_bltn (v := .ty "int") (by rfl) T.m_int (by decide +kernel) rfl) pa_nil))) (pe_and (pe_not (pe_callB call_isi (by rfl) T.m_isinstance (by decide +kernel) (pa_cons (pv 0) (pa_cons (pe_bltn (v := .ty "bool") (by rfl) T.m_bool (by decide +kernel) rfl) pa_nil)))) (pe_one (pe_cmpR op_eq (pv 0) (pv 1) (nomark _)))))))
      pss_nil)
      (pss_cons (ps_if (pt_val (pe_callB call_isi (by rfl) T.m_isinstance (by decide +kernel) (pa_cons (pv 1) (pa_cons (pe_bltn (v := .ty "str") (by rfl) T.m_str (by decide +kernel) rfl) pa_nil))))
      (pss_one (ps_ret (pe_and (pe_callB call_isi (by rfl) T.m_isinstance (by decide +kernel) (pa_cons (pv 0) (pa_cons (pe_bltn (v := .ty "str") (by rfl) T.m_str (by decide +kernel) rfl) pa_nil))) (pe_one (pe_cmpR op_eq (pv 0) (pv 1) (nomark _))))))
      pss_nil)
      (pss_cons (ps_if (PW.pt (pw_or (pt_cmpR op_ne (pe_callB call_isi (by rfl) T.m_isinstance (by decide +kernel) (pa_cons (pv 1) (pa_cons (pe_bltn (v := .ty "list") (by rfl) T.m_list (by decide +kernel) rfl) pa_nil))) (pe_callB call_isi (by rfl) T.m_isinstance (by decide +kernel) (pa_cons (pv 0) (pa_cons (pe_bltn (v := .ty "list") (by rfl) T.m_list (by decide +kernel) rfl) pa_nil))) (nomark _)) (pw_or1 (pt_cmpR op_ne (pe_callB call_isi (by rfl) T.m_isinstance (by decide +kernel) (pa_cons (pv 1) (pa_cons (pe_bltn (v := .ty "tuple") (by rfl) T.m_tuple (by decide +kernel) rfl) pa_nil))) (pe_callB call_isi (by rfl) T.m_isinstance (by decide +kernel) (pa_cons (pv 0) (pa_cons (pe_bltn (v := .ty "tuple") (by rfl) T.m_tuple (by decide +kernel) rfl) pa_nil))) (nomark _)))))
      (pss_one (ps_ret pe_bl))
      pss_nil)
      (pss_one (ps_ret (pe_and (pe_cmpR op_eq (pe_callB call_len (by rfl) T.m_len PySem.boot_len (pa_cons (pv 0) pa_nil)) (pe_callB call_len (by rfl) T.m_len PySem.boot_len (pa_cons (pv 1) pa_nil)) (nomark _)) (pe_one (pe_callB (cr_all rfl) (by rfl) T.m_all (by decide +kernel) (pa_cons (pe_lc (own := [("_law_k", 2)]) (g := gName 2) (tt := tYes) (by rfl) sc_l_like.nd (pi_range1 (by rfl) T.m_range (pa_cons (pe_callB call_len (by rfl) T.m_len PySem.boot_len (pa_cons (pv 1) pa_nil)) pa_nil)) (blkOk_by (own := [("_law_k", 2)]) (N := ["_law_found", "_law_due", "_law_k"]) (sc := defScope s_l_like) (by decide +kernel)) (fun _ _ _ _ _ => (pg_name (i := 2) sc_l_like.nd rfl (by first | exact Or.inl rfl | exact Or.inr rfl))) (fun _ _ _ _ _ => pts_nil) (fun _ _ _ _ _ => (pe_call IH hr rfl T.g_l_like T.F_l_like.kp T.b_l_like .nil pass0 (pa_cons (pe_ix (ix_seqK K rfl) (pv 0) (pv 2) (fun _ _ => rfl)) (pa_cons (pe_ix (ix_seqK K rfl) (pv 1) (pv 2) (fun _ _ => rfl)) pa_nil))))) pa_nil))))))))))), ?_⟩
      cases hn with
      | non n =>
        cases hu
        cases hv
        refine ⟨_, rfl, rfl, _, rfl, iteTo dec_self ?_⟩
        exact ⟨_, rfl, rfl, k _ (.refl _)⟩
      | bl n b =>
        cases hu
        cases hv
        refine ⟨_, rfl, rfl, _, rfl, iteFo rfl ?_⟩
        refine ⟨_, rfl, _, _, _, _, true, rfl, .ty _, tv, kit_ty k_bb, _, rfl, iteTo rfl ?_⟩
        refine ⟨_, rfl, _, _, _, _, true, rfl, .ty _, tu, kit_ty k_bb, _, rfl, iteTo rfl ?_⟩
        refine ⟨_, rfl, _, rfl, rfl, ?_⟩
        rw [dec_self]
        exact k _ (.refl _)
      | int n i =>
        cases hu
        cases hv
        refine ⟨_, rfl, rfl, _, rfl, iteFo rfl ?_⟩
        refine ⟨_, rfl, _, _, _, _, false, rfl, .ty _, tv, kit_ty k_ib, _, rfl, iteFo rfl ?_⟩
        refine ⟨_, rfl, _, _, _, _, true, rfl, .ty _, tv, kit_ty k_ii, _, rfl, iteTo rfl ?_⟩
        refine ⟨_, rfl, _, _, _, _, true, rfl, .ty _, tu, kit_ty k_ii, _, rfl, iteTo rfl ?_⟩
        refine ⟨_, rfl, _, _, _, _, false, rfl, .ty _, tu, kit_ty k_ib, _, rfl, _, rfl, iteTo rfl ?_⟩
        refine ⟨_, rfl, _, rfl, rfl, ?_⟩
        rw [dec_self]
        exact k _ (.refl _)
      | str n x =>
        cases hu
        cases hv
        refine ⟨_, rfl, rfl, _, rfl, iteFo rfl ?_⟩
        refine ⟨_, rfl, _, _, _, _, false, rfl, .ty _, tv, kit_ty k_sb, _, rfl, iteFo rfl ?_⟩
        refine ⟨_, rfl, _, _, _, _, false, rfl, .ty _, tv, kit_ty k_si, _, rfl, iteFo rfl ?_⟩
        refine ⟨_, rfl, _, _, _, _, true, rfl, .ty _, tv, kit_ty k_ss, _, rfl, iteTo rfl ?_⟩
        refine ⟨_, rfl, _, _, _, _, true, rfl, .ty _, tu, kit_ty k_ss, _, rfl, iteTo rfl ?_⟩
        refine ⟨_, rfl, _, rfl, rfl, ?_⟩
        rw [dec_self]
        exact k _ (.refl _)
      | lst hd hl =>
        rename_i ds
        cases hu with | lst hsu hau =>
        cases hv with | lst hsv hav =>
        rename_i a xs b ys
        have lx := DpAll.len hau
        have ly := DpAll.len hav
        refine ⟨_, rfl, rfl, _, rfl, iteFo rfl ?_⟩
        refine ⟨_, rfl, _, _, _, _, false, rfl, .ty _, tv, kit_ty k_lb, _, rfl, iteFo rfl ?_⟩
        refine ⟨_, rfl, _, _, _, _, false, rfl, .ty _, tv, kit_ty k_li, _, rfl, iteFo rfl ?_⟩
        refine ⟨_, rfl, _, _, _, _, false, rfl, .ty _, tv, kit_ty k_ls, _, rfl, iteFo rfl ?_⟩
        refine ⟨_, rfl, _, _, _, _, true, rfl, .ty _, tv, kit_ty k_ll, _, rfl, _, _, _, _, true, rfl, .ty _, tu, kit_ty k_ll, rfl, _, rfl, iteFo rfl ?_⟩
        refine ⟨_, rfl, _, _, _, _, false, rfl, .ty _, tv, kit_ty k_lt, _, rfl, _, _, _, _, false, rfl, .ty _, tu, kit_ty k_lt, rfl, _, rfl, iteFo rfl ?_⟩
        refine ⟨_, rfl, _, _, rfl, .inl ⟨_, hsu, rfl⟩, _, rfl, _, _, rfl, .inl ⟨_, hsv, rfl⟩, rfl, _, rfl, iteTo (decide_eq_true (congrArg (fun z : Nat => V.int (z : Int)) (lx.trans ly.symm))) ?_⟩
        refine ⟨_, rfl, _, _, rfl, .inl ⟨_, hsv, rfl⟩, _, rfl, by omega, by omega, fun D hD => ?_⟩
        rw [Int.toNat_natCast]
        refine lc_range (lo := 0) (n := ys.length) (fun i H' => Kp H H' ∧ H' D = some (.lst (List.replicate i (V.bl true)))) ⟨Kp.new hD, upd_same⟩ (fun i H' hi ⟨kp, hDl⟩ => ?_) (fun H' ⟨kp, hDl⟩ => ?_)
        · have e0 : (0 : Int) + (i : Int) = (i : Int) := Int.zero_add _
          obtain ⟨d, hdi⟩ : ∃ d, ds[i]? = some d := ⟨_, List.getElem?_eq_getElem (by omega)⟩
          obtain ⟨x, hx, dx⟩ := DpAll.get hau hdi
          obtain ⟨y, hy, dy⟩ := DpAll.get hav hdi
          refine ⟨rfl, ?_⟩
          refine ⟨_, rfl, _, rfl, .inl ⟨_, _, _, x, rfl, rfl, kp.sqL hsu, by rw [e0]; exact atI_nat hx, _, rfl, _, rfl, .inl ⟨_, _, _, y, rfl, rfl, kp.sqL hsv, by rw [e0]; exact atI_nat hy, ?_⟩⟩⟩
          refine ⟨x, y, d, rfl, kp.dp dx, kp.dp dy, hd d (List.mem_of_getElem? hdi), fun H2 k2 => ⟨_, k2.same _ _ rfl hDl, szt (by rw [List.length_replicate]; omega), ?_⟩⟩
          exact ⟨(kp.trans k2).mut hD, by rw [upd_same, List.replicate_succ']⟩
        · refine ⟨D, List.replicate ys.length true, rfl, .inl (.inl (by rw [bl_all]; exact hDl)), ?_⟩
          rw [all_rep]
          exact k _ kp
      | tup hd hl =>
        rename_i ds
        cases hu with | tup hsu hau =>
        cases hv with | tup hsv hav =>
        rename_i a xs b ys
        have lx := DpAll.len hau
        have ly := DpAll.len hav
        refine ⟨_, rfl, rfl, _, rfl, iteFo rfl ?_⟩
        refine ⟨_, rfl, _, _, _, _, false, rfl, .ty _, tv, kit_ty k_tb, _, rfl, iteFo rfl ?_⟩
        refine ⟨_, rfl, _, _, _, _, false, rfl, .ty _, tv, kit_ty k_ti, _, rfl, iteFo rfl ?_⟩
        refine ⟨_, rfl, _, _, _, _, false, rfl, .ty _, tv, kit_ty k_ts, _, rfl, iteFo rfl ?_⟩
        refine ⟨_, rfl, _, _, _, _, false, rfl, .ty _, tv, kit_ty k_tl, _, rfl, _, _, _, _, false, rfl, .ty _, tu, kit_ty k_tl, rfl, _, rfl, iteFo rfl ?_⟩
        refine ⟨_, rfl, _, _, _, _, true, rfl, .ty _, tv, kit_ty k_tt, _, rfl, _, _, _, _, true, rfl, .ty _, tu, kit_ty k_tt, rfl, _, rfl, iteFo rfl ?_⟩
        refine ⟨_, rfl, _, _, rfl, .inr ⟨_, hsu, rfl⟩, _, rfl, _, _, rfl, .inr ⟨_, hsv, rfl⟩, rfl, _, rfl, iteTo (decide_eq_true (congrArg (fun z : Nat => V.int (z : Int)) (lx.trans ly.symm))) ?_⟩
        refine ⟨_, rfl, _, _, rfl, .inr ⟨_, hsv, rfl⟩, _, rfl, by omega, by omega, fun D hD => ?_⟩
        rw [Int.toNat_natCast]
        refine lc_range (lo := 0) (n := ys.length) (fun i H' => Kp H H' ∧ H' D = some (.lst (List.replicate i (V.bl true)))) ⟨Kp.new hD, upd_same⟩ (fun i H' hi ⟨kp, hDl⟩ => ?_) (fun H' ⟨kp, hDl⟩ => ?_)
        · have e0 : (0 : Int) + (i : Int) = (i : Int) := Int.zero_add _
          obtain ⟨d, hdi⟩ : ∃ d, ds[i]? = some d := ⟨_, List.getElem?_eq_getElem (by omega)⟩
          obtain ⟨x, hx, dx⟩ := DpAll.get hau hdi
          obtain ⟨y, hy, dy⟩ := DpAll.get hav hdi
          refine ⟨rfl, ?_⟩
          refine ⟨_, rfl, _, rfl, .inr (.inl ⟨_, _, _, x, rfl, rfl, kp.sqT hsu, by rw [e0]; exact atI_nat hx, _, rfl, _, rfl, .inr (.inl ⟨_, _, _, y, rfl, rfl, kp.sqT hsv, by rw [e0]; exact atI_nat hy, ?_⟩)⟩)⟩
          refine ⟨x, y, d, rfl, kp.dp dx, kp.dp dy, hd d (List.mem_of_getElem? hdi), fun H2 k2 => ⟨_, k2.same _ _ rfl hDl, szt (by rw [List.length_replicate]; omega), ?_⟩⟩
          exact ⟨(kp.trans k2).mut hD, by rw [upd_same, List.replicate_succ']⟩
        · refine ⟨D, List.replicate ys.length true, rfl, .inl (.inl (by rw [bl_all]; exact hDl)), ?_⟩
          rw [all_rep]
          exact k _ kp
/-! ### _law_row: so many ints from nought to below a size -/
def Drawn0 (many size : Int) (xs : List Int) : Prop := (xs.length : Int) = many ∧ ∀ x ∈ xs, 0 ≤ x ∧ x < size
def sp_l_row : Sp := fun vs H Q _ => ∃ (c many size : Int), vs = [.int c, .int many, .int size] ∧ 0 ≤ many ∧ many ≤ 1000 ∧ 0 < size ∧ size < 1073741824 ∧
  ∀ (xs : List Int) (p : Addr) (H' : Hp), H p = none → Kp H H' → H' p = some (.lst (xs.map V.int)) → Drawn0 many size xs → Q (.ref p) H'
theorem snoc_in {size z : Int} {xs : List Int} (hs : 0 < size) (h : ∀ x ∈ xs, 0 ≤ x ∧ x < size) : ∀ x ∈ xs ++ [z % size], 0 ≤ x ∧ x < size := by
  intro x hx
  rcases List.mem_append.mp hx with hx | hx
  · exact h x hx
  · rw [List.mem_singleton.mp hx]
    exact ⟨Int.emod_nonneg _ (by omega), Int.emod_lt_of_pos _ hs⟩
theorem ok_l_row (T : Txt K mg) : FnOk P w K mg base CX0 1 T.f_l_row T.d_l_row ["_law_cell_here", "_law_many", "_law_size"] sp_l_row := by
  refine T.F_l_row.ok sc_l_row (fun vs H Q E h => ?_) (fun cdv A outer s H vs Q E hr h => ?_)
  · obtain ⟨c, many, size, rfl, _⟩ := h
    rfl
  · obtain ⟨c, many, size, rfl, hm0, hm1, hs0, hs1, k⟩ := h
    refine ⟨_, (pss_cons (ps_set (i := 3) sc_l_row.nd rfl (by first | exact Or.inl rfl | exact Or.inr rfl) (pe_lst pa_nil))
      (pss_cons (ps_if (pt_cmpR op_ge (pv 0) (pe_op op_pow pe_int pe_int) (nomark _))
      (pss_cons (ps_set (i := 4) sc_l_row.nd rfl (by first | exact Or.inl rfl | exact Or.inr rfl) (pe_op op_sub (pv 0) (pe_op op_pow pe_int pe_int)))
      (pss_cons (ps_for PassesOwn.never rfl (pi_range1 (by rfl) T.m_range (pa_cons (pv 1) pa_nil)) (pg_name (i := 5) sc_l_row.nd rfl (by first | exact Or.inl rfl | exact Or.inr rfl))
      (pss_cons (ps_expr (pe_bm PySem.F.plainAttrs_list PySem.F.slot_list_append PySem.F.type_list_append mt_append (pv 3) (pa_cons (pe_op op_mod (pv 4) (pv 2)) pa_nil)))
      (pss_one (ps_set (i := 4) sc_l_row.nd rfl (by first | exact Or.inl rfl | exact Or.inr rfl) (pe_op op_fdiv (pv 4) (pv 2))))))
      (pss_one (ps_ret (pv 3)))))
      pss_nil)
      (pss_cons (ps_set (i := 6) sc_l_row.nd rfl (by first | exact Or.inl rfl | exact Or.inr rfl) (pe_op op_mod (pv 0) pe_int))
      (pss_cons (ps_for PassesOwn.never rfl (pi_range1 (by rfl) T.m_range (pa_cons (pv 1) pa_nil)) (pg_name (i := 5) sc_l_row.nd rfl (by first | exact Or.inl rfl | exact Or.inr rfl))
      (pss_cons (ps_set (i := 6) sc_l_row.nd rfl (by first | exact Or.inl rfl | exact Or.inr rfl) (pe_op op_mod (pe_op op_add (pe_op op_add (pe_op op_mul (pv 6) pe_int) pe_int) (pv 5)) pe_int))
      (pss_cons (ps_set (i := 7) sc_l_row.nd rfl (by first | exact Or.inl rfl | exact Or.inr rfl) (pe_op op_mod (pe_op op_fdiv (pe_op op_mul (pv 6) (pe_op op_add (pe_op op_mod (pv 6) pe_int) pe_int)) pe_int) pe_int))
      (pss_one (ps_expr (pe_bm PySem.F.plainAttrs_list PySem.F.slot_list_append PySem.F.type_list_append mt_append (pv 3) (pa_cons (pe_op op_mod (pv 7) (pv 2)) pa_nil)))))))
      (pss_one (ps_ret (pv 3))))))), ?_⟩
    refine ⟨Nat.zero_le _, fun p np => ?_⟩
    generalize h_H1 : upd H p _ = H1
    have k_H1 : Kp H H1 := by rw [← h_H1]; exact .new np
    have q_H1 := (congrFun h_H1 p).symm.trans upd_same
    clear h_H1
    refine ⟨_, rfl, _, _, rfl, rfl, ⟨by decide, by decide, by decide⟩, _, _, rfl, rfl, _, rfl, iteD (fun c1 => ?_) (fun c1 => ?_)⟩
    · refine ⟨_, rfl, _, _, rfl, rfl, ⟨by decide, by decide, by decide⟩, _, _, rfl, rfl, ?_⟩
      refine ⟨_, rfl, many, rfl, by omega, by omega, ?_⟩
      refine for_range (lo := 0) (n := many.toNat) (fun i σ H' => ∃ (xs : List Int) (r : Int) (y : Option V), σ = [some (.int c), some (.int many), some (.int size), some (.ref p), some (.int r), y, none, none] ∧ Kp H H' ∧ H' p = some (.lst (xs.map V.int)) ∧ xs.length = i ∧ ∀ x ∈ xs, 0 ≤ x ∧ x < size)
        ⟨[], _, none, rfl, k_H1, q_H1, rfl, by simp⟩ ?_ ?_
      · rintro i σ H' hi ⟨xs, r, y, rfl, kp, hp, hl, hb⟩
        refine ⟨_, rfl, .inl ⟨rfl, _, SqL.of hp⟩, _, rfl, _, rfl, _, _, rfl, rfl, hs0, p, _, _, rfl, rfl, hp, szt (by rw [List.length_map]; omega), ?_⟩
        refine ⟨_, rfl, _, rfl, _, _, rfl, rfl, ⟨hs0, hs1⟩, ?_⟩
        refine ⟨xs ++ [r % size], _, _, rfl, kp.mut np, ?_, by rw [List.length_append, hl]; rfl, snoc_in hs0 hb⟩
        rw [upd_same, List.map_append]
        rfl
      · rintro σ H' ⟨xs, r, y, rfl, kp, hp, hl, hb⟩
        exact ⟨_, rfl, k xs p H' np kp hp ⟨by omega, hb⟩⟩
    · refine ⟨_, rfl, _, _, rfl, rfl, (by show (0 : Int) < 2147483647; decide), ?_⟩
      refine ⟨_, rfl, many, rfl, by omega, by omega, ?_⟩
      refine for_range (lo := 0) (n := many.toNat) (fun i σ H' => ∃ (xs : List Int) (r : Int) (y y2 : Option V), σ = [some (.int c), some (.int many), some (.int size), some (.ref p), none, y, some (.int r), y2] ∧ Kp H H' ∧ H' p = some (.lst (xs.map V.int)) ∧ xs.length = i ∧ ∀ x ∈ xs, 0 ≤ x ∧ x < size)
        ⟨[], _, none, none, rfl, k_H1, q_H1, rfl, by simp⟩ ?_ ?_
      · rintro i σ H' hi ⟨xs, r, y, y2, rfl, kp, hp, hl, hb⟩
        refine ⟨_, rfl, _, _, rfl, rfl, .inr ⟨by decide, by decide⟩, _, _, rfl, rfl, _, rfl, _, _, rfl, rfl, _, _, rfl, rfl, (by show (0 : Int) < 2147483647; decide), ?_⟩
        generalize hr2 : (fun (i j : Int) => V.int (i % j)) _ _ = sv
        obtain ⟨r2, rfl⟩ : ∃ r2 : Int, sv = .int r2 := ⟨_, hr2.symm⟩
        clear hr2
        have b0 : 0 ≤ r2 % 65521 := Int.emod_nonneg _ (by decide)
        have b1 : r2 % 65521 < 65521 := Int.emod_lt_of_pos _ (by decide)
        refine ⟨_, rfl, _, rfl, _, _, rfl, rfl, (by show (0 : Int) < 65521; decide), _, _, rfl, rfl, _, _, rfl, rfl, .inr ⟨by omega, by omega⟩, _, _, rfl, rfl, ⟨by decide, by decide⟩, _, _, rfl, rfl, (by show (0 : Int) < 1000003; decide), ?_⟩
        refine ⟨_, rfl, .inl ⟨rfl, _, SqL.of hp⟩, _, rfl, _, rfl, _, _, rfl, rfl, hs0, p, _, _, rfl, rfl, hp, szt (by rw [List.length_map]; omega), ?_⟩
        refine ⟨xs ++ [r2 * (r2 % 65521 + 3) / 1009 % 1000003 % size], r2, _, _, rfl, kp.mut np, ?_, by rw [List.length_append, hl]; rfl, snoc_in hs0 hb⟩
        rw [upd_same, List.map_append]
        rfl
      · rintro σ H' ⟨xs, r, y, y2, rfl, kp, hp, hl, hb⟩
        exact ⟨_, rfl, k xs p H' np kp hp ⟨by omega, hb⟩⟩
/-! ### data of few levels can be compared -/
theorem lay_all {ds : List PyData} (h : ∀ d ∈ ds, PyData.canLay0 d = true) : PyData.canLayAll0 ds = true := by
  induction ds with
  | nil => simp [PyData.canLayAll0]
  | cons d r ih => simp [PyData.canLayAll0, h d List.mem_cons_self, ih fun x hx => h x (List.mem_cons_of_mem _ hx)]
theorem dep_all {ds : List PyData} {n : Nat} (h : ∀ d ∈ ds, PyData.depth d ≤ n) : PyData.depthAll ds ≤ n := by
  induction ds with
  | nil => simp [PyData.depthAll]
  | cons d r ih =>
    have h1 := h d List.mem_cons_self
    have h2 := ih fun x hx => h x (List.mem_cons_of_mem _ hx)
    simp only [PyData.depthAll]
    omega
/-- the same without texts -/
inductive Dm : Nat → PyData → Prop
  | non (n : Nat) : Dm (n + 1) .none
  | bl (n : Nat) (b : Bool) : Dm (n + 1) (.bool b)
  | int (n : Nat) (i : Int) : Dm (n + 1) (.int i)
  | lst {n : Nat} {ds : List PyData} : (∀ d ∈ ds, Dm n d) → ds.length ≤ 10000 → Dm (n + 1) (.list ds)
  | tup {n : Nat} {ds : List PyData} : (∀ d ∈ ds, Dm n d) → ds.length ≤ 10000 → Dm (n + 1) (.tuple ds)
theorem Dm.dn {n : Nat} {d : PyData} (h : Dm n d) : Dn n d := by
  induction h with
  | non n => exact .non _
  | bl n b => exact .bl _ _
  | int n i => exact .int _ _
  | lst h1 h2 ih => exact .lst ih h2
  | tup h1 h2 ih => exact .tup ih h2
theorem Dm.lay {n : Nat} {d : PyData} (h : Dm n d) : PyData.canLay0 d = true ∧ PyData.depth d ≤ n := by
  induction h with
  | non n => exact ⟨by simp [PyData.canLay0], by simp [PyData.depth]⟩
  | bl n b => exact ⟨by simp [PyData.canLay0], by simp [PyData.depth]⟩
  | int n i => exact ⟨by simp [PyData.canLay0], by simp [PyData.depth]⟩
  | lst h1 h2 ih =>
    refine ⟨by simp only [PyData.canLay0]; exact lay_all fun d hd => (ih d hd).1, ?_⟩
    have := dep_all fun d hd => (ih d hd).2
    simp only [PyData.depth]
    omega
  | tup h1 h2 ih =>
    refine ⟨by simp only [PyData.canLay0]; exact lay_all fun d hd => (ih d hd).1, ?_⟩
    have := dep_all fun d hd => (ih d hd).2
    simp only [PyData.depth]
    omega
theorem Dm.shaped {n : Nat} {d : PyData} (h : Dm n d) (hn : n ≤ 64) : SeqAt.shaped d = true := by
  have ⟨h1, h2⟩ := h.lay
  show (PyData.canLay0 d && decide (PyData.depth d ≤ 64)) = true
  rw [h1, decide_eq_true (by omega)]
  rfl
theorem Dm.same {n : Nat} {d : PyData} (h : Dm n d) (hn : n ≤ 64) : PyData.eqv d d = true := SeqAt.eqv_refl _ (SeqAt.canLay_of_shaped (h.shaped hn))
theorem dm_dI {n : Nat} {ns : List Int} (h : ns.length ≤ 10000) : Dm (n + 2) (dI ns) := .lst (fun d hd => by obtain ⟨z, _, rfl⟩ := List.mem_map.mp hd; exact .int _ _) (by rw [List.length_map]; exact h)
/-! ### words -/
def abcW : Str := "abcdefghijklmnopqrstuvwxyz"
def isW (t : Str) : Bool := decide (1 ≤ (t.length : Int)) && (decide ((t.length : Int) ≤ 12) && t.cps.toList.all fun c => decide (c ∈ abcW.cps.toList))
def sp_p_is_word (P : Addr) : Sp := fun vs H Q _ => ∃ t : Str, vs = [.str t] ∧ t.length ≤ 1000 ∧ GxR.TabG H P ∧ ∀ H', Kp H H' → Q (.bl (isW t)) H'
theorem ok_p_is_word (T : Txt K mg) (TB : GxR.TabB base mg T.c_tab T.P_tab) : FnOk P w K mg base CX0 2 T.f_p_is_word T.d_p_is_word ["text"] (sp_p_is_word T.P_tab) := by
  obtain ⟨tl, hu⟩ := T.r_LETTERS
  have hL : mg "LETTERS" = some (.str abcW tl) := by rw [T.c_LETTERS, hu]; rfl
  refine T.W_p_is_word.ok sc_p_is_word (fun vs H Q E h => ?_) (fun A outer s H vs Q E hr h => ?_)
  · obtain ⟨t, rfl, _⟩ := h
    rfl
  · obtain ⟨t, rfl, hl, hT, k⟩ := h
    refine ⟨_, (pss_one (ps_ret (pe_and (pe_chain op_le op_le pe_int (pe_callB call_len_str (by rfl) T.m_len PySem.boot_len (pa_cons (pv 0) pa_nil)) (pe_glob rfl T.c_LONGEST_WORD T.r_LONGEST_WORD)) (pe_one (pe_allG hr (by rfl) T.m_all (by decide +kernel) TB rfl ⟨rfl, rfl, noCell (by decide +kernel), rfl, rfl, noFree (by decide +kernel)⟩ (pv 0) (elt_inG rfl rfl rfl hL) (fun _ => rfl)))))), ?_⟩
    refine ⟨_, rfl, t, rfl, szl (by omega), _, _, rfl, rfl, _, rfl, ?_⟩
    unfold isW at k
    by_cases c1 : 1 ≤ (t.length : Int)
    · rw [decide_eq_true c1] at k
      refine iteTo (decide_eq_true c1) ⟨_, _, rfl, rfl, _, rfl, ?_⟩
      by_cases c2 : (t.length : Int) ≤ 12
      · rw [decide_eq_true c2] at k
        exact iteTo (decide_eq_true c2) ⟨_, rfl, t, rfl, hT, fun H2 t2 => k _ (kp_tabbed hT t2)⟩
      · rw [decide_eq_false c2] at k
        exact iteFo (decide_eq_false c2) (k _ (.refl _))
    · rw [decide_eq_false c1] at k
      exact iteFo (decide_eq_false c1) ⟨_, rfl, iteF (k _ (.refl _))⟩
def sp_p_check_word (P C : Addr) : Sp := fun vs H Q E => ∃ t : Str, vs = [.str t] ∧ t.length ≤ 1000 ∧ GxR.TabG H P ∧ (isW t = true → ∀ H', Kp H H' → Q .non H') ∧ (isW t = false → ∀ H', Kp H H' → E (.ref C) none H')
theorem ok_p_check_word (T : Txt K mg) (TB : GxR.TabB base mg T.c_tab T.P_tab) : FnOk P w K mg base (L2.CX P w) 4 T.f_p_check_word T.d_p_check_word ["text"] (sp_p_check_word T.P_tab T.a_BadWord) := by
  refine T.F_p_check_word.okX sc_p_check_word (fun vs H Q E h => ?_) (fun cdv A outer s H vs Q E hr h => ?_)
  · obtain ⟨t, rfl, _⟩ := h
    rfl
  · obtain ⟨t, rfl, hl, hT, k, kE⟩ := h
    refine ⟨_, (pss_one (ps_if (pt_not (pt_val (pe_call (ok_p_is_word T TB) (hr.mono (by decide)) rfl T.g_p_is_word T.F_p_is_word.kp T.b_p_is_word .nil pass0 (pa_cons (pv 0) pa_nil))))
      (pss_one (ps_raise rfl (takes_of rfl rfl rfl rfl) (pmk_own PySem.F.excBase_ValueError T.x_BadWord T.g_BadWord T.k_BadWord (raises_own T.b_BadWord T.t_BadWord) rfl)))
      pss_nil)), ?_⟩
    refine ⟨_, rfl, t, rfl, hl, hT, fun H' kp => ⟨_, rfl, iteB (fun c => ?_) (fun c => ?_)⟩⟩
    · exact kE (by simpa using c) H' kp
    · exact k (by simpa using c) H' kp
def let1 (c : Nat) : Int := 41 + ((c - 97 : Nat) : Int)
def letS (w : Str) : List Int := w.cps.toList.map let1
theorem isW_len {t : Str} (h : isW t = true) : 1 ≤ t.length ∧ t.length ≤ 12 := by
  unfold isW at h
  simp only [Bool.and_eq_true, decide_eq_true_eq] at h
  omega
theorem abcW_mem {c : Nat} : c ∈ abcW.cps.toList ↔ 97 ≤ c ∧ c < 123 := by
  have e : abcW.cps.toList = (List.range 26).map (97 + ·) := by decide +kernel
  rw [e]
  constructor
  · intro h
    obtain ⟨j, hj, rfl⟩ := List.mem_map.mp h
    have := List.mem_range.mp hj
    omega
  · intro h
    exact List.mem_map.mpr ⟨c - 97, List.mem_range.mpr (by omega), by omega⟩
theorem isW_signs {t : Str} (h : isW t = true) : ∀ c ∈ t.cps.toList, 97 ≤ c ∧ c < 123 := by
  unfold isW at h
  simp only [Bool.and_eq_true] at h
  intro c hc
  exact abcW_mem.mp (of_decide_eq_true (List.all_eq_true.mp h.2.2 c hc))
/-! ### a phrasebook -/
/-- what is kept but at the places of S -/
structure KpE (S : List Addr) (H H' : Hp) : Prop where
  same : ∀ a o, isT o = false → a ∉ S → H a = some o → H' a = some o
  tab : ∀ a, GxR.TabG H a → GxR.TabG H' a
  free : ∀ a, H' a = none → H a = none
theorem KpE.kp {S : List Addr} {H0 H H' : Hp} (k : Kp H0 H) (e : KpE S H H') (h : ∀ b ∈ S, H0 b = none) : Kp H0 H' :=
  ⟨fun a o t q => e.same a o t (fun m => by rw [h a m] at q; cases q) (k.same a o t q), fun a q => e.tab a (k.tab a q), fun a q => k.free a (e.free a q)⟩
theorem KpE.of {S : List Addr} {H H' : Hp} (k : Kp H H') : KpE S H H' := ⟨fun a o t _ q => k.same a o t q, k.tab, k.free⟩
theorem KpE.trans {S : List Addr} {H H1 H2 : Hp} (a : KpE S H H1) (b : KpE S H1 H2) : KpE S H H2 :=
  ⟨fun x o t m q => b.same x o t m (a.same x o t m q), fun x q => b.tab x (a.tab x q), fun x q => a.free x (b.free x q)⟩
theorem KpE.put {S : List Addr} {H : Hp} {d : Addr} {o u : HO} (hd : H d = some u) (nt : isT u = false) (m : d ∈ S) : KpE S H (upd H d o) := by
  refine ⟨fun a v t n q => ?_, fun a ⟨ps, q, tr⟩ => ⟨ps, ?_, tr⟩, fun a q => ?_⟩
  · rw [upd_ne (fun z => n (by rw [z]; exact m))]
    exact q
  · have ne : a ≠ d := fun z => by
      rw [z, hd] at q
      cases q
      cases nt
    rw [upd_ne ne]
    exact q
  · by_cases z : a = d
    · rw [z, upd_same] at q
      cases q
    · rw [upd_ne z] at q
      exact q
abbrev Ent := (Str × Int × Int) × Addr
def flds (d1 d2 : Addr) : List (Str × V) := putF "place_by_word" (.ref d2) (putF "word_by_place" (.ref d1) [])
theorem flds_place (d1 d2 : Addr) : (flds d1 d2).lookup ("place_by_word" : Str) = some (.ref d2) := by
  unfold flds
  rw [lookup_putF, if_pos rfl]
theorem flds_word (d1 d2 : Addr) : (flds d1 d2).lookup ("word_by_place" : Str) = some (.ref d1) := by
  unfold flds
  rw [lookup_putF, if_neg (by decide +kernel), lookup_putF, if_pos rfl]
theorem flds_no (d1 d2 : Addr) {m : Str} (h1 : ¬ m = "place_by_word") (h2 : ¬ m = "word_by_place") : (flds d1 d2).lookup m = none := by
  unfold flds
  rw [lookup_putF, if_neg h1, lookup_putF, if_neg h2]
  rfl
def kvP (bs : List Ent) : List (List Key × V) := bs.map fun b => ([Sum.inl b.1.2.1, Sum.inl b.1.2.2], V.str b.1.1)
def kvW (bs : List Ent) : List (Key × V) := bs.map fun b => (Sum.inr b.1.1, V.ref b.2)
def atP (bs : List Ent) (p l : Int) : Option Ent := bs.find? fun b => decide (b.1.2.1 = p ∧ b.1.2.2 = l)
def atW (bs : List Ent) (t : Str) : Option Ent := bs.find? fun b => decide (b.1.1 = t)
theorem valP (bs : List Ent) (p l : Int) : valV (kvP bs) [Sum.inl p, Sum.inl l] = (atP bs p l).map fun b => V.str b.1.1 := by
  unfold valV kvP atP
  rw [List.find?_map, Option.map_map]
  have e : ((fun kv : List Key × V => decide (kv.1 = ([Sum.inl p, Sum.inl l] : List Key))) ∘ fun b : Ent => (([Sum.inl b.1.2.1, Sum.inl b.1.2.2] : List Key), V.str b.1.1)) = fun b => decide (b.1.2.1 = p ∧ b.1.2.2 = l) := by
    funext b
    simp
  rw [e]
  rfl
theorem valW (bs : List Ent) (t : Str) : valV (kvW bs) (Sum.inr t) = (atW bs t).map fun b => V.ref b.2 := by
  unfold valV kvW atW
  rw [List.find?_map, Option.map_map]
  have e : ((fun kv : Key × V => decide (kv.1 = (Sum.inr t : Key))) ∘ fun b : Ent => ((Sum.inr b.1.1 : Key), V.ref b.2)) = fun b => decide (b.1.1 = t) := by
    funext b
    simp
  rw [e]
  rfl
structure BookAt (C : Addr) (H : Hp) (p d1 d2 : Addr) (bs : List Ent) : Prop where
  ob : ∃ dx, H p = some (.ins C dx (flds d1 d2))
  pl : H d1 = some (.dT (kvP bs))
  wd : H d2 = some (.dK (kvW bs))
  tu : ∀ b ∈ bs, H b.2 = some (.tup [.int b.1.2.1, .int b.1.2.2])
theorem BookAt.kp {C : Addr} {H H' : Hp} {p d1 d2 : Addr} {bs : List Ent} (b : BookAt C H p d1 d2 bs) (k : Kp H H') : BookAt C H' p d1 d2 bs :=
  ⟨let ⟨dx, h⟩ := b.ob; ⟨dx, k.same _ _ rfl h⟩, k.same _ _ rfl b.pl, k.same _ _ rfl b.wd, fun e he => k.same _ _ rfl (b.tu e he)⟩
theorem BookAt.ne {C : Addr} {H : Hp} {p d1 d2 : Addr} {bs : List Ent} (b : BookAt C H p d1 d2 bs) : p ≠ d1 ∧ p ≠ d2 ∧ d1 ≠ d2 := by
  obtain ⟨dx, h⟩ := b.ob
  exact ⟨ne_of h b.pl (by intro z; cases z), ne_of h b.wd (by intro z; cases z), ne_of b.pl b.wd (by intro z; cases z)⟩
def okP (p l : Int) : Bool := (decide (1 ≤ p) && decide (p ≤ 40)) && (decide (1 ≤ l) && decide (l ≤ 40))
def sp_p_check_place (C : Addr) : Sp := fun vs H Q E => ∃ p l : Int, vs = [.int p, .int l] ∧ (okP p l = true → Q .non H) ∧ (okP p l = false → E (.ref C) none H)
theorem ok_p_check_place (T : Txt K mg) : FnOk P w K mg base (L2.CX P w) 2 T.f_p_check_place T.d_p_check_place ["page", "line"] (sp_p_check_place T.a_BadPlace) := by
  refine T.F_p_check_place.okX sc_p_check_place (fun vs H Q E h => ?_) (fun cdv A outer s H vs Q E hr h => ?_)
  · obtain ⟨p, l, rfl, _⟩ := h
    rfl
  · obtain ⟨p, l, rfl, k, kE⟩ := h
    refine ⟨_, (pss_one (ps_if (pt_not (PW.pt (pw_and (pt_chain op_le op_le pe_int (pv 0) (pe_glob rfl T.c_LAST_PAGE T.r_LAST_PAGE)) (pw_and1 (pt_chain op_le op_le pe_int (pv 1) (pe_glob rfl T.c_LAST_PAGE T.r_LAST_PAGE))))))
      (pss_one (ps_raise rfl (takes_of rfl rfl rfl rfl) (pmk_own PySem.F.excBase_ValueError T.x_BadPlace T.g_BadPlace T.k_BadPlace (raises_own T.b_BadPlace T.t_BadPlace) rfl)))
      pss_nil)), ?_⟩
    unfold okP at k kE
    refine ⟨_, rfl, _, _, rfl, rfl, _, rfl, ?_⟩
    by_cases c1 : 1 ≤ p
    · rw [decide_eq_true c1] at k kE
      refine iteTo (decide_eq_true c1) ⟨_, _, rfl, rfl, _, rfl, ?_⟩
      by_cases c2 : p ≤ 40
      · rw [decide_eq_true c2] at k kE
        refine iteTo (decide_eq_true c2) ⟨_, rfl, _, _, rfl, rfl, _, rfl, ?_⟩
        by_cases c3 : 1 ≤ l
        · rw [decide_eq_true c3] at k kE
          refine iteTo (decide_eq_true c3) ⟨_, _, rfl, rfl, _, rfl, ?_⟩
          by_cases c4 : l ≤ 40
          · rw [decide_eq_true c4] at k
            exact iteFo (by rw [decide_eq_true c4]; rfl) (k rfl)
          · rw [decide_eq_false c4] at kE
            exact iteTo (by rw [decide_eq_false c4]; rfl) (kE rfl)
        · rw [decide_eq_false c3] at kE
          exact iteFo (decide_eq_false c3) ⟨_, rfl, iteT (kE rfl)⟩
      · rw [decide_eq_false c2] at kE
        exact iteFo (decide_eq_false c2) (iteT (kE rfl))
    · rw [decide_eq_false c1] at kE
      exact iteFo (decide_eq_false c1) ⟨_, rfl, iteF (iteT (kE rfl))⟩
/-! ### Phrasebook's methods -/
def sp_p_Phrasebook_init (C : Addr) : Sp := fun vs H Q _ => ∃ (p dx : Addr), vs = [.ref p] ∧ H p = some (.ins C dx []) ∧ ∀ (d1 d2 : Addr) (H' : Hp), H d1 = none → H d2 = none → BookAt C H' p d1 d2 [] → KpE [p] H H' → Q .non H'
theorem ok_p_Phrasebook_init (T : Txt K mg) : FnOk P w K mg base CX0 1 T.f_p_Phrasebook_init T.d_p_Phrasebook_init ["self"] (sp_p_Phrasebook_init T.a_Phrasebook) := by
  refine T.F_p_Phrasebook_init.ok sc_p_Phrasebook_init (fun vs H Q E h => ?_) (fun cdv A outer s H vs Q E hr h => ?_)
  · obtain ⟨p, dx, rfl, _⟩ := h
    rfl
  · obtain ⟨p, dx, rfl, hp, k⟩ := h
    refine ⟨_, (pss_cons (ps_fld (pv 0) pe_dnewT rfl)
      (pss_one (ps_fld (pv 0) pe_dnewK rfl))), ?_⟩
    intro d1 h1
    have n1 : p ≠ d1 := ne_of_none hp h1
    refine ⟨_, rfl, p, _, dx, [], rfl, (by rw [upd_ne n1]; exact hp), T.cl_Phrasebook, T.n_Phrasebook_word_by_place, (by show 0 < 1000; decide), ?_⟩
    intro d2 h2
    have n2 : p ≠ d2 := ne_of_none upd_same h2
    have n12 : d1 ≠ d2 := fun e => by
      rw [← e, upd_ne n1.symm, upd_same] at h2
      cases h2
    refine ⟨_, rfl, p, _, dx, _, rfl, (by rw [upd_ne n2]; exact upd_same), T.cl_Phrasebook, T.n_Phrasebook_place_by_word, (by show 1 < 1000; decide), ?_⟩
    have f2 : H d2 = none := by
      rw [upd_ne n2.symm, upd_ne n12.symm] at h2
      exact h2
    have hp1 : (upd H d1 (.dT [])) p = some (.ins T.a_Phrasebook dx []) := by rw [upd_ne n1]; exact hp
    have e1 : KpE [p] H (upd (upd H d1 (.dT [])) p (.ins T.a_Phrasebook dx (putF "word_by_place" (.ref d1) []))) := (KpE.of (Kp.new h1)).trans (KpE.put hp1 rfl List.mem_cons_self)
    refine k d1 d2 _ h1 f2 ⟨⟨dx, upd_same⟩, ?_, ?_, by simp⟩ (e1.trans ((KpE.of (Kp.new h2)).trans (KpE.put (by rw [upd_ne n2]; exact upd_same) rfl List.mem_cons_self)))
    · rw [upd_ne n1.symm, upd_ne n12, upd_ne n1.symm, upd_same]
      rfl
    · rw [upd_ne n2.symm, upd_same]
      rfl
theorem kp_made {C H H1 x dx} (nx : H x = none) (ndx : H dx = none) (ne : dx ≠ x) (k : KpE [x] (upd (upd H dx (.own x)) x (.ins C dx [])) H1) : Kp H H1 :=
  KpE.kp ((Kp.new ndx).trans (.new (by rw [upd_ne ne.symm]; exact nx))) ⟨k.same, k.tab, k.free⟩ (fun b hb => by rw [List.mem_singleton.mp hb]; exact nx)
def sp_p_Phrasebook_word_at (C B : Addr) : Sp := fun vs H Q E => ∃ (p d1 d2 : Addr) (bs : List Ent) (a l : Int), vs = [.ref p, .int a, .int l] ∧ BookAt C H p d1 d2 bs ∧
  (okP a l = true → ∀ H', Kp H H' → Q (((atP bs a l).map fun b => V.str b.1.1).getD .non) H') ∧ (okP a l = false → E (.ref B) none H)
theorem ok_p_Phrasebook_word_at (T : Txt K mg) : FnOk P w K mg base (L2.CX P w) 3 T.f_p_Phrasebook_word_at T.d_p_Phrasebook_word_at ["self", "page", "line"] (sp_p_Phrasebook_word_at T.a_Phrasebook T.a_BadPlace) := by
  refine T.F_p_Phrasebook_word_at.okX sc_p_Phrasebook_word_at (fun vs H Q E h => ?_) (fun cdv A outer s H vs Q E hr h => ?_)
  · obtain ⟨p, d1, d2, bs, a, l, rfl, _⟩ := h
    rfl
  · obtain ⟨p, d1, d2, bs, a, l, rfl, hB, k, kE⟩ := h
    have hu := hu_of hr
    refine ⟨_, (pss_cons (ps_expr (pe_call (ok_p_check_place T) (hr.mono (by decide)) rfl T.g_p_check_place T.F_p_check_place.kp T.b_p_check_place .nil (passes_call (takes_of rfl rfl rfl rfl) (fun _ _ _ _ z => z)) (pa_cons (pv 1) (pa_cons (pv 2) pa_nil))))
      (pss_one (ps_ret (pe_dget1 hu (pe_fld (pv 0) rfl) (pe_tup (pa_cons (pv 1) (pa_cons (pv 2) pa_nil))) ⟨rfl, rfl, rfl, rfl⟩)))), ?_⟩
    refine ⟨_, rfl, _, rfl, a, l, rfl, fun c => ?_, fun c => kE c⟩
    obtain ⟨dx, hp⟩ := hB.ob
    refine ⟨_, rfl, p, _, dx, _, _, rfl, hp, T.cl_Phrasebook, T.n_Phrasebook_word_by_place, flds_word _ _, d1, rfl, .inr ⟨_, .inl hB.pl⟩, _, rfl, _, rfl, szl (by show 2 ≤ 100000; decide), fun t nt => ?_⟩
    generalize h_H1 : upd H t _ = H1
    have k_H1 : Kp H H1 := by rw [← h_H1]; exact .new nt
    have q_H1 := (congrFun h_H1 t).symm.trans upd_same
    clear h_H1
    have B1 := hB.kp k_H1
    have z := k c _ k_H1
    rw [← valP] at z
    exact ⟨_, DGet.t (k := [Sum.inl a, Sum.inl l]) B1.pl q_H1, z⟩
/-- why a word is not entered: the place, the word, the place has one, the word has one -/
inductive Why where
  | place | word | taken | known
def enterV (bs : List Ent) (a l : Int) (t : Str) : Option Why :=
  if okP a l = false then some .place else if isW t = false then some .word else if (atP bs a l).isSome then some .taken else if (atW bs t).isSome then some .known else none
def sp_p_Phrasebook_enter (T : Txt K mg) : Sp := fun vs H Q E => ∃ (p d1 d2 : Addr) (bs : List Ent) (a l : Int) (t : Str), vs = [.ref p, .int a, .int l, .str t] ∧ BookAt T.a_Phrasebook H p d1 d2 bs ∧ bs.length ≤ 1000 ∧ t.length ≤ 1000 ∧ GxR.TabG H T.P_tab ∧
  (enterV bs a l t = none → ∀ (u : Addr) (H' : Hp), KpE [d1, d2] H H' → BookAt T.a_Phrasebook H' p d1 d2 (bs ++ [((t, a, l), u)]) → Q .non H') ∧
  (∀ y, enterV bs a l t = some y → ∀ H', Kp H H' → E (.ref (match y with | .place => T.a_BadPlace | .word => T.a_BadWord | .taken => T.a_Taken | .known => T.a_Known)) none H')
theorem ok_p_Phrasebook_enter (T : Txt K mg) (TB : GxR.TabB base mg T.c_tab T.P_tab) : FnOk P w K mg base (L2.CX P w) 5 T.f_p_Phrasebook_enter T.d_p_Phrasebook_enter ["self", "page", "line", "word"] (sp_p_Phrasebook_enter T) := by
  refine T.F_p_Phrasebook_enter.okX sc_p_Phrasebook_enter (fun vs H Q E h => ?_) (fun cdv A outer s H vs Q E hr h => ?_)
  · obtain ⟨p, d1, d2, bs, a, l, t, rfl, _⟩ := h
    rfl
  · obtain ⟨p, d1, d2, bs, a, l, t, rfl, hB, hbl, hl, hT, k, kE⟩ := h
    have hu := hu_of hr
    refine ⟨_, (pss_cons (ps_expr (pe_call (ok_p_check_place T) (hr.mono (by decide)) rfl T.g_p_check_place T.F_p_check_place.kp T.b_p_check_place .nil (passes_call (takes_of rfl rfl rfl rfl) (fun _ _ _ _ z => z)) (pa_cons (pv 1) (pa_cons (pv 2) pa_nil))))
      (pss_cons (ps_expr (pe_call (ok_p_check_word T TB) (hr.mono (by decide)) rfl T.g_p_check_word T.F_p_check_word.kp T.b_p_check_word .nil (passes_call (takes_of rfl rfl rfl rfl) (fun _ _ _ _ z => z)) (pa_cons (pv 3) pa_nil)))
      (pss_cons (ps_if (pt_cmp (pc_din hu (pe_tup (pa_cons (pv 1) (pa_cons (pv 2) pa_nil))) (pe_fld (pv 0) rfl)))
      (pss_one (ps_raise rfl (takes_of rfl rfl rfl rfl) (pmk_own PySem.F.excBase_ValueError T.x_Taken T.g_Taken T.k_Taken (raises_own T.b_Taken T.t_Taken) rfl)))
      pss_nil)
      (pss_cons (ps_if (pt_cmp (pc_din hu (pv 3) (pe_fld (pv 0) rfl)))
      (pss_one (ps_raise rfl (takes_of rfl rfl rfl rfl) (pmk_own PySem.F.excBase_ValueError T.x_Known T.g_Known T.k_Known (raises_own T.b_Known T.t_Known) rfl)))
      pss_nil)
      (pss_cons (ps_dput hu (pe_fld (pv 0) rfl) (pe_tup (pa_cons (pv 1) (pa_cons (pv 2) pa_nil))) (pv 3) rfl)
      (pss_one (ps_dput hu (pe_fld (pv 0) rfl) (pv 3) (pe_tup (pa_cons (pv 1) (pa_cons (pv 2) pa_nil))) rfl))))))), ?_⟩
    refine ⟨_, rfl, _, rfl, a, l, rfl, fun c1 => ?_, fun c1 => kE .place (by unfold enterV; rw [if_pos c1]) H (.refl _)⟩
    have v1 : enterV bs a l t = if isW t = false then some .word else if (atP bs a l).isSome then some .taken else if (atW bs t).isSome then some .known else none := by
      unfold enterV
      rw [if_neg (by rw [c1]; decide)]
    refine ⟨_, rfl, t, rfl, hl, hT, fun c2 H1 k1 => ?_, fun c2 H1 k1 => kE .word (by rw [v1, if_pos c2]) H1 k1⟩
    rw [if_neg (by rw [c2]; decide)] at v1
    have B1 := hB.kp k1
    obtain ⟨dx, hp⟩ := B1.ob
    refine ⟨_, rfl, _, rfl, szl (by show 2 ≤ 100000; decide), fun u nu => ?_⟩
    generalize h_H2 : upd H1 u _ = H2
    have k_H2 : Kp H1 H2 := by rw [← h_H2]; exact .new nu
    have q_H2 := (congrFun h_H2 u).symm.trans upd_same
    clear h_H2
    have B2 := B1.kp k_H2
    have hp2 := k_H2.same _ _ rfl hp
    refine ⟨_, rfl, p, _, dx, _, _, rfl, hp2, T.cl_Phrasebook, T.n_Phrasebook_word_by_place, flds_word _ _, d1, _, rfl, DGet.t (k := [Sum.inl a, Sum.inl l]) B2.pl q_H2, _, rfl, ?_⟩
    cases e1 : atP bs a l with
    | some b =>
      refine iteTo (by rw [valP, e1]; rfl) ?_
      exact kE .taken (by rw [v1, e1]; rfl) H2 (k1.trans k_H2)
    | none =>
      refine iteFo (by rw [valP, e1]; rfl) ?_
      rw [e1] at v1
      refine ⟨_, rfl, _, rfl, p, _, dx, _, _, rfl, hp2, T.cl_Phrasebook, T.n_Phrasebook_place_by_word, flds_place _ _, d2, _, rfl, DGet.k (k := Sum.inr t) B2.wd, _, rfl, ?_⟩
      cases e2 : atW bs t with
      | some b =>
        refine iteTo (by rw [valW, e2]; rfl) ?_
        exact kE .known (by rw [v1, e2]; rfl) H2 (k1.trans k_H2)
      | none =>
        refine iteFo (by rw [valW, e2]; rfl) ?_
        rw [e2] at v1
        obtain ⟨np1, np2, n12⟩ := B2.ne
        have hbl1 : (kvP bs).length < sizeLine := szt (by unfold kvP; rw [List.length_map]; omega)
        have hbl2 : (kvW bs).length < sizeLine := szt (by unfold kvW; rw [List.length_map]; omega)
        refine ⟨_, rfl, _, rfl, p, _, dx, _, _, rfl, hp2, T.cl_Phrasebook, T.n_Phrasebook_word_by_place, flds_word _ _, _, rfl, _, rfl, szl (by show 2 ≤ 100000; decide), fun u3 nu3 => ?_⟩
        generalize h_H3 : upd H2 u3 _ = H3
        have k_H3 : Kp H2 H3 := by rw [← h_H3]; exact .new nu3
        have q_H3 := (congrFun h_H3 u3).symm.trans upd_same
        clear h_H3
        have B3 := B2.kp k_H3
        have hp3 := k_H3.same _ _ rfl hp2
        refine ⟨d1, _, rfl, DPut.t (k := [Sum.inl a, Sum.inl l]) B3.pl q_H3 hbl1, ?_⟩
        have eP : putK (kvP bs) [Sum.inl a, Sum.inl l] (V.str t) = kvP (bs ++ [((t, a, l), 0)]) := by
          rw [putK_new _ (by rw [valP, e1]; rfl)]
          unfold kvP
          rw [List.map_append]
          rfl
        rw [eP]
        have m1 : KpE [d1, d2] H3 (upd H3 d1 (.dT (kvP (bs ++ [((t, a, l), 0)])))) := KpE.put B3.pl rfl List.mem_cons_self
        refine ⟨_, rfl, _, rfl, szl (by show 2 ≤ 100000; decide), fun u4 nu4 => ?_⟩
        have n41 : d1 ≠ u4 := ne_of_none upd_same nu4
        have n42 : d2 ≠ u4 := ne_of_none (by rw [upd_ne n12.symm]; exact B3.wd) nu4
        have n4p : p ≠ u4 := ne_of_none (by rw [upd_ne np1]; exact hp3) nu4
        have w4 : (upd (upd H3 d1 (.dT (kvP (bs ++ [((t, a, l), 0)])))) u4 (.tup [V.int a, V.int l])) d2 = some (.dK (kvW bs)) := by
          rw [upd_ne n42, upd_ne n12.symm]
          exact B3.wd
        refine ⟨_, rfl, p, _, dx, _, _, rfl, (by rw [upd_ne n4p, upd_ne np1]; exact hp3), T.cl_Phrasebook, T.n_Phrasebook_place_by_word, flds_place _ _, _, rfl, d2, _, rfl, DPut.k (k := Sum.inr t) w4 hbl2, ?_⟩
        have eW : putK (kvW bs) (Sum.inr t) (V.ref u4) = kvW (bs ++ [((t, a, l), u4)]) := by
          rw [putK_new _ (by rw [valW, e2]; rfl)]
          unfold kvW
          rw [List.map_append]
          rfl
        rw [eW]
        have eP2 : kvP (bs ++ [((t, a, l), 0)]) = kvP (bs ++ [((t, a, l), u4)]) := by
          unfold kvP
          rw [List.map_append, List.map_append]
          rfl
        refine k (by rw [v1]; rfl) u4 _ (((KpE.of ((k1.trans k_H2).trans k_H3)).trans m1).trans ((KpE.of (Kp.new nu4)).trans (KpE.put w4 rfl (List.mem_cons_of_mem _ List.mem_cons_self)))) ⟨⟨dx, ?_⟩, ?_, upd_same, fun e he => ?_⟩
        · rw [upd_ne np2, upd_ne n4p, upd_ne np1]
          exact hp3
        · rw [upd_ne n12, upd_ne n41, upd_same, eP2]
        · rcases List.mem_append.mp he with he | he
          · have q := B3.tu e he
            have x1 : e.2 ≠ d1 := ne_of q B3.pl (by intro z; cases z)
            have x2 : e.2 ≠ d2 := ne_of q B3.wd (by intro z; cases z)
            have x4 : e.2 ≠ u4 := ne_of_none (by rw [upd_ne x1]; exact q) nu4
            rw [upd_ne x2, upd_ne x4, upd_ne x1]
            exact q
          · rw [List.mem_singleton.mp he]
            rw [upd_ne n42.symm, upd_same]
theorem Kp.unlock {H H' : Hp} {d : Addr} {u : HO} {od : Obj} (hd : H d = some u) (nt : isT u = false) (k : Kp (upd H d (.frz od u)) H') : Kp H (upd H' d u) := by
  refine ⟨fun a o t q => ?_, fun a ⟨ps, q, tr⟩ => ?_, fun a q => ?_⟩
  · by_cases e : a = d
    · rw [e] at q ⊢
      rw [hd] at q
      rw [upd_same, Option.some.inj q]
    · rw [upd_ne e]
      exact k.same a o t (by rw [upd_ne e]; exact q)
  · have e : a ≠ d := fun z => by
      rw [z, hd] at q
      rw [Option.some.inj q] at nt
      cases nt
    obtain ⟨ps', h1, h2⟩ := k.tab a ⟨ps, by rw [upd_ne e]; exact q, tr⟩
    exact ⟨ps', by rw [upd_ne e]; exact h1, h2⟩
  · by_cases e : a = d
    · rw [e, upd_same] at q
      cases q
    · rw [upd_ne e] at q
      have z := k.free a q
      rw [upd_ne e] at z
      exact z
/-! ### Phrasebook.place_of -/
def sp_p_Phrasebook_place_of (P C B : Addr) : Sp := fun vs H Q E => ∃ (p d1 d2 : Addr) (bs : List Ent) (t : Str), vs = [.ref p, .str t] ∧ BookAt C H p d1 d2 bs ∧ t.length ≤ 1000 ∧ GxR.TabG H P ∧
  (isW t = true → ∀ H', Kp H H' → Q (((atW bs t).map fun b => V.ref b.2).getD .non) H') ∧ (isW t = false → ∀ H', Kp H H' → E (.ref B) none H')
theorem ok_p_Phrasebook_place_of (T : Txt K mg) (TB : GxR.TabB base mg T.c_tab T.P_tab) : FnOk P w K mg base (L2.CX P w) 5 T.f_p_Phrasebook_place_of T.d_p_Phrasebook_place_of ["self", "word"] (sp_p_Phrasebook_place_of T.P_tab T.a_Phrasebook T.a_BadWord) := by
  refine T.F_p_Phrasebook_place_of.okX sc_p_Phrasebook_place_of (fun vs H Q E h => ?_) (fun cdv A outer s H vs Q E hr h => ?_)
  · obtain ⟨p, d1, d2, bs, t, rfl, _⟩ := h
    rfl
  · obtain ⟨p, d1, d2, bs, t, rfl, hB, hl, hT, k, kE⟩ := h
    have hu := hu_of hr
    refine ⟨_, (pss_cons (ps_expr (pe_call (ok_p_check_word T TB) (hr.mono (by decide)) rfl T.g_p_check_word T.F_p_check_word.kp T.b_p_check_word .nil (passes_call (takes_of rfl rfl rfl rfl) (fun _ _ _ _ z => z)) (pa_cons (pv 1) pa_nil)))
      (pss_one (ps_ret (pe_dget1 hu (pe_fld (pv 0) rfl) (pv 1) ⟨rfl, rfl, rfl, rfl⟩)))), ?_⟩
    refine ⟨_, rfl, t, rfl, hl, hT, fun c H1 k1 => ?_, fun c H1 k1 => kE c H1 k1⟩
    have B1 := hB.kp k1
    obtain ⟨dx, hp⟩ := B1.ob
    have z := k c H1 k1
    rw [← valW] at z
    exact ⟨_, rfl, p, _, dx, _, _, rfl, hp, T.cl_Phrasebook, T.n_Phrasebook_place_by_word, flds_place _ _, d2, rfl, .inl ⟨_, .inl B1.wd⟩, _, rfl, _, DGet.k (k := Sum.inr t) B1.wd, z⟩
/-! ### Phrasebook.strike -/
def sp_p_Phrasebook_strike (T : Txt K mg) : Sp := fun vs H Q E => ∃ (p d1 d2 : Addr) (bs : List Ent) (a l : Int), vs = [.ref p, .int a, .int l] ∧ BookAt T.a_Phrasebook H p d1 d2 bs ∧
  (okP a l = false → ∀ H', Kp H H' → E (.ref T.a_BadPlace) none H') ∧ (okP a l = true → atP bs a l = none → ∀ H', Kp H H' → E (.ref T.a_NoWord) none H') ∧
  (okP a l = true → ∀ b, atP bs a l = some b → ∃ bs2 : List Ent, dropK (kvP bs) [Sum.inl a, Sum.inl l] = kvP bs2 ∧ dropK (kvW bs) (Sum.inr b.1.1) = kvW bs2 ∧ (∀ e ∈ bs2, e ∈ bs) ∧
    ∀ H', KpE [d1, d2] H H' → BookAt T.a_Phrasebook H' p d1 d2 bs2 → Q .non H')
theorem ok_p_Phrasebook_strike (T : Txt K mg) : FnOk P w K mg base (L2.CX P w) 4 T.f_p_Phrasebook_strike T.d_p_Phrasebook_strike ["self", "page", "line"] (sp_p_Phrasebook_strike T) := by
  refine T.F_p_Phrasebook_strike.okX sc_p_Phrasebook_strike (fun vs H Q E h => ?_) (fun cdv A outer s H vs Q E hr h => ?_)
  · obtain ⟨p, d1, d2, bs, a, l, rfl, _⟩ := h
    rfl
  · obtain ⟨p, d1, d2, bs, a, l, rfl, hB, kP, kN, k⟩ := h
    have hu := hu_of hr
    refine ⟨_, (pss_cons (ps_set (i := 3) sc_p_Phrasebook_strike.nd rfl (by first | exact Or.inl rfl | exact Or.inr rfl) (pe_meth (pv 0) T.cl_Phrasebook T.M_p_Phrasebook_word_at (ok_p_Phrasebook_word_at T) (hr.mono (by decide)) T.b_p_Phrasebook_word_at .nil (passes_call (takes_of rfl rfl rfl rfl) (fun _ _ _ _ z => z)) (pa_cons (pv 1) (pa_cons (pv 2) pa_nil))))
      (pss_cons (ps_if (pt_cmpR op_isN (pv 3) pe_non (nomark _))
      (pss_one (ps_raise rfl (takes_of rfl rfl rfl rfl) (pmk_own PySem.F.excBase_ValueError T.x_NoWord T.g_NoWord T.k_NoWord (raises_own T.b_NoWord T.t_NoWord) rfl)))
      pss_nil)
      (pss_cons (ps_ddelT hu (pe_fld (pv 0) rfl) (pe_tup (pa_cons (pv 1) (pa_cons (pv 2) pa_nil))))
      (pss_one (ps_ddel (pe_fld (pv 0) rfl) (pv 3)))))), ?_⟩
    obtain ⟨dx, hp⟩ := hB.ob
    refine ⟨_, rfl, p, dx, _, rfl, hp, flds_no _ _ (by decide +kernel) (by decide +kernel), _, rfl, _, rfl, p, d1, d2, bs, a, l, rfl, hB, fun c H1 k1 => ?_, fun c => kP c H (.refl _)⟩
    cases e : atP bs a l with
    | none =>
      refine ⟨_, rfl, rfl, _, rfl, iteTo dec_self ?_⟩
      exact kN c e H1 k1
    | some b =>
      refine ⟨_, rfl, rfl, _, rfl, iteFo rfl ?_⟩
      obtain ⟨bs2, e1, e2, sub, k⟩ := k c b e
      have B1 := hB.kp k1
      obtain ⟨np1, np2, n12⟩ := B1.ne
      have hp1 := k1.same _ _ rfl hp
      refine ⟨_, rfl, p, _, dx, _, _, rfl, hp1, T.cl_Phrasebook, T.n_Phrasebook_word_by_place, flds_word _ _, _, rfl, _, rfl, szl (by show 2 ≤ 100000; decide), fun t nt => ?_⟩
      generalize h_H2 : upd H1 t _ = H2
      have k_H2 : Kp H1 H2 := by rw [← h_H2]; exact .new nt
      have q_H2 := (congrFun h_H2 t).symm.trans upd_same
      clear h_H2
      have B2 := B1.kp k_H2
      have hp2 := k_H2.same _ _ rfl hp1
      refine ⟨d1, t, _, [Sum.inl a, Sum.inl l], rfl, rfl, B2.pl, q_H2, by rw [valP, e]; rfl, ?_⟩
      rw [e1]
      have m1 : KpE [d1, d2] H2 (upd H2 d1 (.dT (kvP bs2))) := KpE.put B2.pl rfl List.mem_cons_self
      have w2 : (upd H2 d1 (.dT (kvP bs2))) d2 = some (.dK (kvW bs)) := by rw [upd_ne n12.symm]; exact B2.wd
      have hbb : (atW bs b.1.1).isSome = true := by
        unfold atW
        rw [List.find?_isSome]
        exact ⟨b, List.mem_of_find?_eq_some e, by simp⟩
      refine ⟨_, rfl, p, _, dx, _, _, rfl, (by rw [upd_ne np1]; exact hp2), T.cl_Phrasebook, T.n_Phrasebook_place_by_word, flds_place _ _, _, rfl, d2, _, Sum.inr b.1.1, rfl, w2, rfl, by rw [valW, Option.isSome_map]; exact hbb, ?_⟩
      rw [e2]
      refine k _ (((KpE.of (k1.trans k_H2)).trans m1).trans (KpE.put w2 rfl (List.mem_cons_of_mem _ List.mem_cons_self))) ⟨⟨dx, ?_⟩, ?_, upd_same, fun x hx => ?_⟩
      · rw [upd_ne np2, upd_ne np1]
        exact hp2
      · rw [upd_ne n12, upd_same]
      · have q := B2.tu x (sub x hx)
        have x1 : x.2 ≠ d1 := ne_of q B2.pl (by intro z; cases z)
        have x2 : x.2 ≠ d2 := ne_of q B2.wd (by intro z; cases z)
        rw [upd_ne x2, upd_ne x1]
        exact q
/-! ### Phrasebook.words: a sorted list of rows -/
def dTrip (b : Ent) : PyData := .tuple [.int b.1.2.1, .int b.1.2.2, .str b.1.1]
def wordsD (bs : List Ent) : List PyData := sortD (bs.map dTrip)
theorem kvP_at {bs : List Ent} {i : Nat} {k : List Key} {v : V} (h : (kvP bs)[i]? = some (k, v)) : ∃ e, bs[i]? = some e ∧ k = [Sum.inl e.1.2.1, Sum.inl e.1.2.2] ∧ v = V.str e.1.1 := by
  unfold kvP at h
  rw [List.getElem?_map] at h
  cases e : bs[i]? with
  | none =>
    rw [e] at h
    cases h
  | some b =>
    rw [e] at h
    have z := Option.some.inj h
    rw [Prod.mk.injEq] at z
    exact ⟨b, rfl, z.1.symm, z.2.symm⟩
theorem nl_trips {bs : List Ent} {b : Ent} : ∀ d ∈ bs.map dTrip ++ [b].map dTrip, Nl d := by
  intro d hd
  rw [← List.map_append] at hd
  obtain ⟨e, _, rfl⟩ := List.mem_map.mp hd
  exact .tup (by intro d hd; simp only [List.mem_cons, List.not_mem_nil, or_false] at hd; rcases hd with rfl | rfl | rfl <;> first | exact .str _ | exact .int _)
mutual
theorem Dp.putD {K : PySem.W.Frag} {H : Hp} {p : Addr} {o : HO} {od : Obj} {kvs : List (List Key × V)} (hp : H p = some (.frz od (.dT kvs))) : ∀ {d : PyData} {v : V}, Dp K H v d → Dp K (upd H p o) v d
  | _, _, .non => .non
  | _, _, .bl b => .bl b
  | _, _, .int i => .int i
  | _, _, .str x => .str x
  | _, _, .lst h a => by
    refine .lst ?_ (DpAll.putD hp a)
    rcases h with (h | ⟨ob, h⟩) | h
    · exact .inl (.inl (by rw [upd_ne (ne_of h hp (by intro z; cases z))]; exact h))
    · exact .inl (.inr ⟨ob, by rw [upd_ne (ne_of h hp (by intro z; cases z))]; exact h⟩)
    · exact .inr h
  | _, _, .tup h a => by
    refine .tup ?_ (DpAll.putD hp a)
    rcases h with (h | ⟨ob, h⟩) | h
    · exact .inl (.inl (by rw [upd_ne (ne_of h hp (by intro z; cases z))]; exact h))
    · exact .inl (.inr ⟨ob, by rw [upd_ne (ne_of h hp (by intro z; cases z))]; exact h⟩)
    · exact .inr h
theorem DpAll.putD {K : PySem.W.Frag} {H : Hp} {p : Addr} {o : HO} {od : Obj} {kvs : List (List Key × V)} (hp : H p = some (.frz od (.dT kvs))) : ∀ {ds : List PyData} {vs : List V}, DpAll K H vs ds → DpAll K (upd H p o) vs ds
  | _, _, .nil => .nil
  | _, _, .cons h t => .cons (Dp.putD hp h) (DpAll.putD hp t)
end
def sp_p_Phrasebook_words (K : PySem.W.Frag) (C : Addr) : Sp := fun vs H Q _ => ∃ (p d1 d2 : Addr) (bs : List Ent), vs = [.ref p] ∧ BookAt C H p d1 d2 bs ∧ bs.length ≤ 1000 ∧
  ∀ (r : Addr) (ys : List V) (H' : Hp), H r = none → Kp H H' → H' r = some (.lst ys) → DpAll K H' ys (wordsD bs) → Q (.ref r) H'
theorem ok_p_Phrasebook_words (T : Txt K mg) : FnOk P w K mg base CX0 2 T.f_p_Phrasebook_words T.d_p_Phrasebook_words ["self"] (sp_p_Phrasebook_words K T.a_Phrasebook) := by
  refine T.F_p_Phrasebook_words.ok sc_p_Phrasebook_words (fun vs H Q E h => ?_) (fun cdv A outer s H vs Q E hr h => ?_)
  · obtain ⟨p, d1, d2, bs, rfl, _⟩ := h
    rfl
  · obtain ⟨p, d1, d2, bs, rfl, hB, hbl, k⟩ := h
    have hu := hu_of hr
    refine ⟨_, (pss_one (ps_ret (pe_callB (cr_sortedD (hu65 hr)) (by rfl) T.m_sorted PyProof.Rows.boot_sorted (pa_cons (pe_lock (pe_lc (own := [("word", 1), ("page", 2), ("line", 3)]) (tt := tYes) (by rfl) sc_p_Phrasebook_words.nd (pi_pairs (pe_fld (pv 0) rfl)) (blkOk_by (own := [("word", 1), ("page", 2), ("line", 3)]) (N := ["self", "word", "page", "line"]) (sc := defScope s_p_Phrasebook_words) (by decide +kernel)) (fun _ _ _ _ _ => (pgK K rfl (pg_tup (n := 2) rfl (pgs_cons (pgK K rfl (pg_tup (n := 2) rfl (pgs_cons (pg_name (i := 2) sc_p_Phrasebook_words.nd rfl (by first | exact Or.inl rfl | exact Or.inr rfl)) (pgs_cons (pg_name (i := 3) sc_p_Phrasebook_words.nd rfl (by first | exact Or.inl rfl | exact Or.inr rfl)) pgs_nil)))) (pgs_cons (pg_name (i := 1) sc_p_Phrasebook_words.nd rfl (by first | exact Or.inl rfl | exact Or.inr rfl)) pgs_nil))))) (fun _ _ _ _ _ => pts_nil) (fun _ _ _ _ _ => (pe_tup (pa_cons (pv 2) (pa_cons (pv 3) (pa_cons (pv 1) pa_nil))))))) pa_nil)))), ?_⟩
    obtain ⟨dx, hp⟩ := hB.ob
    obtain ⟨np1, np2, n12⟩ := hB.ne
    refine ⟨d1, _, hB.pl, trivial, fun od => ?_⟩
    refine ⟨_, rfl, p, _, dx, _, _, rfl, (by rw [upd_ne np1]; exact hp), T.cl_Phrasebook, T.n_Phrasebook_word_by_place, flds_word _ _, d1, od, kvP bs, rfl, upd_same, fun D hD => ?_⟩
    refine lc_it (walk_pairs (d := d1) (o := od) (kvs := kvP bs)) (fun i H' => Kp (upd H d1 (.frz od (.dT (kvP bs)))) H' ∧ ∃ rs : List V, H' D = some (.lst rs) ∧ DpAll K H' rs ((bs.take i).map dTrip)) ⟨Kp.new hD, [], upd_same, .nil⟩ (fun i H' _ ⟨kk, _⟩ => kk.same _ _ rfl upd_same) (fun i x H7 H8 hi ⟨kk, rs, hrs, hd⟩ ⟨t, q, ky, v, hkv, hx, nt, hq, e8⟩ => ?_) (fun H7 ⟨kk, rs, hrs, hd⟩ => ?_)
    · subst e8
      subst hx
      obtain ⟨b, hb, rfl, rfl⟩ := kvP_at hkv
      generalize h_H9 : upd H7 t _ = H9
      have k_H9 : Kp H7 H9 := by rw [← h_H9]; exact .new nt
      have q_H9 := (congrFun h_H9 t).symm.trans upd_same
      clear h_H9
      have hq9 : H9 q = some (.tup [.int b.1.2.1, .int b.1.2.2]) := k_H9.same _ _ rfl hq
      have hil : i < bs.length := (List.getElem?_eq_some_iff.mp hb).1
      refine ⟨t, _, rfl, .inl (.inl q_H9), rfl, _, _, rfl, q, _, rfl, .inl (.inl hq9), rfl, _, _, rfl, _, _, rfl, rfl, _, _, rfl, rfl, rfl, ?_⟩
      refine ⟨_, rfl, _, rfl, _, rfl, szl (by show 3 ≤ 100000; decide), fun u nu => ?_⟩
      generalize h_Ha : upd H9 u _ = Ha
      have k_Ha : Kp H9 Ha := by rw [← h_Ha]; exact .new nu
      have q_Ha := (congrFun h_Ha u).symm.trans upd_same
      clear h_Ha
      have hra := k_Ha.same _ _ rfl (k_H9.same _ _ rfl hrs)
      have hl := DpAll.len hd
      rw [List.length_map, List.length_take] at hl
      refine ⟨rs, hra, szt (by omega), ((kk.trans k_H9).trans k_Ha).mut hD, _, upd_same, ?_⟩
      rw [take_snoc hb, List.map_append]
      refine DpAll.mut hra nl_trips (DpAll.snoc (k_Ha.dpAll (k_H9.dpAll hd)) (.tup (.inl (.inl q_Ha)) (.cons (.int _) (.cons (.int _) (.cons (.str _) .nil)))))
    · have ekl : (kvP bs).length = bs.length := by unfold kvP; rw [List.length_map]
      rw [ekl, List.take_length] at hd
      have hf := kk.same _ _ rfl (upd_same (H := H) (a := d1) (o := .frz od (.dT (kvP bs))))
      refine ⟨hf, ?_⟩
      have ku := Kp.unlock hB.pl rfl kk
      have nD : D ≠ d1 := fun z => by
        rw [z, upd_same] at hD
        cases hD
      have hDD : H D = none := by
        rw [upd_ne nD] at hD
        exact hD
      have h9 : upd H7 d1 (.dT (kvP bs)) D = some (.lst rs) := by
        rw [upd_ne nD]
        exact hrs
      have hd9 := DpAll.putD (o := .dT (kvP bs)) hf hd
      generalize upd H7 d1 (.dT (kvP bs)) = H9 at ku h9 hd9 ⊢
      refine ⟨D, rs, bs.map dTrip, rfl, .inl (.inl h9), hd9, PySem.W.AllAlike.of fun _ _ => rfl, PySem.W.Sortable.tuples fun _ => ⟨_, _, rfl⟩, ?_, fun ys r hy nr => k r ys _ (ku.free _ nr) (ku.trans (.new nr)) upd_same ((Kp.new nr).dpAll hy)⟩
      intro d hd
      obtain ⟨b, _, rfl⟩ := List.mem_map.mp hd
      show 1 ≤ 60
      decide
/-! ### letter_of and sign_of -/
def abc : Str := "abcdefghijklmnopqrstuvwxyz"
theorem abc_len : abc.length = 26 := by decide +kernel
theorem abc_at {j : Nat} (h : j < 26) : atI abc.cps.toList (j : Int) = some (97 + j) := by
  have e : abc.cps.toList = (List.range 26).map (97 + ·) := by decide +kernel
  rw [e]
  exact atI_nat (by rw [List.getElem?_map, List.getElem?_range h]; rfl)
theorem abc_ix : ∀ j, j < 26 → ∃ rest, Builtin.Str.occurrences abc ⟨#[97 + j]⟩ 0 abc.length 1 = j :: rest := by
  have h : ∀ j : Fin 26, (Builtin.Str.occurrences abc ⟨#[97 + j.val]⟩ 0 abc.length 1) = [j.val] := by decide +kernel
  exact fun j hj => ⟨[], h ⟨j, hj⟩⟩
/-! ### sign_of -/
def sp_p_sign_of : Sp := fun vs H Q _ => ∃ j : Nat, vs = [.str ⟨#[97 + j]⟩] ∧ j < 26 ∧ Q (.int (41 + (j : Int))) H
theorem ok_p_sign_of (T : Txt K mg) : FnOk P w K mg base CX0 1 T.f_p_sign_of T.d_p_sign_of ["letter"] sp_p_sign_of := by
  refine T.F_p_sign_of.ok sc_p_sign_of (fun vs H Q E h => ?_) (fun cdv A outer s H vs Q E hr h => ?_)
  · obtain ⟨j, rfl, _⟩ := h
    rfl
  · obtain ⟨j, rfl, hj, k⟩ := h
    obtain ⟨rest, e⟩ := abc_ix j hj
    refine ⟨_, (pss_one (ps_ret (pe_op op_add (pe_glob rfl T.c_FIRST_LETTER T.r_FIRST_LETTER) (pe_bm PySem.F.plainAttrs_str PySem.F.slot_str_index PySem.F.type_str_index mt_sindex (pe_glob rfl T.c_LETTERS T.r_LETTERS) (pa_cons (pv 0) pa_nil))))), ?_⟩
    exact ⟨rfl, _, rfl, abc, _, j, rest, rfl, rfl, e, _, _, rfl, rfl, k⟩
/-! ### the signs of words, by a map -/
def signs1 (bs : List Ent) (w : Str) : List Int := match atW bs w with
  | some b => [b.1.2.1, b.1.2.2]
  | none => letS w ++ [67]
def signsV (bs : List Ent) (ws : List Str) : List Int := ws.flatMap (signs1 bs)
theorem signs1_len {bs : List Ent} {t : Str} (h : isW t = true) : (signs1 bs t).length ≤ 13 := by
  unfold signs1
  split
  · show 2 ≤ 13
    decide
  · have := (isW_len h).2
    rw [List.length_append]
    unfold letS
    rw [List.length_map]
    show t.cps.toList.length + 1 ≤ 13
    have e : t.length = t.cps.toList.length := by simp [Str.length]
    omega
theorem signsV_len {bs : List Ent} : ∀ {ws : List Str}, (∀ t ∈ ws, isW t = true) → (signsV bs ws).length ≤ 13 * ws.length
  | [], _ => by simp [signsV]
  | t :: r, h => by
    have ih := signsV_len (bs := bs) (ws := r) fun x hx => h x (List.mem_cons_of_mem _ hx)
    have h1 := signs1_len (bs := bs) (h t List.mem_cons_self)
    unfold signsV at *
    rw [List.flatMap_cons, List.length_append, List.length_cons]
    omega
theorem signsV_snoc (bs : List Ent) (ws : List Str) (t : Str) : signsV bs (ws ++ [t]) = signsV bs ws ++ signs1 bs t := by
  unfold signsV
  rw [List.flatMap_append]
  simp
/-! ### signs_of -/
def sp_p_signs_of (K : PySem.W.Frag) (P C B : Addr) : Sp := fun vs H Q E => ∃ (p d1 d2 a : Addr) (bs : List Ent) (ws : List Str), vs = [.ref p, .ref a] ∧ BookAt C H p d1 d2 bs ∧ SqL K H a (ws.map V.str) ∧ ws.length ≤ 1000 ∧ (∀ t ∈ ws, t.length ≤ 1000) ∧ GxR.TabG H P ∧
  ((∀ t ∈ ws, isW t = true) → ∀ (r : Addr) (H' : Hp), H r = none → Kp H H' → H' r = some (.lst ((signsV bs ws).map V.int)) → Q (.ref r) H') ∧ ((∃ t ∈ ws, isW t = false) → ∀ H', Kp H H' → E (.ref B) none H')
theorem ok_p_signs_of (T : Txt K mg) (TB : GxR.TabB base mg T.c_tab T.P_tab) : FnOk P w K mg base (L2.CX P w) 6 T.f_p_signs_of T.d_p_signs_of ["book", "words"] (sp_p_signs_of K T.P_tab T.a_Phrasebook T.a_BadWord) := by
  refine T.F_p_signs_of.okX sc_p_signs_of (fun vs H Q E h => ?_) (fun cdv A outer s H vs Q E hr h => ?_)
  · obtain ⟨p, d1, d2, a, bs, ws, rfl, _⟩ := h
    rfl
  · obtain ⟨p, d1, d2, a, bs, ws, rfl, hB, hS, hl, hw, hT, k, kE⟩ := h
    refine ⟨_, (pss_cons (ps_set (i := 2) sc_p_signs_of.nd rfl (by first | exact Or.inl rfl | exact Or.inr rfl) (pe_lst pa_nil))
      (pss_cons (ps_for (passes_of rfl) rfl (pi_list (pv 1)) (pg_name (i := 3) sc_p_signs_of.nd rfl (by first | exact Or.inl rfl | exact Or.inr rfl))
      (pss_cons (ps_set (i := 4) sc_p_signs_of.nd rfl (by first | exact Or.inl rfl | exact Or.inr rfl) (pe_meth (pv 0) T.cl_Phrasebook T.M_p_Phrasebook_place_of (ok_p_Phrasebook_place_of T TB) (hr.mono (by decide)) T.b_p_Phrasebook_place_of .nil (passes_call (takes_of rfl rfl rfl rfl) (fun _ _ _ _ z => z)) (pa_cons (pv 3) pa_nil)))
      (pss_one (ps_if (pt_cmpR op_isN (pv 4) pe_non (nomark _))
      (pss_cons (ps_expr (pe_bm PySem.F.plainAttrs_list PySem.F.slot_list_extend PySem.F.type_list_extend mt_extend (pv 2) (pa_cons (pe_lc (own := [("letter", 5)]) (g := gName 5) (tt := tYes) (by rfl) sc_p_signs_of.nd (pi_str (pv 3)) (blkOk_by (own := [("letter", 5)]) (N := ["book", "words", "signs", "word", "place", "letter"]) (sc := defScope s_p_signs_of) (by decide +kernel)) (fun _ _ _ _ _ => (pg_name (i := 5) sc_p_signs_of.nd rfl (by first | exact Or.inl rfl | exact Or.inr rfl))) (fun _ _ _ _ _ => pts_nil) (fun _ _ _ _ _ => (pe_call (ok_p_sign_of T) (hr.mono (by decide)) rfl T.g_p_sign_of T.F_p_sign_of.kp T.b_p_sign_of .nil pass0 (pa_cons (pv 5) pa_nil)))) pa_nil)))
      (pss_one (ps_expr (pe_bm PySem.F.plainAttrs_list PySem.F.slot_list_append PySem.F.type_list_append mt_append (pv 2) (pa_cons (pe_glob rfl T.c_END T.r_END) pa_nil)))))
      (pss_one (ps_expr (pe_bm PySem.F.plainAttrs_list PySem.F.slot_list_extend PySem.F.type_list_extend mt_extend (pv 2) (pa_cons (pe_callTy call_list_of (by rfl) T.m_list (by decide +kernel) (pa_cons (pv 4) pa_nil)) pa_nil))))))))
      (pss_one (ps_ret (pv 2))))), ?_⟩
    refine ⟨Nat.zero_le _, fun r nr => ?_⟩
    generalize h_H1 : upd H r _ = H1
    have k_H1 : Kp H H1 := by rw [← h_H1]; exact .new nr
    have q_H1 := (congrFun h_H1 r).symm.trans upd_same
    clear h_H1
    refine ⟨_, rfl, a, rfl, ⟨_, k_H1.sqL hS⟩, for_list (K := K) (a := a) (xs := ws.map V.str) (fun i σ H' => ∃ (y2 y3 y4 : Option V), σ = [some (.ref p), some (.ref a), some (.ref r), y2, y3, y4] ∧ Kp H H' ∧ H' r = some (.lst ((signsV bs (ws.take i)).map V.int)) ∧ ∀ t ∈ ws.take i, isW t = true)
      ⟨none, none, none, rfl, k_H1, q_H1, by simp⟩ (fun i σ H' _ ⟨_, _, _, _, kp, _⟩ => kp.sqL hS) ?_ ?_⟩
    · rintro i x σ H' hi ⟨y2, y3, y4, rfl, kp, hr', hok⟩
      obtain ⟨t, ht, rfl, hti⟩ := mem_strs hi
      have hil : i < ws.length := (List.getElem?_eq_some_iff.mp hti).1
      obtain ⟨dx, hp⟩ := (hB.kp kp).ob
      refine ⟨_, rfl, p, dx, _, rfl, hp, flds_no _ _ (by decide +kernel) (by decide +kernel), _, rfl, p, d1, d2, bs, t, rfl, hB.kp kp, hw t ht, kp.tab _ hT, fun c H2 k2 => ?_, fun c H2 k2 => kE ⟨t, ht, c⟩ H2 (kp.trans k2)⟩
      have kp2 := kp.trans k2
      have hr2 := k2.same _ _ rfl hr'
      have hlen : (signsV bs (ws.take i)).length ≤ 13000 := by
        have z := signsV_len (bs := bs) hok
        rw [List.length_take] at z
        omega
      have hok2 : ∀ t ∈ ws.take (i + 1), isW t = true := by
        rw [take_snoc hti]
        intro u hu
        rcases List.mem_append.mp hu with hu | hu
        · exact hok u hu
        · rw [List.mem_singleton.mp hu]
          exact c
      have hsn : signsV bs (ws.take (i + 1)) = signsV bs (ws.take i) ++ signs1 bs t := by rw [take_snoc hti, signsV_snoc]
      cases e : atW bs t with
      | none =>
        have hs1 : signs1 bs t = letS t ++ [67] := by unfold signs1; rw [e]
        refine ⟨_, rfl, rfl, _, rfl, iteTo dec_self ?_⟩
        refine ⟨_, rfl, .inl ⟨rfl, _, SqL.of hr2⟩, _, rfl, t, rfl, fun D hD => ?_⟩
        have esz : t.cps.size = t.cps.toList.length := by simp
        have hDr : r ≠ D := ne_of_none hr2 hD
        refine lc_it (walk_str (z := t)) (fun j H' => Kp H2 H' ∧ H' D = some (.lst (((t.cps.toList.take j).map let1).map V.int))) ⟨Kp.new hD, upd_same⟩ (fun _ _ _ _ => trivial) (fun j x H3 H4 hj ⟨k3, hl3⟩ ⟨e1, c1, hc, hx⟩ => ?_) (fun H3 ⟨k3, hl3⟩ => ?_)
        · subst e1
          subst hx
          have hc2 : t.cps.toList[j]? = some c1 := by rw [Array.getElem?_toList]; exact hc
          obtain ⟨b1, b2⟩ := isW_signs c c1 (List.mem_of_getElem? hc2)
          have hl12 := (isW_len c).2
          have et : t.length = t.cps.toList.length := by simp [Str.length]
          refine ⟨rfl, ?_⟩
          refine ⟨_, rfl, c1 - 97, (by show [V.str ⟨#[c1]⟩] = [V.str ⟨#[97 + (c1 - 97)]⟩]; rw [show 97 + (c1 - 97) = c1 by omega]), by omega, _, hl3, szt (by rw [List.length_map, List.length_map, List.length_take]; omega), k3.mut hD, ?_⟩
          rw [upd_same, take_snoc hc2, List.map_append, List.map_append]
          rfl
        · rw [esz, List.take_length] at hl3
          have hr3 := k3.same _ _ rfl hr2
          have hl12 := (isW_len c).2
          have et : t.length = t.cps.toList.length := by simp [Str.length]
          refine ⟨r, D, _, _, rfl, rfl, hr3, hl3, szl (by rw [List.length_map, List.length_map, List.length_map]; omega), ?_⟩
          refine ⟨_, rfl, .inl ⟨rfl, _, SqL.of upd_same⟩, r, _, _, rfl, rfl, upd_same, szt (by rw [List.length_append, List.length_map, List.length_map, List.length_map]; omega), ?_⟩
          refine ⟨_, _, _, rfl, ((kp2.trans k3).mut nr).mut nr, ?_, hok2⟩
          rw [upd_same, hsn, hs1]
          unfold letS
          rw [List.map_append, List.map_append]
          simp only [List.append_assoc]
          rfl
      | some b =>
        have hs1 : signs1 bs t = [b.1.2.1, b.1.2.2] := by unfold signs1; rw [e]
        have hb : b ∈ bs := List.mem_of_find?_eq_some e
        have ht2 := (hB.kp kp2).tu b hb
        refine ⟨_, rfl, rfl, _, rfl, iteFo rfl ?_⟩
        refine ⟨_, rfl, .inl ⟨rfl, _, SqL.of hr2⟩, _, rfl, b.2, _, rfl, .inr (.inl (.inl ht2)), fun q nq => ?_⟩
        generalize h_H3 : upd H2 q _ = H3
        have k_H3 : Kp H2 H3 := by rw [← h_H3]; exact .new nq
        have q_H3 := (congrFun h_H3 q).symm.trans upd_same
        clear h_H3
        refine ⟨r, q, _, _, rfl, rfl, k_H3.same _ _ rfl hr2, q_H3, szl (by rw [List.length_map]; show _ + 2 ≤ 100000; omega), ?_⟩
        refine ⟨_, _, _, rfl, (kp2.trans k_H3).mut nr, ?_, hok2⟩
        rw [upd_same, hsn, hs1, List.map_append]
        rfl
    · rintro σ H' ⟨y2, y3, y4, rfl, kp, hr', hok⟩
      rw [List.length_map, List.take_length] at hr' hok
      exact ⟨_, rfl, k hok r H' nr kp hr'⟩
/-! ### a method of a text inside a comprehension -/
theorem tbmK {X : Cx} (K : PySem.W.Frag) {e : Expr} {to : TE} {t : TA} {T : String} {r : V → List V → Hp → VK → Prop} (h : X.K = K) (p : PE X e (tBM X.K T r to t)) : PE X e (tBM K T r to t) := h ▸ p
/-! ### _law_word: a drawn word -/
theorem joinL_nil : ∀ zs : List (List Nat), TL.joinL [] zs = zs.flatten
  | [] => rfl
  | [z] => by show z = _; simp
  | z :: z2 :: r => by
    show z ++ ([] ++ TL.joinL [] (z2 :: r)) = _
    rw [joinL_nil (z2 :: r), List.nil_append]
    rfl
def one (c : Nat) : Str := ⟨#[c]⟩
theorem join_ones (cs : List Nat) : (Txt.join "" (cs.map one)).cps.toList = cs := by
  have e : TL.tl (Txt.join "" (cs.map one)) = TL.joinL (TL.tl "") ((cs.map one).map TL.tl) := by rw [TL.join_eq, TL.tl_join]
  have e0 : TL.tl "" = [] := by decide +kernel
  rw [e0, joinL_nil, List.map_map] at e
  have e2 : (cs.map (TL.tl ∘ one)).flatten = cs := by
    clear e
    induction cs with
    | nil => rfl
    | cons c r ih =>
      rw [List.map_cons, List.flatten_cons, ih]
      rfl
  rw [e2] at e
  exact e
theorem sum_ones (cs : List Nat) : ((cs.map one).map (·.length)).sum = cs.length := by
  induction cs with
  | nil => rfl
  | cons c r ih =>
    rw [List.map_cons, List.map_cons, List.sum_cons, ih, List.length_cons]
    show 1 + r.length = r.length + 1
    omega
theorem isW_of {t : Str} (h1 : 1 ≤ t.cps.toList.length) (h2 : t.cps.toList.length ≤ 12) (h : ∀ c ∈ t.cps.toList, c ∈ abcW.cps.toList) : isW t = true := by
  have et : t.length = t.cps.toList.length := by simp [Str.length]
  unfold isW
  rw [et, decide_eq_true (show 1 ≤ (t.cps.toList.length : Int) by omega), decide_eq_true (show (t.cps.toList.length : Int) ≤ 12 by omega)]
  show (t.cps.toList.all fun c => decide (c ∈ abcW.cps.toList)) = true
  exact List.all_eq_true.mpr fun c hc => decide_eq_true (h c hc)
theorem isW_cut {t : Str} {z : Int} (hl : t.cps.toList.length = 12) (h : ∀ c ∈ t.cps.toList, c ∈ abcW.cps.toList) (h1 : 1 ≤ z) (h2 : z ≤ 12) : isW (cutS t none (some z)) = true := by
  have et : t.length = 12 := by simpa [Str.length] using hl
  have e1 : HT.sIx t.length 0 none = 0 := rfl
  have e2 : HT.sIx t.length t.length (some z) = z.toNat := by
    rw [et]
    obtain ⟨n, rfl⟩ : ∃ n : Nat, z = (n : Int) := ⟨z.toNat, by omega⟩
    have hn : n ≤ 12 := by omega
    rw [Int.toNat_natCast]
    have key : ∀ n : Fin 13, HT.sIx 12 12 (some ((n.val : Nat) : Int)) = n.val := by decide +kernel
    exact key ⟨n, by omega⟩
  have e : (cutS t none (some z)).cps.toList = t.cps.toList.take z.toNat := by
    unfold cutS
    rw [e1, e2]
    simp
  refine isW_of ?_ ?_ ?_
  · rw [e, List.length_take]
    omega
  · rw [e, List.length_take]
    omega
  · rw [e]
    intro c hc
    exact h c (List.mem_of_mem_take hc)
def W7 : List Str := ["tide", "tides", "out", "aaaaaaaaaaaa", "a", "b", "zaaaaaaaaaaa"]
theorem isW_7 : ∀ t ∈ W7, isW t = true := by decide +kernel
theorem at_7 (n : Int) : ∃ t ∈ W7, atI (W7.map V.str) (n % 7) = some (.str t) := by
  have h0 : 0 ≤ n % 7 := Int.emod_nonneg _ (by decide)
  have h1 : n % 7 < 7 := Int.emod_lt_of_pos _ (by decide)
  have hj : (n % 7).toNat < W7.length := by
    show (n % 7).toNat < 7
    omega
  refine ⟨W7[(n % 7).toNat], List.getElem_mem _, ?_⟩
  have e := atI_nat (xs := W7.map V.str) (j := (n % 7).toNat) (v := .str W7[(n % 7).toNat]) (by rw [List.getElem?_map, List.getElem?_eq_getElem hj]; rfl)
  rw [Int.toNat_of_nonneg h0] at e
  exact e
theorem at_abc (m : Int) : ∃ c ∈ abcW.cps.toList, atI abcW.cps.toList (m % 26) = some c := by
  have h0 : 0 ≤ m % 26 := Int.emod_nonneg _ (by decide)
  have h1 : m % 26 < 26 := Int.emod_lt_of_pos _ (by decide)
  have hl : abcW.cps.toList.length = 26 := by decide +kernel
  have hj : (m % 26).toNat < abcW.cps.toList.length := by omega
  refine ⟨abcW.cps.toList[(m % 26).toNat], List.getElem_mem _, ?_⟩
  have e := atI_nat (List.getElem?_eq_getElem hj)
  rw [Int.toNat_of_nonneg h0] at e
  exact e
theorem cut1 {ns : List Int} : cutV (ns.map V.int) (some 1) none = (ns.drop 1).map V.int := by
  unfold cutV
  rw [List.length_map]
  cases ns with
  | nil => rfl
  | cons n r =>
    have e1 : HT.sIx (n :: r).length 0 (some 1) = 1 := by
      show HT.sIx (r.length + 1) 0 (some 1) = 1
      unfold HT.sIx
      simp
      try omega
    have e2 : HT.sIx (n :: r).length (n :: r).length none = (n :: r).length := rfl
    rw [e1, e2, List.drop_succ_cons, List.drop_zero, List.map_cons, List.drop_succ_cons, List.drop_zero, List.length_cons]
    rw [List.take_of_length_le (by rw [List.length_map]; omega)]
def sp_l_word : Sp := fun vs H Q _ => ∃ c : Int, vs = [.int c] ∧ ∀ (t : Str) (H' : Hp), isW t = true → Kp H H' → Q (.str t) H'
theorem ok_l_word (T : Txt K mg) : FnOk P w K mg base CX0 2 T.f_l_word T.d_l_word ["_law_cell_here"] sp_l_word := by
  refine T.F_l_word.ok sc_l_word (fun vs H Q E h => ?_) (fun cdv A outer s H vs Q E hr h => ?_)
  · obtain ⟨c, rfl, _⟩ := h
    rfl
  · obtain ⟨c, rfl, k⟩ := h
    refine ⟨_, (pss_cons (ps_set (i := 1) sc_l_word.nd rfl (by first | exact Or.inl rfl | exact Or.inr rfl) (pe_call (ok_l_row T) (hr.mono (by decide)) rfl T.g_l_row T.F_l_row.kp T.b_l_row .nil pass0 (pa_cons (pv 0) (pa_cons pe_int (pa_cons pe_int pa_nil)))))
      (pss_cons (ps_set (i := 2) sc_l_word.nd rfl (by first | exact Or.inl rfl | exact Or.inr rfl) (pe_join pe_str (pe_lc (own := [("_law_num", 3)]) (g := gName 3) (tt := tYes) (by rfl) sc_l_word.nd (pi_list (pe_slice sl_list (pv 1) (po_some pe_int) po_none)) (blkOk_by (own := [("_law_num", 3)]) (N := ["_law_cell_here", "_law_nums", "_law_some", "_law_num", "_law_size"]) (sc := defScope s_l_word) (by decide +kernel)) (fun _ _ _ _ _ => (pg_name (i := 3) sc_l_word.nd rfl (by first | exact Or.inl rfl | exact Or.inr rfl))) (fun _ _ _ _ _ => pts_nil) (fun _ _ _ _ _ => (pe_ix ix_str pe_str (pe_op op_mod (pv 3) pe_int) (fun _ _ => rfl))))))
      (pss_cons (ps_set (i := 4) sc_l_word.nd rfl (by first | exact Or.inl rfl | exact Or.inr rfl) (pe_op op_add pe_int (pe_op op_mod (pe_ix ix_list (pv 1) pe_int (fun _ _ => rfl)) pe_int)))
      (pss_cons (ps_if (pt_cmpR op_eq (pe_op op_mod (pe_op op_fdiv (pe_ix ix_list (pv 1) pe_int (fun _ _ => rfl)) pe_int) pe_int) pe_int (nomark _))
      (pss_one (ps_ret (pe_ix ix_tup (pe_tup (pa_cons pe_str (pa_cons pe_str (pa_cons pe_str (pa_cons pe_str (pa_cons pe_str (pa_cons pe_str (pa_cons pe_str pa_nil)))))))) (pe_op op_mod (pe_ix ix_list (pv 1) pe_int (fun _ _ => rfl)) pe_int) (fun _ _ => rfl))))
      pss_nil)
      (pss_one (ps_ret (pe_slice sl_str (pv 2) po_none (po_some (pv 4))))))))), ?_⟩
    refine ⟨_, rfl, _, _, _, rfl, by decide, by decide, by decide, by decide, fun nums p1 H1 n1 k1 q1 ⟨hl, hb⟩ => ?_⟩
    have h0 : 0 < nums.length := by omega
    have h1' : 1 < nums.length := by omega
    refine ⟨⟨_, rfl⟩, _, rfl, _, rfl, p1, _, rfl, .inl (.inl q1), fun p2 n2 => ?_⟩
    generalize h_H2 : upd H1 p2 _ = H2
    have k_H2 : Kp H1 H2 := by rw [← h_H2]; exact .new n2
    have q_H2 := (congrFun h_H2 p2).symm.trans upd_same
    clear h_H2
    have q2 : H2 p2 = some (.lst ((nums.drop 1).map V.int)) := by rw [← cut1]; exact q_H2
    refine ⟨p2, rfl, ⟨_, .inl (.inl q2)⟩, fun D hD => ?_⟩
    refine lc_list (K := K) (a := p2) (xs := (nums.drop 1).map V.int) (fun i H' => Kp H2 H' ∧ ∃ cs : List Nat, H' D = some (.lst ((cs.map one).map V.str)) ∧ cs.length = i ∧ ∀ y ∈ cs, y ∈ abcW.cps.toList) ⟨Kp.new hD, [], upd_same, rfl, by simp⟩ (fun i H' _ ⟨kp, _⟩ => kp.sqL (.inl (.inl q2))) (fun i x H' hi ⟨kp, ss, hs, hn, h1⟩ => ?_) (fun H' ⟨kp, ss, hs, hn, h1⟩ => ?_)
    · have hil : i < 12 := by
        have z := (List.getElem?_eq_some_iff.mp hi).1
        rw [List.length_map, List.length_drop] at z
        omega
      obtain ⟨z, _, rfl, _⟩ := mem_ints hi
      obtain ⟨c, hcm, hc⟩ := at_abc z
      refine ⟨rfl, ?_⟩
      refine ⟨_, rfl, _, _, rfl, rfl, (by show (0 : Int) < 26; decide), abcW, _, c, rfl, rfl, by decide +kernel, hc, (ss.map one).map V.str, hs, szt (by rw [List.length_map, List.length_map]; omega), kp.mut hD, ss ++ [c], ?_, by rw [List.length_append, hn]; rfl, fun y hy => ?_⟩
      · rw [upd_same, List.map_append, List.map_append]
        rfl
      · rcases List.mem_append.mp hy with hy | hy
        · exact h1 y hy
        · rw [List.mem_singleton.mp hy]
          exact hcm
    · rw [List.length_map, List.length_drop] at hn
      have hsum : ((ss.map one).map (·.length)).sum + (ss.map one).length * (Str.ofString "").length ≤ 16777216 := by
        have e2 : (Str.ofString "").length = 0 := by decide +kernel
        rw [sum_ones, e2]
        omega
      refine ⟨_, D, ss.map one, rfl, rfl, .inl (.inl (.inl hs)), hsum, ?_⟩
      have k3 := (k1.trans k_H2).trans kp
      have hp1 : H' p1 = some (.lst (nums.map V.int)) := kp.same _ _ rfl (k_H2.same _ _ rfl q1)
      have hj := join_ones ss
      generalize hJ : Txt.join _ (ss.map one) = J
      have hj : J.cps.toList = ss := by rw [← hJ]; exact hj
      clear hJ
      have z0 : 0 ≤ nums[0] % 12 := Int.emod_nonneg _ (by decide)
      have z1 : nums[0] % 12 < 12 := Int.emod_lt_of_pos _ (by decide)
      refine ⟨_, rfl, p1, _, _, _, rfl, rfl, .inl (.inl hp1), at_int (j := 0) h0, _, _, rfl, rfl, (by show (0 : Int) < 12; decide), _, _, rfl, rfl, ?_⟩
      refine ⟨_, rfl, p1, _, _, _, rfl, rfl, .inl (.inl hp1), at_int (j := 0) h0, _, _, rfl, rfl, ⟨by decide, by decide⟩, _, _, rfl, rfl, (by show (0 : Int) < 5; decide), rfl, _, rfl, iteD (fun c1 => ?_) (fun c1 => ?_)⟩
      · refine ⟨szl (by show 7 ≤ 100000; decide), fun p3 n3 => ?_⟩
        generalize h_H3 : upd H' p3 _ = H3
        have k_H3 : Kp H' H3 := by rw [← h_H3]; exact .new n3
        have q_H3 := (congrFun h_H3 p3).symm.trans upd_same
        clear h_H3
        obtain ⟨t, ht, hat⟩ := at_7 nums[1]
        refine ⟨_, rfl, p1, _, _, _, rfl, rfl, .inl (.inl (k_H3.same _ _ rfl hp1)), at_int (j := 1) h1', _, _, rfl, rfl, (by show (0 : Int) < 7; decide), p3, _, _, _, rfl, rfl, .inl (.inl q_H3), hat, k t H3 (isW_7 t ht) (k3.trans k_H3)⟩
      · refine ⟨_, rfl, _, rfl, _, rfl, J, rfl, ?_, ?_⟩
        · have e : J.length = J.cps.toList.length := by simp [Str.length]
          exact szl (by rw [e, hj]; omega)
        · exact k _ _ (isW_cut (by rw [hj]; omega) (by rw [hj]; exact h1) (by omega) (by omega)) k3
/-! ### _law_book: a phrasebook and its words -/
/-- the law's own map of words: texts to pairs -/
structure DictAt (H : Hp) (d : Addr) (es : List Ent) : Prop where
  wd : H d = some (.dK (kvW es))
  tu : ∀ e ∈ es, H e.2 = some (.tup [.int e.1.2.1, .int e.1.2.2])
theorem DictAt.kp {H H' : Hp} {d : Addr} {es : List Ent} (x : DictAt H d es) (k : Kp H H') : DictAt H' d es := ⟨k.same _ _ rfl x.wd, fun e he => k.same _ _ rfl (x.tu e he)⟩
structure GoodB (bs : List Ent) : Prop where
  ok : ∀ b ∈ bs, isW b.1.1 = true ∧ okP b.1.2.1 b.1.2.2 = true
  own : ∀ b ∈ bs, atP bs b.1.2.1 b.1.2.2 = some b
theorem GoodB.snoc {bs : List Ent} {b : Ent} (g : GoodB bs) (h1 : isW b.1.1 = true) (h2 : okP b.1.2.1 b.1.2.2 = true) (h3 : atP bs b.1.2.1 b.1.2.2 = none) : GoodB (bs ++ [b]) := by
  refine ⟨fun e he => ?_, fun e he => ?_⟩
  · rcases List.mem_append.mp he with he | he
    · exact g.ok e he
    · rw [List.mem_singleton.mp he]
      exact ⟨h1, h2⟩
  · have z : atP (bs ++ [b]) e.1.2.1 e.1.2.2 = (atP bs e.1.2.1 e.1.2.2).or (atP [b] e.1.2.1 e.1.2.2) := by
      unfold atP
      rw [List.find?_append]
    rw [z]
    rcases List.mem_append.mp he with he | he
    · rw [g.own e he]
      rfl
    · rw [List.mem_singleton.mp he, h3]
      unfold atP
      simp
def OwnW (es : List Ent) : Prop := ∀ e ∈ es, atW es e.1.1 = some e
theorem OwnW.snoc {es : List Ent} {b : Ent} (g : OwnW es) (h : atW es b.1.1 = none) : OwnW (es ++ [b]) := by
  intro e he
  have z : atW (es ++ [b]) e.1.1 = (atW es e.1.1).or (atW [b] e.1.1) := by
    unfold atW
    rw [List.find?_append]
  rw [z]
  rcases List.mem_append.mp he with he | he
  · rw [g e he]
    rfl
  · rw [List.mem_singleton.mp he, h]
    unfold atW
    simp
theorem find_any {α : Type} (f : α → Bool) (l : List α) : (l.find? f).isSome = l.any f := by
  rw [Bool.eq_iff_iff, List.find?_isSome, List.any_eq_true]
theorem atP_same {bs es : List Ent} (h : es.map (·.1) = bs.map (·.1)) (a l : Int) : (atP es a l).isSome = (atP bs a l).isSome := by
  have q : ∀ xs : List Ent, (atP xs a l).isSome = (xs.map (·.1)).any fun b => decide (b.2.1 = a ∧ b.2.2 = l) := fun xs => by
    unfold atP
    rw [find_any, List.any_map]
    rfl
  rw [q, q, h]
theorem atW_same {bs es : List Ent} (h : es.map (·.1) = bs.map (·.1)) (t : Str) : (atW es t).isSome = (atW bs t).isSome := by
  have q : ∀ xs : List Ent, (atW xs t).isSome = (xs.map (·.1)).any fun b => decide (b.1 = t) := fun xs => by
    unfold atW
    rw [find_any, List.any_map]
    rfl
  rw [q, q, h]
def dSpot (e : Ent) : PyData := .tuple [.int e.1.2.1, .int e.1.2.2]
theorem dp_spots {K : PySem.W.Frag} {H : Hp} : ∀ {es : List Ent}, (∀ e ∈ es, H e.2 = some (.tup [.int e.1.2.1, .int e.1.2.2])) → DpAll K H (es.map fun e => V.ref e.2) (es.map dSpot)
  | [], _ => .nil
  | e :: r, h => .cons (.tup (.inl (.inl (h e List.mem_cons_self))) (.cons (.int _) (.cons (.int _) .nil))) (dp_spots fun x hx => h x (List.mem_cons_of_mem _ hx))
theorem spots_lay : ∀ es : List Ent, PyData.canLayAll0 (es.map dSpot) = true ∧ PyData.depthAll (es.map dSpot) ≤ 1
  | [] => ⟨rfl, by decide⟩
  | e :: r => by
    have z := spots_lay r
    refine ⟨?_, ?_⟩
    · show (PyData.canLay0 (dSpot e) && PyData.canLayAll0 (r.map dSpot)) = true
      rw [z.1]
      rfl
    · show max (PyData.depth (dSpot e)) (PyData.depthAll (r.map dSpot)) ≤ 1
      exact Nat.max_le.mpr ⟨Nat.le_refl _, z.2⟩
theorem spots_shaped (es : List Ent) : SeqAt.shaped (.list (es.map dSpot)) = true := by
  have z := spots_lay es
  unfold SeqAt.shaped
  have h2 : PyData.depth (.list (es.map dSpot)) ≤ 64 := by
    show PyData.depthAll (es.map dSpot) + 1 ≤ 64
    omega
  have h1 : PyData.canLay0 (.list (es.map dSpot)) = true := z.1
  rw [h1, decide_eq_true h2]
  rfl
theorem spots_any (es : List Ent) (a l : Int) : ((es.map dSpot).any fun z => PyData.eqv z (.tuple [.int a, .int l])) = (atP es a l).isSome := by
  unfold atP
  rw [find_any, List.any_map]
  congr 1
  funext e
  show ((e.1.2.1 == a) && ((e.1.2.2 == l) && true)) = decide (e.1.2.1 = a ∧ e.1.2.2 = l)
  rw [Bool.and_true, Bool.eq_iff_iff]
  simp
theorem okP_of {a l : Int} (h1 : 1 ≤ a) (h2 : a ≤ 40) (h3 : 1 ≤ l) (h4 : l ≤ 40) : okP a l = true := by
  unfold okP
  rw [decide_eq_true h1, decide_eq_true h2, decide_eq_true h3, decide_eq_true h4]
  rfl
theorem BookAt.put {C : Addr} {H : Hp} {p d1 d2 d : Addr} {bs : List Ent} {o : HO} {kvs : List (Key × V)} (b : BookAt C H p d1 d2 bs) (hd : H d = some (.dK kvs)) (ne : d2 ≠ d) : BookAt C (upd H d o) p d1 d2 bs := by
  obtain ⟨dx, h⟩ := b.ob
  refine ⟨⟨dx, ?_⟩, ?_, ?_, fun e he => ?_⟩
  · rw [upd_ne (ne_of h hd (by intro z; cases z))]
    exact h
  · rw [upd_ne (ne_of b.pl hd (by intro z; cases z))]
    exact b.pl
  · rw [upd_ne ne]
    exact b.wd
  · have q := b.tu e he
    rw [upd_ne (ne_of q hd (by intro z; cases z))]
    exact q
theorem DictAt.kpE {H H' : Hp} {d d1 d2 : Addr} {es : List Ent} {kvs : List (List Key × V)} {kws : List (Key × V)} (x : DictAt H d es) (h1 : H d1 = some (.dT kvs)) (h2 : H d2 = some (.dK kws)) (ne : d2 ≠ d) (k : KpE [d1, d2] H H') : DictAt H' d es := by
  refine ⟨k.same _ _ rfl ?_ x.wd, fun e he => k.same _ _ rfl ?_ (x.tu e he)⟩
  · intro m
    rcases List.mem_cons.mp m with m | m
    · have z := x.wd
      rw [m, h1] at z
      cases z
    · exact ne (List.mem_singleton.mp m).symm
  · intro m
    have q := x.tu e he
    rcases List.mem_cons.mp m with m | m
    · rw [m, h1] at q
      cases q
    · rw [List.mem_singleton.mp m, h2] at q
      cases q
theorem kvW_at {es : List Ent} {i : Nat} {k : Key} {v : V} (h : (kvW es)[i]? = some (k, v)) : ∃ e, es[i]? = some e ∧ k = Sum.inr e.1.1 ∧ v = V.ref e.2 := by
  unfold kvW at h
  rw [List.getElem?_map] at h
  cases e : es[i]? with
  | none =>
    rw [e] at h
    cases h
  | some b =>
    rw [e] at h
    have z := Option.some.inj h
    rw [Prod.mk.injEq] at z
    exact ⟨b, rfl, z.1.symm, z.2.symm⟩
def sp_l_book (K : PySem.W.Frag) (P C : Addr) : Sp := fun vs H Q _ => ∃ (a : Addr) (ns : List Int) (j : Nat), vs = [.ref a, .int (j : Int)] ∧ SqL K H a (ns.map V.int) ∧ j ≤ 1000 ∧ GxR.TabG H P ∧
  ∀ (x p d1 d2 dw : Addr) (bs es : List Ent) (H' : Hp), Kp H H' → H p = none → H d1 = none → H d2 = none → H dw = none → d2 ≠ dw → BookAt C H' p d1 d2 bs → DictAt H' dw es → es.map (·.1) = bs.map (·.1) → GoodB bs → OwnW es → bs.length ≤ 9 → SqT K H' x [.ref p, .ref dw] → Q (.ref x) H'
theorem ok_l_book (T : Txt K mg) (TB : GxR.TabB base mg T.c_tab T.P_tab) : FnOk P w K mg base CX0 6 T.f_l_book T.d_l_book ["_law_script", "_law_at"] (sp_l_book K T.P_tab T.a_Phrasebook) := by
  refine T.F_l_book.ok sc_l_book (fun vs H Q E h => ?_) (fun cdv A outer s H vs Q E hr h => ?_)
  · obtain ⟨a, ns, j, rfl, _⟩ := h
    rfl
  · obtain ⟨a, ns, j, rfl, hS, hj, hT, k⟩ := h
    have hu := hu_of hr
    refine ⟨_, (pss_cons (ps_set (i := 2) sc_l_book.nd rfl (by first | exact Or.inl rfl | exact Or.inr rfl) (pe_make0 T.K_Phrasebook (ok_p_Phrasebook_init T) (hr.mono (by decide)) rfl T.g_Phrasebook T.b_p_Phrasebook_init .nil pass0))
      (pss_cons (ps_set (i := 3) sc_l_book.nd rfl (by first | exact Or.inl rfl | exact Or.inr rfl) pe_dnewK)
      (pss_cons (ps_for PassesOwn.never rfl (pi_range1 (by rfl) T.m_range (pa_cons (pe_op op_add pe_int (pe_op op_mod (pe_call (ok_l_cell T) (hr.mono (by decide)) rfl T.g_l_cell T.F_l_cell.kp T.b_l_cell .nil pass0 (pa_cons (pv 0) (pa_cons (pv 1) pa_nil))) pe_int)) pa_nil)) (pg_name (i := 4) sc_l_book.nd rfl (by first | exact Or.inl rfl | exact Or.inr rfl))
      (pss_cons (ps_set (i := 5) sc_l_book.nd rfl (by first | exact Or.inl rfl | exact Or.inr rfl) (pe_call (ok_l_row T) (hr.mono (by decide)) rfl T.g_l_row T.F_l_row.kp T.b_l_row .nil pass0 (pa_cons (pe_op op_add (pe_call (ok_l_cell T) (hr.mono (by decide)) rfl T.g_l_cell T.F_l_cell.kp T.b_l_cell .nil pass0 (pa_cons (pv 0) (pa_cons (pe_op op_add (pv 1) pe_int) pa_nil))) (pe_op op_mul pe_int (pv 4))) (pa_cons pe_int (pa_cons pe_int pa_nil)))))
      (pss_cons (ps_set (i := 6) sc_l_book.nd rfl (by first | exact Or.inl rfl | exact Or.inr rfl) (pe_call (ok_l_word T) (hr.mono (by decide)) rfl T.g_l_word T.F_l_word.kp T.b_l_word .nil pass0 (pa_cons (pe_ix ix_list (pv 5) pe_int (fun _ _ => rfl)) pa_nil)))
      (pss_cons (ps_set (i := 7) sc_l_book.nd rfl (by first | exact Or.inl rfl | exact Or.inr rfl) (pe_tup (pa_cons (pe_op op_add pe_int (pe_op op_mod (pe_ix ix_list (pv 5) pe_int (fun _ _ => rfl)) pe_int)) (pa_cons (pe_op op_add pe_int (pe_op op_mod (pe_ix ix_list (pv 5) pe_int (fun _ _ => rfl)) pe_int)) pa_nil))))
      (pss_cons (ps_if (pt_cmpR op_eq (pe_op op_mod (pe_op op_fdiv (pe_ix ix_list (pv 5) pe_int (fun _ _ => rfl)) pe_int) pe_int) pe_int (nomark _))
      (pss_one (ps_set (i := 7) sc_l_book.nd rfl (by first | exact Or.inl rfl | exact Or.inr rfl) (pe_tup (pa_cons (pe_op op_add pe_int (pe_op op_mod (pe_op op_fdiv (pe_ix ix_list (pv 5) pe_int (fun _ _ => rfl)) pe_int) pe_int)) (pa_cons (pe_op op_add pe_int (pe_op op_mod (pe_op op_fdiv (pe_ix ix_list (pv 5) pe_int (fun _ _ => rfl)) pe_int) pe_int)) pa_nil)))))
      pss_nil)
      (pss_one (ps_if (PW.pt (pw_and (pt_cmp (pc_dnotin hu (pv 6) (pv 3))) (pw_and1 (pt_cmpR (op_notInD (hu65 hr)) (pv 7) (pe_lock (pe_lc (own := [("_law_one", 8)]) (g := gName 8) (tt := tYes) (by rfl) sc_l_book.nd (pi_keys (pv 3)) (blkOk_by (own := [("_law_one", 8)]) (N := ["_law_script", "_law_at", "_law_book_here", "_law_words", "_law_k", "_law_nums", "_law_word_here", "_law_spot", "_law_one"]) (sc := defScope s_l_book) (by decide +kernel)) (fun _ _ _ _ _ => (pg_name (i := 8) sc_l_book.nd rfl (by first | exact Or.inl rfl | exact Or.inr rfl))) (fun _ _ _ _ _ => pts_nil) (fun _ _ _ _ _ => (pe_dget hu (pv 3) (pv 8) (fun _ _ => rfl))))) rfl))))
      (pss_cons (ps_dput hu (pv 3) (pv 6) (pv 7) rfl)
      (pss_one (ps_expr (pe_meth (pv 2) T.cl_Phrasebook T.M_p_Phrasebook_enter (ok_p_Phrasebook_enter T TB) (hr.mono (by decide)) T.b_p_Phrasebook_enter .nil passL (pa_cons (pe_ix ix_tup (pv 7) pe_int (fun _ _ => rfl)) (pa_cons (pe_ix ix_tup (pv 7) pe_int (fun _ _ => rfl)) (pa_cons (pv 6) pa_nil)))))))
      pss_nil)))))))
      (pss_one (ps_ret (pe_tup (pa_cons (pv 2) (pa_cons (pv 3) pa_nil)))))))), ?_⟩
    intro x dx nx ndx ne
    have k0 : Kp H (upd (upd H dx (.own x)) x (.ins T.a_Phrasebook dx [])) := (Kp.new ndx).trans (.new (by rw [upd_ne ne.symm]; exact nx))
    refine ⟨x, dx, rfl, upd_same, fun d1 d2 H1 f1 f2 B1 e1 => ⟨rfl, ?_⟩⟩
    have k1 : Kp H H1 := kp_made nx ndx ne e1
    have g1 : H d1 = none := k0.free _ f1
    have g2 : H d2 = none := k0.free _ f2
    intro dw ndw
    have gw : H dw = none := k1.free _ ndw
    have new : d2 ≠ dw := ne_of_none B1.wd ndw
    generalize h_H2 : upd H1 dw _ = H2
    have k_H2 : Kp H1 H2 := by rw [← h_H2]; exact .new ndw
    have q_H2 := (congrFun h_H2 dw).symm.trans upd_same
    clear h_H2
    have z0 : 0 ≤ cellV ns j % 9 := Int.emod_nonneg _ (by decide)
    have z1 : cellV ns j % 9 < 9 := Int.emod_lt_of_pos _ (by decide)
    refine ⟨_, rfl, _, rfl, a, ns, j, rfl, (k1.trans k_H2).sqL hS, by omega, _, _, rfl, rfl, (by show (0 : Int) < 9; decide), _, _, rfl, rfl, (1 : Int) + cellV ns j % 9, rfl, by omega, by omega, ?_⟩
    refine for_range (lo := 0) (n := ((1 : Int) + cellV ns j % 9).toNat) (fun i σ H' => ∃ (bs es : List Ent) (y4 y5 y6 y7 y8 : Option V), σ = [some (.ref a), some (.int (j : Int)), some (.ref x), some (.ref dw), y4, y5, y6, y7, y8] ∧ Kp H H' ∧ BookAt T.a_Phrasebook H' x d1 d2 bs ∧ DictAt H' dw es ∧ es.map (·.1) = bs.map (·.1) ∧ GoodB bs ∧ OwnW es ∧ bs.length ≤ i)
      ⟨[], [], none, none, none, none, none, rfl, k1.trans k_H2, B1.kp k_H2, ⟨q_H2, by simp⟩, rfl, ⟨by simp, by simp⟩, (by intro e he; cases he), Nat.le_refl _⟩ ?_ ?_
    · rintro i σ H' hi ⟨bs, es, y4, y5, y6, y7, y8, rfl, kp, hBk, hDi, hes, hG, hO, hbl⟩
      refine ⟨_, rfl, _, rfl, _, _, rfl, rfl, a, ns, j + 1, rfl, kp.sqL hS, by omega, _, rfl, _, _, rfl, rfl, .inl ⟨by decide, by decide⟩, _, _, rfl, rfl, _, _, _, rfl, by decide, by decide, by decide, by decide, fun nums p1 H3 n1 k3 q1 ⟨hl, hb⟩ => ?_⟩
      have h0 : 0 < nums.length := by omega
      have h1 : 1 < nums.length := by omega
      have h2 : 2 < nums.length := by omega
      refine ⟨_, rfl, p1, _, _, _, rfl, rfl, .inl (.inl q1), at_int (j := 0) h0, nums[0], rfl, fun t H4 ht k4 => ?_⟩
      have q4 := k4.same _ _ rfl q1
      refine ⟨_, rfl, p1, _, _, _, rfl, rfl, .inl (.inl q4), at_int (j := 1) h1, _, _, rfl, rfl, (by show (0 : Int) < 3; decide), _, _, rfl, rfl, _, rfl, p1, _, _, _, rfl, rfl, .inl (.inl q4), at_int (j := 2) h2, _, _, rfl, rfl, (by show (0 : Int) < 40; decide), _, _, rfl, rfl, szl (by show 2 ≤ 100000; decide), fun u nu => ?_⟩
      generalize h_H5 : upd H4 u _ = H5
      have k_H5 : Kp H4 H5 := by rw [← h_H5]; exact .new nu
      have q_H5 := (congrFun h_H5 u).symm.trans upd_same
      clear h_H5
      have q5 := k_H5.same _ _ rfl q4
      have k5 := (k3.trans k4).trans k_H5
      have tl : t.length ≤ 1000 := by
        have z := (isW_len ht).2
        omega
      refine ⟨_, rfl, p1, _, _, _, rfl, rfl, .inl (.inl q5), at_int (j := 1) h1, _, _, rfl, rfl, ⟨by decide, by decide⟩, _, _, rfl, rfl, (by show (0 : Int) < 4; decide), rfl, _, rfl, iteD (fun c1 => ?_) (fun c1 => ?_)⟩
      · refine ⟨_, rfl, p1, _, _, _, rfl, rfl, .inl (.inl q5), at_int (j := 1) h1, _, _, rfl, rfl, ⟨by decide, by decide⟩, _, _, rfl, rfl, (by show (0 : Int) < 40; decide), _, _, rfl, rfl, _, rfl, p1, _, _, _, rfl, rfl, .inl (.inl q5), at_int (j := 2) h2, _, _, rfl, rfl, ⟨by decide, by decide⟩, _, _, rfl, rfl, (by show (0 : Int) < 40; decide), _, _, rfl, rfl, szl (by show 2 ≤ 100000; decide), fun u2 nu2 => ?_⟩
        generalize h_H6 : upd H5 u2 _ = H6
        have k_H6 : Kp H5 H6 := by rw [← h_H6]; exact .new nu2
        have q_H6 := (congrFun h_H6 u2).symm.trans upd_same
        clear h_H6
        have k6 := k5.trans k_H6
        have okp : okP ((1 : Int) + nums[1] / 12 % 40) ((1 : Int) + nums[2] / 40 % 40) = true := okP_of (by have := Int.emod_nonneg (nums[1] / 12) (b := 40) (by decide); omega) (by have := Int.emod_lt_of_pos (nums[1] / 12) (b := 40) (by decide); omega) (by have := Int.emod_nonneg (nums[2] / 40) (b := 40) (by decide); omega) (by have := Int.emod_lt_of_pos (nums[2] / 40) (b := 40) (by decide); omega)
        have WU := hDi.kp k6
        have BU := hBk.kp k6
        cases ew : atW es t with
        | some e0 =>
          refine ⟨_, rfl, _, rfl, dw, _, rfl, DGet.k (k := Sum.inr t) WU.wd, _, rfl, iteFo (by rw [valW, ew]; rfl) (iteF ?_)⟩
          exact ⟨bs, es, _, _, _, _, _, rfl, kp.trans k6, BU, WU, hes, hG, hO, by omega⟩
        | none =>
          refine ⟨_, rfl, _, rfl, dw, _, rfl, DGet.k (k := Sum.inr t) WU.wd, _, rfl, iteTo (by rw [valW, ew]; rfl) ?_⟩
          refine ⟨_, rfl, dw, _, WU.wd, trivial, fun od => ?_⟩
          refine ⟨_, rfl, dw, od, rfl, .inl ⟨kvW es, upd_same, fun D hD => ?_⟩⟩
          have hel : es.length = bs.length := by
            have z := congrArg List.length hes
            rw [List.length_map, List.length_map] at z
            exact z
          refine lc_it (walk_keys (d := dw) (o := od) (kvs := kvW es)) (fun i H' => Kp (upd H6 dw (.frz od (.dK (kvW es)))) H' ∧ H' D = some (.lst ((es.take i).map fun e => V.ref e.2))) ⟨Kp.new hD, upd_same⟩ (fun i H' _ ⟨kk, _⟩ => kk.same _ _ rfl upd_same) (fun i x H7 H8 hi2 ⟨kk, hl7⟩ ⟨e8, ky, v, hkv, hx⟩ => ?_) (fun H7 ⟨kk, hl7⟩ => ?_)
          · subst e8
            subst hx
            obtain ⟨e, he, rfl, rfl⟩ := kvW_at hkv
            refine ⟨rfl, ?_⟩
            refine ⟨_, rfl, _, rfl, dw, _, rfl, .inl ⟨kvW es, Sum.inr e.1.1, .inr ⟨od, kk.same _ _ rfl upd_same⟩, rfl, (by rw [valW, hO e (List.mem_of_getElem? he)]; rfl)⟩, _, hl7, szt (by rw [List.length_map, List.length_take]; omega), kk.mut hD, ?_⟩
            rw [upd_same, take_snoc he, List.map_append]
            rfl
          · have ekl : (kvW es).length = es.length := by unfold kvW; rw [List.length_map]
            rw [ekl, List.take_length] at hl7
            refine ⟨kk.same _ _ rfl upd_same, ?_⟩
            have ku := Kp.unlock WU.wd rfl kk
            have nDw : D ≠ dw := fun z => by
              rw [z, upd_same] at hD
              cases hD
            have hD9 : upd H7 dw (.dK (kvW es)) D = some (.lst (es.map fun e => V.ref e.2)) := by
              rw [upd_ne nDw]
              exact hl7
            generalize upd H7 dw (.dK (kvW es)) = H9 at ku hD9 ⊢
            have W9 := WU.kp ku
            have B9 := BU.kp ku
            have u9 : H9 u2 = some (.tup [.int ((1 : Int) + nums[1] / 12 % 40), .int ((1 : Int) + nums[2] / 40 % 40)]) := ku.same _ _ rfl q_H6
            refine ⟨.tuple [.int ((1 : Int) + nums[1] / 12 % 40), .int ((1 : Int) + nums[2] / 40 % 40)], es.map dSpot, .tup (.inl (.inl u9)) (.cons (.int _) (.cons (.int _) .nil)), .lst (.inl (.inl hD9)) (dp_spots W9.tu), rfl, spots_shaped es, _, rfl, ?_⟩
            rw [spots_any, atP_same hes]
            cases ep : atP bs ((1 : Int) + nums[1] / 12 % 40) ((1 : Int) + nums[2] / 40 % 40) with
            | some b0 =>
              exact iteFo rfl ⟨bs, es, _, _, _, _, _, rfl, kp.trans (k6.trans ku), B9, W9, hes, hG, hO, by omega⟩
            | none =>
              refine iteTo rfl ?_
              refine ⟨_, rfl, _, rfl, _, rfl, dw, _, rfl, DPut.k (k := Sum.inr t) W9.wd (szt (by rw [ekl]; omega)), ?_⟩
              have eW : putK (kvW es) (Sum.inr t) (V.ref u2) = kvW (es ++ [((t, ((1 : Int) + nums[1] / 12 % 40), ((1 : Int) + nums[2] / 40 % 40)), u2)]) := by
                rw [putK_new _ (by rw [valW, ew]; rfl)]
                unfold kvW
                rw [List.map_append]
                rfl
              rw [eW]
              have B10 := B9.put (o := .dK (kvW (es ++ [((t, ((1 : Int) + nums[1] / 12 % 40), ((1 : Int) + nums[2] / 40 % 40)), u2)]))) W9.wd new
              have k10 : Kp H (upd H9 dw (.dK (kvW (es ++ [((t, ((1 : Int) + nums[1] / 12 % 40), ((1 : Int) + nums[2] / 40 % 40)), u2)])))) := (kp.trans (k6.trans ku)).mut gw
              have nuw : u2 ≠ dw := ne_of u9 W9.wd (by intro z; cases z)
              have u10 : upd H9 dw (.dK (kvW (es ++ [((t, ((1 : Int) + nums[1] / 12 % 40), ((1 : Int) + nums[2] / 40 % 40)), u2)]))) u2 = some (.tup [.int ((1 : Int) + nums[1] / 12 % 40), .int ((1 : Int) + nums[2] / 40 % 40)]) := by
                rw [upd_ne nuw]
                exact u9
              have D10 : DictAt (upd H9 dw (.dK (kvW (es ++ [((t, ((1 : Int) + nums[1] / 12 % 40), ((1 : Int) + nums[2] / 40 % 40)), u2)])))) dw (es ++ [((t, ((1 : Int) + nums[1] / 12 % 40), ((1 : Int) + nums[2] / 40 % 40)), u2)]) := by
                refine ⟨upd_same, fun e he => ?_⟩
                rcases List.mem_append.mp he with he | he
                · have q := W9.tu e he
                  rw [upd_ne (ne_of q W9.wd (by intro z; cases z))]
                  exact q
                · rw [List.mem_singleton.mp he]
                  exact u10
              obtain ⟨dx1, hx1⟩ := B10.ob
              refine ⟨_, rfl, x, dx1, _, rfl, hx1, flds_no _ _ (by decide +kernel) (by decide +kernel), _, rfl, u2, _, _, _, rfl, rfl, .inl (.inl u10), rfl, _, rfl, u2, _, _, _, rfl, rfl, .inl (.inl u10), rfl, _, rfl, x, d1, d2, bs, ((1 : Int) + nums[1] / 12 % 40), ((1 : Int) + nums[2] / 40 % 40), t, rfl, B10, by omega, tl, k10.tab _ hT, fun _ u3 H11 e11 B11 => ?_, fun y hy => ?_⟩
              · refine ⟨bs ++ [((t, ((1 : Int) + nums[1] / 12 % 40), ((1 : Int) + nums[2] / 40 % 40)), u3)], es ++ [((t, ((1 : Int) + nums[1] / 12 % 40), ((1 : Int) + nums[2] / 40 % 40)), u2)], _, _, _, _, _, rfl, KpE.kp k10 e11 ?_, B11, D10.kpE B10.pl B10.wd new e11, ?_, hG.snoc ht okp ep, hO.snoc ew, ?_⟩
                · intro b hb
                  rcases List.mem_cons.mp hb with hb | hb
                  · rw [hb]
                    exact g1
                  · rw [List.mem_singleton.mp hb]
                    exact g2
                · rw [List.map_append, List.map_append, hes]
                  rfl
                · rw [List.length_append]
                  show bs.length + 1 ≤ i + 1
                  omega
              · exfalso
                have z := atW_same hes t
                rw [ew] at z
                unfold enterV at hy
                rw [if_neg (by rw [okp]; decide), if_neg (by rw [ht]; decide), ep, if_neg (by decide), if_neg (by rw [← z]; decide)] at hy
                cases hy
      · have okp : okP ((1 : Int) + nums[1] % 3) ((1 : Int) + nums[2] % 40) = true := okP_of (by have := Int.emod_nonneg nums[1] (b := 3) (by decide); omega) (by have := Int.emod_lt_of_pos nums[1] (b := 3) (by decide); omega) (by have := Int.emod_nonneg nums[2] (b := 40) (by decide); omega) (by have := Int.emod_lt_of_pos nums[2] (b := 40) (by decide); omega)
        have WU := hDi.kp k5
        have BU := hBk.kp k5
        cases ew : atW es t with
        | some e0 =>
          refine ⟨_, rfl, _, rfl, dw, _, rfl, DGet.k (k := Sum.inr t) WU.wd, _, rfl, iteFo (by rw [valW, ew]; rfl) (iteF ?_)⟩
          exact ⟨bs, es, _, _, _, _, _, rfl, kp.trans k5, BU, WU, hes, hG, hO, by omega⟩
        | none =>
          refine ⟨_, rfl, _, rfl, dw, _, rfl, DGet.k (k := Sum.inr t) WU.wd, _, rfl, iteTo (by rw [valW, ew]; rfl) ?_⟩
          refine ⟨_, rfl, dw, _, WU.wd, trivial, fun od => ?_⟩
          refine ⟨_, rfl, dw, od, rfl, .inl ⟨kvW es, upd_same, fun D hD => ?_⟩⟩
          have hel : es.length = bs.length := by
            have z := congrArg List.length hes
            rw [List.length_map, List.length_map] at z
            exact z
          refine lc_it (walk_keys (d := dw) (o := od) (kvs := kvW es)) (fun i H' => Kp (upd H5 dw (.frz od (.dK (kvW es)))) H' ∧ H' D = some (.lst ((es.take i).map fun e => V.ref e.2))) ⟨Kp.new hD, upd_same⟩ (fun i H' _ ⟨kk, _⟩ => kk.same _ _ rfl upd_same) (fun i x H7 H8 hi2 ⟨kk, hl7⟩ ⟨e8, ky, v, hkv, hx⟩ => ?_) (fun H7 ⟨kk, hl7⟩ => ?_)
          · subst e8
            subst hx
            obtain ⟨e, he, rfl, rfl⟩ := kvW_at hkv
            refine ⟨rfl, ?_⟩
            refine ⟨_, rfl, _, rfl, dw, _, rfl, .inl ⟨kvW es, Sum.inr e.1.1, .inr ⟨od, kk.same _ _ rfl upd_same⟩, rfl, (by rw [valW, hO e (List.mem_of_getElem? he)]; rfl)⟩, _, hl7, szt (by rw [List.length_map, List.length_take]; omega), kk.mut hD, ?_⟩
            rw [upd_same, take_snoc he, List.map_append]
            rfl
          · have ekl : (kvW es).length = es.length := by unfold kvW; rw [List.length_map]
            rw [ekl, List.take_length] at hl7
            refine ⟨kk.same _ _ rfl upd_same, ?_⟩
            have ku := Kp.unlock WU.wd rfl kk
            have nDw : D ≠ dw := fun z => by
              rw [z, upd_same] at hD
              cases hD
            have hD9 : upd H7 dw (.dK (kvW es)) D = some (.lst (es.map fun e => V.ref e.2)) := by
              rw [upd_ne nDw]
              exact hl7
            generalize upd H7 dw (.dK (kvW es)) = H9 at ku hD9 ⊢
            have W9 := WU.kp ku
            have B9 := BU.kp ku
            have u9 : H9 u = some (.tup [.int ((1 : Int) + nums[1] % 3), .int ((1 : Int) + nums[2] % 40)]) := ku.same _ _ rfl q_H5
            refine ⟨.tuple [.int ((1 : Int) + nums[1] % 3), .int ((1 : Int) + nums[2] % 40)], es.map dSpot, .tup (.inl (.inl u9)) (.cons (.int _) (.cons (.int _) .nil)), .lst (.inl (.inl hD9)) (dp_spots W9.tu), rfl, spots_shaped es, _, rfl, ?_⟩
            rw [spots_any, atP_same hes]
            cases ep : atP bs ((1 : Int) + nums[1] % 3) ((1 : Int) + nums[2] % 40) with
            | some b0 =>
              exact iteFo rfl ⟨bs, es, _, _, _, _, _, rfl, kp.trans (k5.trans ku), B9, W9, hes, hG, hO, by omega⟩
            | none =>
              refine iteTo rfl ?_
              refine ⟨_, rfl, _, rfl, _, rfl, dw, _, rfl, DPut.k (k := Sum.inr t) W9.wd (szt (by rw [ekl]; omega)), ?_⟩
              have eW : putK (kvW es) (Sum.inr t) (V.ref u) = kvW (es ++ [((t, ((1 : Int) + nums[1] % 3), ((1 : Int) + nums[2] % 40)), u)]) := by
                rw [putK_new _ (by rw [valW, ew]; rfl)]
                unfold kvW
                rw [List.map_append]
                rfl
              rw [eW]
              have B10 := B9.put (o := .dK (kvW (es ++ [((t, ((1 : Int) + nums[1] % 3), ((1 : Int) + nums[2] % 40)), u)]))) W9.wd new
              have k10 : Kp H (upd H9 dw (.dK (kvW (es ++ [((t, ((1 : Int) + nums[1] % 3), ((1 : Int) + nums[2] % 40)), u)])))) := (kp.trans (k5.trans ku)).mut gw
              have nuw : u ≠ dw := ne_of u9 W9.wd (by intro z; cases z)
              have u10 : upd H9 dw (.dK (kvW (es ++ [((t, ((1 : Int) + nums[1] % 3), ((1 : Int) + nums[2] % 40)), u)]))) u = some (.tup [.int ((1 : Int) + nums[1] % 3), .int ((1 : Int) + nums[2] % 40)]) := by
                rw [upd_ne nuw]
                exact u9
              have D10 : DictAt (upd H9 dw (.dK (kvW (es ++ [((t, ((1 : Int) + nums[1] % 3), ((1 : Int) + nums[2] % 40)), u)])))) dw (es ++ [((t, ((1 : Int) + nums[1] % 3), ((1 : Int) + nums[2] % 40)), u)]) := by
                refine ⟨upd_same, fun e he => ?_⟩
                rcases List.mem_append.mp he with he | he
                · have q := W9.tu e he
                  rw [upd_ne (ne_of q W9.wd (by intro z; cases z))]
                  exact q
                · rw [List.mem_singleton.mp he]
                  exact u10
              obtain ⟨dx1, hx1⟩ := B10.ob
              refine ⟨_, rfl, x, dx1, _, rfl, hx1, flds_no _ _ (by decide +kernel) (by decide +kernel), _, rfl, u, _, _, _, rfl, rfl, .inl (.inl u10), rfl, _, rfl, u, _, _, _, rfl, rfl, .inl (.inl u10), rfl, _, rfl, x, d1, d2, bs, ((1 : Int) + nums[1] % 3), ((1 : Int) + nums[2] % 40), t, rfl, B10, by omega, tl, k10.tab _ hT, fun _ u3 H11 e11 B11 => ?_, fun y hy => ?_⟩
              · refine ⟨bs ++ [((t, ((1 : Int) + nums[1] % 3), ((1 : Int) + nums[2] % 40)), u3)], es ++ [((t, ((1 : Int) + nums[1] % 3), ((1 : Int) + nums[2] % 40)), u)], _, _, _, _, _, rfl, KpE.kp k10 e11 ?_, B11, D10.kpE B10.pl B10.wd new e11, ?_, hG.snoc ht okp ep, hO.snoc ew, ?_⟩
                · intro b hb
                  rcases List.mem_cons.mp hb with hb | hb
                  · rw [hb]
                    exact g1
                  · rw [List.mem_singleton.mp hb]
                    exact g2
                · rw [List.map_append, List.map_append, hes]
                  rfl
                · rw [List.length_append]
                  show bs.length + 1 ≤ i + 1
                  omega
              · exfalso
                have z := atW_same hes t
                rw [ew] at z
                unfold enterV at hy
                rw [if_neg (by rw [okp]; decide), if_neg (by rw [ht]; decide), ep, if_neg (by decide), if_neg (by rw [← z]; decide)] at hy
                cases hy
    · rintro σ H' ⟨bs, es, y4, y5, y6, y7, y8, rfl, kp, hBk, hDi, hes, hG, hO, hbl⟩
      refine ⟨_, rfl, _, rfl, szl (by show 2 ≤ 100000; decide), fun u nu => ?_⟩
      generalize h_H3 : upd H' u _ = H3
      have k_H3 : Kp H' H3 := by rw [← h_H3]; exact .new nu
      have q_H3 := (congrFun h_H3 u).symm.trans upd_same
      clear h_H3
      exact k u x d1 d2 dw bs es H3 (kp.trans k_H3) nx g1 g2 gw new (hBk.kp k_H3) (hDi.kp k_H3) hes hG hO (by omega) (.inl (.inl q_H3))
/-! ### _law_some_words -/
theorem at_strs_mod {ys : List Str} {m : Int} (h : (0 : Int) < ((ys.map V.str).length : Int)) : ∃ y ∈ ys, atI (ys.map V.str) (m % ((ys.map V.str).length : Int)) = some (.str y) := by
  rw [List.length_map] at h ⊢
  have h0 : 0 ≤ m % (ys.length : Int) := Int.emod_nonneg _ (by omega)
  have h1 : m % (ys.length : Int) < (ys.length : Int) := Int.emod_lt_of_pos _ h
  have hj : (m % (ys.length : Int)).toNat < ys.length := by omega
  refine ⟨ys[(m % (ys.length : Int)).toNat], List.getElem_mem _, ?_⟩
  have e := atI_nat (xs := ys.map V.str) (j := (m % (ys.length : Int)).toNat) (v := .str ys[(m % (ys.length : Int)).toNat]) (by rw [List.getElem?_map, List.getElem?_eq_getElem hj]; rfl)
  rw [Int.toNat_of_nonneg h0] at e
  exact e
def sp_l_some_words (K : PySem.W.Frag) : Sp := fun vs H Q _ => ∃ (dw : Addr) (es : List Ent) (c most : Int), vs = [.ref dw, .int c, .int most] ∧ DictAt H dw es ∧ es.length < 64 ∧ (∀ e ∈ es, isW e.1.1 = true) ∧ 0 ≤ most ∧ most ≤ 1000 ∧
  ∀ (ws : List Str) (r : Addr) (H' : Hp), (∀ t ∈ ws, isW t = true) → ws.length ≤ 41 → H r = none → Kp H H' → H' r = some (.lst (ws.map V.str)) → Q (.ref r) H'
theorem ok_l_some_words (T : Txt K mg) : FnOk P w K mg base CX0 3 T.f_l_some_words T.d_l_some_words ["_law_words", "_law_cell_here", "_law_most"] (sp_l_some_words K) := by
  refine T.F_l_some_words.ok sc_l_some_words (fun vs H Q E h => ?_) (fun cdv A outer s H vs Q E hr h => ?_)
  · obtain ⟨dw, es, c, most, rfl, _⟩ := h
    rfl
  · obtain ⟨dw, es, c, most, rfl, hD, hel, hew, hm0, hm1, k⟩ := h
    refine ⟨_, (pss_cons (ps_set (i := 3) sc_l_some_words.nd rfl (by first | exact Or.inl rfl | exact Or.inr rfl) (pe_call (ok_l_row T) (hr.mono (by decide)) rfl T.g_l_row T.F_l_row.kp T.b_l_row .nil pass0 (pa_cons (pv 1) (pa_cons pe_int (pa_cons pe_int pa_nil)))))
      (pss_cons (ps_set (i := 4) sc_l_some_words.nd rfl (by first | exact Or.inl rfl | exact Or.inr rfl) (pe_callB (call_sortedD rfl) (by rfl) T.m_sorted PyProof.Rows.boot_sorted (pa_cons (pv 0) pa_nil)))
      (pss_cons (ps_set (i := 5) sc_l_some_words.nd rfl (by first | exact Or.inl rfl | exact Or.inr rfl) (pe_lst pa_nil))
      (pss_cons (ps_for PassesOwn.never rfl (pi_list (pe_slice sl_list (pv 3) (po_some pe_int) (po_some (pe_op op_add pe_int (pe_op op_mod (pe_ix ix_list (pv 3) pe_int (fun _ _ => rfl)) (pe_op op_add (pv 2) pe_int)))))) (pg_name (i := 6) sc_l_some_words.nd rfl (by first | exact Or.inl rfl | exact Or.inr rfl))
      (pss_cons (ps_set (i := 7) sc_l_some_words.nd rfl (by first | exact Or.inl rfl | exact Or.inr rfl) (pe_call (ok_l_word T) (hr.mono (by decide)) rfl T.g_l_word T.F_l_word.kp T.b_l_word .nil pass0 (pa_cons (pe_op op_add (pe_op op_mul (pv 6) pe_int) (pe_ix ix_list (pv 3) pe_int (fun _ _ => rfl))) pa_nil)))
      (pss_cons (ps_if (PW.pt (pw_and (pt_cmpR op_gt (pe_op op_mod (pv 6) pe_int) pe_int (nomark _)) (pw_and1 (pt_cmpR op_gt (pe_callB call_len_seq (by rfl) T.m_len PySem.boot_len (pa_cons (pv 4) pa_nil)) pe_int (nomark _)))))
      (pss_one (ps_set (i := 7) sc_l_some_words.nd rfl (by first | exact Or.inl rfl | exact Or.inr rfl) (pe_ix ix_list (pv 4) (pe_op op_mod (pe_op op_fdiv (pv 6) pe_int) (pe_callB call_len_seq (by rfl) T.m_len PySem.boot_len (pa_cons (pv 4) pa_nil))) (fun _ _ => rfl))))
      pss_nil)
      (pss_one (ps_expr (pe_bm PySem.F.plainAttrs_list PySem.F.slot_list_append PySem.F.type_list_append mt_append (pv 5) (pa_cons (pv 7) pa_nil)))))))
      (pss_one (ps_ret (pv 5))))))), ?_⟩
    refine ⟨_, rfl, _, _, _, rfl, by decide, by decide, by decide, by decide, fun nums p1 H1 n1 k1 q1 ⟨hl, hb⟩ => ?_⟩
    have h0 : 0 < nums.length := by omega
    have D1 := hD.kp k1
    refine ⟨_, rfl, dw, _, es.map fun e => e.1.1, rfl, .inl D1.wd, (by unfold kvW; rw [List.map_map, List.map_map]; rfl), by rw [List.length_map]; exact hel, fun ys p2 hperm _ n2 => ?_⟩
    generalize h_H2 : upd H1 p2 _ = H2
    have k_H2 : Kp H1 H2 := by rw [← h_H2]; exact .new n2
    have q_H2 := (congrFun h_H2 p2).symm.trans upd_same
    clear h_H2
    have hyw : ∀ y ∈ ys, isW y = true := fun y hy => by
      obtain ⟨e, he, rfl⟩ := List.mem_map.mp (hperm.mem_iff.mp hy)
      exact hew e he
    have hyl : ys.length ≤ 64 := by
      have z := hperm.length_eq
      rw [List.length_map] at z
      omega
    refine ⟨Nat.zero_le _, fun r nr => ?_⟩
    generalize h_H3 : upd H2 r _ = H3
    have k_H3 : Kp H2 H3 := by rw [← h_H3]; exact .new nr
    have q_H3 := (congrFun h_H3 r).symm.trans upd_same
    clear h_H3
    have q3 := k_H3.same _ _ rfl (k_H2.same _ _ rfl q1)
    refine ⟨_, rfl, _, rfl, _, rfl, p1, _, _, _, rfl, rfl, .inl (.inl q3), at_int (j := 0) h0, _, rfl, _, _, rfl, rfl, _, _, rfl, rfl, (by show (0 : Int) < most + 1; omega), _, _, rfl, rfl, _, rfl, p1, _, rfl, .inl (.inl q3), fun p4 n4 => ?_⟩
    obtain ⟨ms, em, hms, hml⟩ := cutV_map (lo := some 1) (hi := some ((1 : Int) + nums[0] % (most + 1))) (ns := nums)
    generalize h_H4 : upd H3 p4 _ = H4
    have k_H4 : Kp H3 H4 := by rw [← h_H4]; exact .new n4
    have q_H4 := (congrFun h_H4 p4).symm.trans upd_same
    clear h_H4
    have q4 : H4 p4 = some (.lst (ms.map V.int)) := by rw [← em]; exact q_H4
    have k4 := ((k1.trans k_H2).trans k_H3).trans k_H4
    have r4 := k_H4.same _ _ rfl q_H3
    have y4 := k_H4.same _ _ rfl (k_H3.same _ _ rfl q_H2)
    have c4 := k_H4.same _ _ rfl q3
    have nr0 : H r = none := k1.free _ (k_H2.free _ nr)
    have n41 : p4 ≠ r := fun z => by
      rw [z, q_H3] at n4
      cases n4
    have nyr : p2 ≠ r := fun z => by
      rw [z] at q_H2
      rw [q_H2] at nr
      cases nr
    have n1r : p1 ≠ r := fun z => by
      rw [← z, k_H2.same _ _ rfl q1] at nr
      cases nr
    refine ⟨p4, rfl, ⟨_, .inl (.inl q4)⟩, for_list (K := K) (a := p4) (xs := ms.map V.int) (fun i σ H' => ∃ (ws : List Str) (y6 y7 : Option V), σ = [some (.ref dw), some (.int c), some (.int most), some (.ref p1), some (.ref p2), some (.ref r), y6, y7] ∧ Kp H H' ∧ H' p4 = some (.lst (ms.map V.int)) ∧ H' p2 = some (.lst (ys.map V.str)) ∧ H' p1 = some (.lst (nums.map V.int)) ∧ H' r = some (.lst (ws.map V.str)) ∧ ws.length = i ∧ ∀ t ∈ ws, isW t = true)
      ⟨[], none, none, rfl, k4, q4, y4, c4, r4, rfl, by simp⟩ (fun i σ H' _ ⟨_, _, _, _, _, h, _⟩ => .inl (.inl h)) ?_ ?_⟩
    · rintro i x σ H' hi ⟨ws, y6, y7, rfl, kp, hp4, hp2, hp1, hr', hwl, hww⟩
      obtain ⟨z, _, rfl, hz⟩ := mem_ints hi
      have hil : i < ms.length := (List.getElem?_eq_some_iff.mp hz).1
      refine ⟨_, rfl, _, _, rfl, rfl, .inr ⟨by decide, by decide⟩, _, rfl, p1, _, _, _, rfl, rfl, .inl (.inl hp1), at_int (j := 0) h0, _, _, rfl, rfl, _, rfl, fun t H5 ht k5 => ?_⟩
      have r5 := k5.same _ _ rfl hr'
      have y5 := k5.same _ _ rfl hp2
      refine ⟨_, rfl, _, _, rfl, rfl, (by show (0 : Int) < 3; decide), _, _, rfl, rfl, _, rfl, iteD (fun c1 => ?_) (fun c1 => iteF ?_)⟩
      · refine ⟨_, rfl, p2, _, rfl, .inl (.inl (.inl y5)), _, _, rfl, rfl, _, rfl, iteD (fun c2 => ?_) (fun c2 => ?_)⟩
        · obtain ⟨y, hy, hat⟩ := at_strs_mod (ys := ys) (m := z / 3) c2
          refine ⟨_, rfl, _, rfl, _, _, rfl, rfl, ⟨by decide, by decide⟩, _, rfl, p2, _, rfl, .inl (.inl (.inl y5)), _, _, rfl, rfl, c2, p2, _, _, _, rfl, rfl, .inl (.inl y5), hat, ?_⟩
          refine ⟨_, rfl, .inl ⟨rfl, _, SqL.of r5⟩, _, rfl, r, _, _, rfl, rfl, r5, szt (by rw [List.length_map]; omega), ?_⟩
          refine ⟨ws ++ [y], _, _, rfl, (kp.trans k5).mut nr0, ?_, ?_, ?_, ?_, by rw [List.length_append, hwl]; rfl, fun v hv => ?_⟩
          · rw [upd_ne n41]
            exact k5.same _ _ rfl hp4
          · rw [upd_ne nyr]
            exact y5
          · rw [upd_ne n1r]
            exact k5.same _ _ rfl hp1
          · rw [upd_same, List.map_append]
            rfl
          · rcases List.mem_append.mp hv with hv | hv
            · exact hww v hv
            · rw [List.mem_singleton.mp hv]
              exact hyw y hy
        · refine ⟨_, rfl, .inl ⟨rfl, _, SqL.of r5⟩, _, rfl, r, _, _, rfl, rfl, r5, szt (by rw [List.length_map]; omega), ?_⟩
          refine ⟨ws ++ [t], _, _, rfl, (kp.trans k5).mut nr0, ?_, ?_, ?_, ?_, by rw [List.length_append, hwl]; rfl, fun v hv => ?_⟩
          · rw [upd_ne n41]
            exact k5.same _ _ rfl hp4
          · rw [upd_ne nyr]
            exact y5
          · rw [upd_ne n1r]
            exact k5.same _ _ rfl hp1
          · rw [upd_same, List.map_append]
            rfl
          · rcases List.mem_append.mp hv with hv | hv
            · exact hww v hv
            · rw [List.mem_singleton.mp hv]
              exact ht
      · refine ⟨_, rfl, .inl ⟨rfl, _, SqL.of r5⟩, _, rfl, r, _, _, rfl, rfl, r5, szt (by rw [List.length_map]; omega), ?_⟩
        refine ⟨ws ++ [t], _, _, rfl, (kp.trans k5).mut nr0, ?_, ?_, ?_, ?_, by rw [List.length_append, hwl]; rfl, fun v hv => ?_⟩
        · rw [upd_ne n41]
          exact k5.same _ _ rfl hp4
        · rw [upd_ne nyr]
          exact y5
        · rw [upd_ne n1r]
          exact k5.same _ _ rfl hp1
        · rw [upd_same, List.map_append]
          rfl
        · rcases List.mem_append.mp hv with hv | hv
          · exact hww v hv
          · rw [List.mem_singleton.mp hv]
            exact ht
    · rintro σ H' ⟨ws, y6, y7, rfl, kp, hp4, hp2, hp1, hr', hwl, hww⟩
      rw [List.length_map] at hwl
      exact ⟨_, rfl, k ws r H' hww (by omega) nr0 kp hr'⟩
/-! ### _law_signs_of -/
def sp_l_signs_of (K : PySem.W.Frag) : Sp := fun vs H Q _ => ∃ (dw a : Addr) (es : List Ent) (ws : List Str), vs = [.ref dw, .ref a] ∧ DictAt H dw es ∧ SqL K H a (ws.map V.str) ∧ ws.length ≤ 1000 ∧ (∀ t ∈ ws, isW t = true) ∧
  ∀ (r : Addr) (H' : Hp), H r = none → Kp H H' → H' r = some (.lst ((signsV es ws).map V.int)) → Q (.ref r) H'
theorem ok_l_signs_of (T : Txt K mg) : FnOk P w K mg base CX0 1 T.f_l_signs_of T.d_l_signs_of ["_law_words", "_law_some"] (sp_l_signs_of K) := by
  refine T.F_l_signs_of.ok sc_l_signs_of (fun vs H Q E h => ?_) (fun cdv A outer s H vs Q E hr h => ?_)
  · obtain ⟨dw, a, es, ws, rfl, _⟩ := h
    rfl
  · obtain ⟨dw, a, es, ws, rfl, hD, hS, hl, hw, k⟩ := h
    have hu := hu_of hr
    refine ⟨_, (pss_cons (ps_set (i := 2) sc_l_signs_of.nd rfl (by first | exact Or.inl rfl | exact Or.inr rfl) (pe_lst pa_nil))
      (pss_cons (ps_for PassesOwn.never rfl (pi_list (pv 1)) (pg_name (i := 3) sc_l_signs_of.nd rfl (by first | exact Or.inl rfl | exact Or.inr rfl))
      (pss_one (ps_if (pt_cmp (pc_din hu (pv 3) (pv 0)))
      (pss_one (ps_expr (pe_bm PySem.F.plainAttrs_list PySem.F.slot_list_extend PySem.F.type_list_extend mt_extend (pv 2) (pa_cons (pe_lst (pa_cons (pe_ix ix_seq (pe_dget hu (pv 0) (pv 3) (fun _ _ => rfl)) pe_int (fun _ _ => rfl)) (pa_cons (pe_ix ix_seq (pe_dget hu (pv 0) (pv 3) (fun _ _ => rfl)) pe_int (fun _ _ => rfl)) pa_nil))) pa_nil))))
      (pss_cons (ps_expr (pe_bm PySem.F.plainAttrs_list PySem.F.slot_list_extend PySem.F.type_list_extend mt_extend (pv 2) (pa_cons (pe_lc (own := [("_law_letter", 4)]) (g := gName 4) (tt := tYes) (by rfl) sc_l_signs_of.nd (pi_str (pv 3)) (blkOk_by (own := [("_law_letter", 4)]) (N := ["_law_words", "_law_some", "_law_signs", "_law_word_here", "_law_letter"]) (sc := defScope s_l_signs_of) (by decide +kernel)) (fun _ _ _ _ _ => (pg_name (i := 4) sc_l_signs_of.nd rfl (by first | exact Or.inl rfl | exact Or.inr rfl))) (fun _ _ _ _ _ => pts_nil) (fun _ _ _ _ _ => (pe_op op_add pe_int (tbmK K rfl (pe_bm PySem.F.plainAttrs_str PySem.F.slot_str_index PySem.F.type_str_index mt_sindex pe_str (pa_cons (pv 4) pa_nil)))))) pa_nil)))
      (pss_one (ps_expr (pe_bm PySem.F.plainAttrs_list PySem.F.slot_list_append PySem.F.type_list_append mt_append (pv 2) (pa_cons pe_int pa_nil))))))))
      (pss_one (ps_ret (pv 2))))), ?_⟩
    refine ⟨Nat.zero_le _, fun r nr => ?_⟩
    generalize h_H1 : upd H r _ = H1
    have k_H1 : Kp H H1 := by rw [← h_H1]; exact .new nr
    have q_H1 := (congrFun h_H1 r).symm.trans upd_same
    clear h_H1
    refine ⟨_, rfl, a, rfl, ⟨_, k_H1.sqL hS⟩, for_list (K := K) (a := a) (xs := ws.map V.str) (fun i σ H' => ∃ (y3 y4 : Option V), σ = [some (.ref dw), some (.ref a), some (.ref r), y3, y4] ∧ Kp H H' ∧ H' r = some (.lst ((signsV es (ws.take i)).map V.int)))
      ⟨none, none, rfl, k_H1, q_H1⟩ (fun i σ H' _ ⟨_, _, _, kp, _⟩ => kp.sqL hS) ?_ ?_⟩
    · rintro i x σ H' hi ⟨y3, y4, rfl, kp, hr'⟩
      obtain ⟨t, ht, rfl, hti⟩ := mem_strs hi
      have hil : i < ws.length := (List.getElem?_eq_some_iff.mp hti).1
      have D' := hD.kp kp
      have c := hw t ht
      have hlen : (signsV es (ws.take i)).length ≤ 13000 := by
        have z := signsV_len (bs := es) (ws := ws.take i) fun u hu => hw u (List.mem_of_mem_take hu)
        rw [List.length_take] at z
        omega
      have hsn : signsV es (ws.take (i + 1)) = signsV es (ws.take i) ++ signs1 es t := by rw [take_snoc hti, signsV_snoc]
      refine ⟨_, rfl, _, rfl, dw, _, rfl, DGet.k (k := Sum.inr t) D'.wd, _, rfl, ?_⟩
      cases e : atW es t with
      | some b =>
        have hs1 : signs1 es t = [b.1.2.1, b.1.2.2] := by unfold signs1; rw [e]
        have hb : b ∈ es := List.mem_of_find?_eq_some e
        have tb := D'.tu b hb
        have dg : DGet H' dw (kV (Sum.inr t)) (some (.ref b.2)) := .inl ⟨kvW es, Sum.inr t, .inl D'.wd, rfl, (by rw [valW, e]; rfl)⟩
        refine iteTo (by rw [valW, e]; rfl) ?_
        refine ⟨_, rfl, .inl ⟨rfl, _, SqL.of hr'⟩, _, rfl, _, rfl, dw, _, rfl, dg, .inr (.inl ⟨b.2, _, _, _, rfl, rfl, .inl (.inl tb), rfl, _, rfl, _, rfl, dw, _, rfl, dg, .inr (.inl ⟨b.2, _, _, _, rfl, rfl, .inl (.inl tb), rfl, szl (by show 2 ≤ 100000; decide), fun q nq => ?_⟩)⟩)⟩
        generalize h_H2 : upd H' q _ = H2
        have k_H2 : Kp H' H2 := by rw [← h_H2]; exact .new nq
        have q_H2 := (congrFun h_H2 q).symm.trans upd_same
        clear h_H2
        refine ⟨r, q, _, _, rfl, rfl, k_H2.same _ _ rfl hr', q_H2, szl (by rw [List.length_map]; show _ + 2 ≤ 100000; omega), ?_⟩
        refine ⟨_, _, rfl, (kp.trans k_H2).mut nr, ?_⟩
        rw [upd_same, hsn, hs1, List.map_append]
        rfl
      | none =>
        have hs1 : signs1 es t = letS t ++ [67] := by unfold signs1; rw [e]
        refine iteFo (by rw [valW, e]; rfl) ?_
        have hl12 := (isW_len c).2
        have et : t.length = t.cps.toList.length := by simp [Str.length]
        have esz : t.cps.size = t.cps.toList.length := by simp
        refine ⟨_, rfl, .inl ⟨rfl, _, SqL.of hr'⟩, _, rfl, t, rfl, fun D hD2 => ?_⟩
        refine lc_it (walk_str (z := t)) (fun j H'' => Kp H' H'' ∧ H'' D = some (.lst (((t.cps.toList.take j).map let1).map V.int))) ⟨Kp.new hD2, upd_same⟩ (fun _ _ _ _ => trivial) (fun j x H3 H4 hj ⟨k3, hl3⟩ ⟨e1, c1, hc, hx⟩ => ?_) (fun H3 ⟨k3, hl3⟩ => ?_)
        · subst e1
          subst hx
          have hc2 : t.cps.toList[j]? = some c1 := by rw [Array.getElem?_toList]; exact hc
          obtain ⟨b1, b2⟩ := isW_signs c c1 (List.mem_of_getElem? hc2)
          obtain ⟨rest, e⟩ := abc_ix (c1 - 97) (by omega)
          rw [show 97 + (c1 - 97) = c1 by omega] at e
          refine ⟨rfl, ?_⟩
          refine ⟨rfl, _, rfl, abc, _, c1 - 97, rest, rfl, rfl, e, _, _, rfl, rfl, _, hl3, szt (by rw [List.length_map, List.length_map, List.length_take]; omega), k3.mut hD2, ?_⟩
          rw [upd_same, take_snoc hc2, List.map_append, List.map_append]
          rfl
        · rw [esz, List.take_length] at hl3
          have hr3 := k3.same _ _ rfl hr'
          refine ⟨r, D, _, _, rfl, rfl, hr3, hl3, szl (by rw [List.length_map, List.length_map, List.length_map]; omega), ?_⟩
          refine ⟨_, rfl, .inl ⟨rfl, _, SqL.of upd_same⟩, r, _, _, rfl, rfl, upd_same, szt (by rw [List.length_append, List.length_map, List.length_map, List.length_map]; omega), ?_⟩
          refine ⟨_, _, rfl, ((kp.trans k3).mut nr).mut nr, ?_⟩
          rw [upd_same, hsn, hs1]
          unfold letS
          rw [List.map_append, List.map_append]
          simp only [List.append_assoc]
          rfl
    · rintro σ H' ⟨y3, y4, rfl, kp, hr'⟩
      rw [List.length_map, List.take_length] at hr'
      exact ⟨_, rfl, k r H' nr kp hr'⟩
/-! ### the rows of the law's map, sorted -/
theorem op_catTK {X : Cx} (K : PySem.W.Frag) (h : X.K = K) : OpR X (binaryOp .Add) (rCatT K) := h ▸ op_catT
theorem dp_dS {K : PySem.W.Frag} {H : Hp} {a : Addr} {ws : List Str} (h : SqL K H a (ws.map V.str)) : Dp K H (.ref a) (dS ws) := .lst h (dp_strs ws)
mutual
theorem Dp.putK {K : PySem.W.Frag} {H : Hp} {p : Addr} {o : HO} {od : Obj} {kvs : List (Key × V)} (hp : H p = some (.frz od (.dK kvs))) : ∀ {d : PyData} {v : V}, Dp K H v d → Dp K (upd H p o) v d
  | _, _, .non => .non
  | _, _, .bl b => .bl b
  | _, _, .int i => .int i
  | _, _, .str x => .str x
  | _, _, .lst h a => by
    refine .lst ?_ (DpAll.putK hp a)
    rcases h with (h | ⟨ob, h⟩) | h
    · exact .inl (.inl (by rw [upd_ne (ne_of h hp (by intro z; cases z))]; exact h))
    · exact .inl (.inr ⟨ob, by rw [upd_ne (ne_of h hp (by intro z; cases z))]; exact h⟩)
    · exact .inr h
  | _, _, .tup h a => by
    refine .tup ?_ (DpAll.putK hp a)
    rcases h with (h | ⟨ob, h⟩) | h
    · exact .inl (.inl (by rw [upd_ne (ne_of h hp (by intro z; cases z))]; exact h))
    · exact .inl (.inr ⟨ob, by rw [upd_ne (ne_of h hp (by intro z; cases z))]; exact h⟩)
    · exact .inr h
theorem DpAll.putK {K : PySem.W.Frag} {H : Hp} {p : Addr} {o : HO} {od : Obj} {kvs : List (Key × V)} (hp : H p = some (.frz od (.dK kvs))) : ∀ {ds : List PyData} {vs : List V}, DpAll K H vs ds → DpAll K (upd H p o) vs ds
  | _, _, .nil => .nil
  | _, _, .cons h t => .cons (Dp.putK hp h) (DpAll.putK hp t)
end
theorem trips_same {bs es : List Ent} (h : es.map (·.1) = bs.map (·.1)) : es.map dTrip = bs.map dTrip := by
  have q : ∀ xs : List Ent, xs.map dTrip = (xs.map (·.1)).map fun b => PyData.tuple [.int b.2.1, .int b.2.2, .str b.1] := fun xs => by
    rw [List.map_map]
    rfl
  rw [q, q, h]
theorem dn_words {bs : List Ent} (h : bs.length ≤ 1000) : Dn 4 (.list (wordsD bs)) := by
  refine .lst (fun d hd => ?_) ?_
  · unfold wordsD sortD at hd
    obtain ⟨b, _, rfl⟩ := List.mem_map.mp (List.mem_mergeSort.mp hd)
    refine .tup (fun d hd => ?_) (by show 3 ≤ 10000; decide)
    simp only [List.mem_cons, List.not_mem_nil, or_false] at hd
    rcases hd with rfl | rfl | rfl
    · exact .int _ _
    · exact .int _ _
    · exact .str _ _
  · unfold wordsD sortD
    rw [List.length_mergeSort, List.length_map]
    omega
/-! ### what is told -/
def sp_l_told (K : PySem.W.Frag) (P C : Addr) : Sp := fun vs H Q _ => ∃ (p d1 d2 a : Addr) (bs : List Ent) (ws : List Str), vs = [.ref p, .ref a] ∧ BookAt C H p d1 d2 bs ∧ SqL K H a (ws.map V.str) ∧ ws.length ≤ 1000 ∧ (∀ t ∈ ws, t.length ≤ 1000) ∧ GxR.TabG H P ∧
  ((∀ t ∈ ws, isW t = true) → ∀ (r : Addr) (H' : Hp), H r = none → Kp H H' → H' r = some (.lst ((signsV bs ws).map V.int)) → Q (.ref r) H') ∧ ((∃ t ∈ ws, isW t = false) → ∀ H', Kp H H' → Q (.str "word") H')
theorem ok_l_told (T : Txt K mg) (TB : GxR.TabB base mg T.c_tab T.P_tab) : FnOk P w K mg base CX0 8 T.f_l_told T.d_l_told ["_law_book_here", "_law_words"] (sp_l_told K T.P_tab T.a_Phrasebook) := by
  refine T.F_l_told.ok sc_l_told (fun vs H Q E h => ?_) (fun cdv A outer s H vs Q E hr h => ?_)
  · obtain ⟨p, d1, d2, a, bs, ws, rfl, _⟩ := h
    rfl
  · obtain ⟨p, d1, d2, a, bs, ws, rfl, hB, hS, hl, hw, hT, k, kE⟩ := h
    refine ⟨_, (pss_cons (ps_set (i := 2) sc_l_told.nd rfl (by first | exact Or.inl rfl | exact Or.inr rfl) pe_non)
      (pss_cons (ps_try_as (i := 3) rfl rfl sc_l_told.nd rfl rfl ⟨rfl, by decide, Or.inl T.g_MastError⟩ takes0
      (fun W pn xe tk _ => (pss_one (ps_set (i := 2) sc_l_told.nd rfl (by first | exact Or.inl rfl | exact Or.inr rfl) (pe_callS (ok_p_signs_of T TB) (hr.mono (by decide)) rfl T.g_p_signs_of T.F_p_signs_of.kp T.b_p_signs_of (fun σ => passAt tk σ) (pa_cons (pv 0) (pa_cons (pv 1) pa_nil))))))
      (fun a oe cls d pn hz hf => (pss_one (ps_if (pt_val (pe_callB (call_isX K rfl hz hf) (by rfl) T.m_isinstance (by decide +kernel) (pa_cons (pv 3) (pa_cons (pe_glob (v := .ref T.a_BadWord) rfl T.g_BadWord rfl) pa_nil))))
      (pss_one (ps_set (i := 2) sc_l_told.nd rfl (by first | exact Or.inl rfl | exact Or.inr rfl) pe_str))
      pss_nil))))
      (pss_one (ps_ret (pv 2))))), ?_⟩
    refine ⟨_, rfl, _, rfl, p, d1, d2, a, bs, ws, rfl, hB, hS, hl, hw, hT, fun c r H1 nr k1 q1 => ⟨_, rfl, k c r H1 nr k1 q1⟩, fun c H1 k1 => ?_⟩
    have xc : ExcC K T.a_BadWord := ⟨T.ga_BadWord, T.gg_BadWord, T.b_BadWord, T.h_BadWord, T.cl_BadWord, T.oc_get, T.oc_tak, T.mo_BadWord⟩
    refine ⟨true, PySem.W.exm_ref T.b_MastError T.h_MastError T.t_MastError T.s_BadWord_MastError, fun _ e ne => ?_, fun q => Bool.noConfusion q⟩
    refine ⟨_, rfl, _, _, _, true, rfl, .inl rfl, xc, rfl, .own _, kit_sub T.i_BadWord T.t_BadWord T.s_BadWord_BadWord, _, rfl, iteTo rfl ?_⟩
    exact ⟨_, rfl, kE c H1 k1⟩
/-! ### one word more -/
def ebb : Str := "ebbing"
theorem ebb_w : isW ebb = true := by decide +kernel
theorem signs_one (bs : List Ent) (t : Str) : signsV bs [t] = signs1 bs t := by
  unfold signsV
  simp
theorem signs_free {bs : List Ent} {t : Str} (h : atW bs t = none) : signsV bs [t] = letS t ++ [67] := by
  rw [signs_one]
  unfold signs1
  rw [h]
theorem signs_last {bs : List Ent} {t : Str} {a l : Int} {u : Addr} (h : atW bs t = none) : signsV (bs ++ [((t, a, l), u)]) [t] = [a, l] := by
  rw [signs_one]
  unfold signs1
  have e : atW (bs ++ [((t, a, l), u)]) t = some ((t, a, l), u) := by
    unfold atW at *
    rw [List.find?_append, h]
    simp
  rw [e]
theorem pigeon : ∀ (n : Nat) (zs : List Int), (∀ j : Nat, j < n → ((j : Int) + 1) ∈ zs) → n ≤ zs.length
  | 0, _, _ => Nat.zero_le _
  | n + 1, zs, h => by
    have hn := h n (by omega)
    have ih := pigeon n (zs.filter fun z => decide (z ≠ (n : Int) + 1)) (fun j hj => by
      rw [List.mem_filter]
      exact ⟨h j (by omega), decide_eq_true (by omega)⟩)
    have lt : (zs.filter fun z => decide (z ≠ (n : Int) + 1)).length < zs.length := by
      rw [List.length_filter_lt_length_iff_exists]
      exact ⟨_, hn, by simp⟩
    omega
def freeL (es : List Ent) (j : Nat) : Bool := !(atP es 40 (1 + (j : Int))).isSome
theorem free_some {es : List Ent} (h : es.length ≤ 9) : ∃ j, j < 40 ∧ freeL es j = true := by
  by_cases c : ∃ j, j < 40 ∧ freeL es j = true
  · exact c
  · exfalso
    have q : ∀ j : Nat, j < 10 → ((j : Int) + 1) ∈ es.map fun e => e.1.2.2 := by
      intro j hj
      have z : freeL es j = false := by
        cases e : freeL es j with
        | false => rfl
        | true => exact (c ⟨j, by omega, e⟩).elim
      unfold freeL at z
      have z2 : (atP es 40 (1 + (j : Int))).isSome = true := by simpa using z
      obtain ⟨e, he⟩ := Option.isSome_iff_exists.mp z2
      have h1 := List.mem_of_find?_eq_some he
      have h2 := List.find?_some he
      have h3 : e.1.2.1 = 40 ∧ e.1.2.2 = 1 + (j : Int) := of_decide_eq_true h2
      exact List.mem_map.mpr ⟨e, h1, by rw [h3.2]; omega⟩
    have := pigeon 10 _ q
    rw [List.length_map] at this
    omega
def spotsN (es : List Ent) (i : Nat) : List Nat := (List.range i).filter (freeL es)
theorem spotsN_yes {es : List Ent} {i : Nat} (h : freeL es i = true) : spotsN es (i + 1) = spotsN es i ++ [i] := by
  unfold spotsN
  rw [List.range_succ, List.filter_append]
  simp [h]
theorem spotsN_no {es : List Ent} {i : Nat} (h : freeL es i = false) : spotsN es (i + 1) = spotsN es i := by
  unfold spotsN
  rw [List.range_succ, List.filter_append]
  simp [h]
def dSp (j : Nat) : PyData := .tuple [.int 40, .int (1 + (j : Int))]
theorem nl_sps {l : List Nat} : ∀ d ∈ l.map dSp, Nl d := by
  intro d hd
  obtain ⟨p, _, rfl⟩ := List.mem_map.mp hd
  exact .tup (by intro d hd; simp only [List.mem_cons, List.not_mem_nil, or_false] at hd; rcases hd with rfl | rfl <;> exact .int _)
theorem drop_lastP {bs : List Ent} {t : Str} {a l : Int} {u : Addr} (h : atP bs a l = none) : dropK (kvP (bs ++ [((t, a, l), u)])) [Sum.inl a, Sum.inl l] = kvP bs := by
  unfold dropK kvP
  rw [List.map_append, List.filter_append]
  have e1 : (bs.map fun b : Ent => (([Sum.inl b.1.2.1, Sum.inl b.1.2.2] : List Key), V.str b.1.1)).filter (fun kv => decide (kv.1 ≠ [Sum.inl a, Sum.inl l])) = bs.map fun b : Ent => (([Sum.inl b.1.2.1, Sum.inl b.1.2.2] : List Key), V.str b.1.1) := by
    rw [List.filter_eq_self]
    intro kv hkv
    obtain ⟨b, hb, rfl⟩ := List.mem_map.mp hkv
    refine decide_eq_true fun z => ?_
    have z1 : b.1.2.1 = a ∧ b.1.2.2 = l := by simpa using z
    unfold atP at h
    have := List.find?_eq_none.mp h b hb
    simp [z1] at this
  rw [e1]
  simp
theorem drop_lastW {bs : List Ent} {t : Str} {a l : Int} {u : Addr} (h : atW bs t = none) : dropK (kvW (bs ++ [((t, a, l), u)])) (Sum.inr t) = kvW bs := by
  unfold dropK kvW
  rw [List.map_append, List.filter_append]
  have e1 : (bs.map fun b : Ent => ((Sum.inr b.1.1 : Key), V.ref b.2)).filter (fun kv => decide (kv.1 ≠ Sum.inr t)) = bs.map fun b : Ent => ((Sum.inr b.1.1 : Key), V.ref b.2) := by
    rw [List.filter_eq_self]
    intro kv hkv
    obtain ⟨b, hb, rfl⟩ := List.mem_map.mp hkv
    refine decide_eq_true fun z => ?_
    have z1 : b.1.1 = t := by simpa using z
    unfold atW at h
    have := List.find?_eq_none.mp h b hb
    simp [z1] at this
  rw [e1]
  simp
theorem KpE.keep {H H' : Hp} {p d1 d2 a : Addr} {C : Addr} {bs : List Ent} {o : HO} (k : KpE [d1, d2] H H') (b : BookAt C H p d1 d2 bs) (h : H a = some o) (t : isT o = false) (n1 : ∀ kvs, o ≠ .dT kvs) (n2 : ∀ kvs, o ≠ .dK kvs) : H' a = some o := by
  refine k.same a o t (fun m => ?_) h
  rcases List.mem_cons.mp m with rfl | m
  · rw [b.pl] at h
    exact n1 _ (Option.some.inj h).symm
  · rw [List.mem_singleton.mp m, b.wd] at h
    exact n2 _ (Option.some.inj h).symm
theorem isSome_same {es bs : List Ent} (h : es.map (·.1) = bs.map (·.1)) {t : Str} (e : atW es t = none) : atW bs t = none := by
  have z := atW_same h t
  rw [e] at z
  cases q : atW bs t with
  | none => rfl
  | some b => rw [q] at z; cases z
def sp_l_later (K : PySem.W.Frag) (P C : Addr) : Sp := fun vs H Q _ => ∃ (p d1 d2 dw : Addr) (bs es : List Ent), vs = [.ref p, .ref dw] ∧ BookAt C H p d1 d2 bs ∧ DictAt H dw es ∧ es.map (·.1) = bs.map (·.1) ∧ GoodB bs ∧ OwnW es ∧ bs.length ≤ 9 ∧ d2 ≠ dw ∧ atW es ebb = none ∧ GxR.TabG H P ∧
  ∀ H', KpE [d1, d2] H H' → BookAt C H' p d1 d2 bs → Q (.bl true) H'
theorem ok_l_later (T : Txt K mg) (TB : GxR.TabB base mg T.c_tab T.P_tab) : FnOk P w K mg base CX0 9 T.f_l_later T.d_l_later ["_law_book_here", "_law_words"] (sp_l_later K T.P_tab T.a_Phrasebook) := by
  refine T.F_l_later.ok sc_l_later (fun vs H Q E h => ?_) (fun cdv A outer s H vs Q E hr h => ?_)
  · obtain ⟨p, d1, d2, dw, bs, es, rfl, _⟩ := h
    rfl
  · obtain ⟨p, d1, d2, dw, bs, es, rfl, hB, hD, hes, hG, hO, hbl, new, hfree, hT, k⟩ := h
    have hu := hu_of hr
    have hel : es.length ≤ 9 := by
      have z := congrArg List.length hes
      rw [List.length_map, List.length_map] at z
      omega
    have hfb : atW bs ebb = none := isSome_same hes hfree
    refine ⟨_, (pss_cons (ps_set (i := 2) sc_l_later.nd rfl (by first | exact Or.inl rfl | exact Or.inr rfl) (pe_call (ok_l_signs_of T) (hr.mono (by decide)) rfl T.g_l_signs_of T.F_l_signs_of.kp T.b_l_signs_of .nil pass0 (pa_cons pe_dnewK (pa_cons (pe_lst (pa_cons pe_str pa_nil)) pa_nil))))
      (pss_cons (ps_set (i := 3) sc_l_later.nd rfl (by first | exact Or.inl rfl | exact Or.inr rfl) (pe_ix ix_list (pe_lc (own := [("_law_at", 4)]) (g := gName 4) (by rfl) sc_l_later.nd (pi_range2 (by rfl) T.m_range (pa_cons pe_int (pa_cons pe_int pa_nil))) (blkOk_by (own := [("_law_at", 4)]) (N := ["_law_book_here", "_law_words", "_law_letter_signs", "_law_spot", "_law_at", "_law_one"]) (sc := defScope s_l_later) (by decide +kernel)) (fun _ _ _ _ _ => (pg_name (i := 4) sc_l_later.nd rfl (by first | exact Or.inl rfl | exact Or.inr rfl))) (fun _ _ _ _ _ => (pts_one (pt_cmpR (op_notInDK K rfl (hu65 hr)) (pe_tup (pa_cons pe_int (pa_cons (pv 4) pa_nil))) (pe_lock (pe_lc (own := [("_law_one", 5)]) (g := gName 5) (tt := tYes) (by rfl) sc_l_later.nd (pi_keys (pv 1)) (blkOk_by (own := [("_law_one", 5)]) (N := ["_law_book_here", "_law_words", "_law_letter_signs", "_law_spot", "_law_at", "_law_one"]) (by first | rfl | (with_unfolding_all rfl))) (fun _ _ _ _ _ => (pg_name (i := 5) sc_l_later.nd rfl (by first | exact Or.inl rfl | exact Or.inr rfl))) (fun _ _ _ _ _ => pts_nil) (fun _ _ _ _ _ => (pe_dget hu (pv 1) (pv 5) (fun _ _ => rfl))))) rfl))) (fun _ _ _ _ _ => (pe_tup (pa_cons pe_int (pa_cons (pv 4) pa_nil))))) pe_int (fun _ _ => rfl)))
      (pss_cons (ps_if (pt_not (pt_val (pe_call (ok_l_like T 4) (hr.mono (by decide)) rfl T.g_l_like T.F_l_like.kp T.b_l_like .nil pass0 (pa_cons (pe_call (ok_l_told T TB) (hr.mono (by decide)) rfl T.g_l_told T.F_l_told.kp T.b_l_told .nil pass0 (pa_cons (pv 0) (pa_cons (pe_lst (pa_cons pe_str pa_nil)) pa_nil))) (pa_cons (pv 2) pa_nil)))))
      (pss_one (ps_ret pe_bl))
      pss_nil)
      (pss_cons (ps_expr (pe_meth (pv 0) T.cl_Phrasebook T.M_p_Phrasebook_enter (ok_p_Phrasebook_enter T TB) (hr.mono (by decide)) T.b_p_Phrasebook_enter .nil passL (pa_cons (pe_ix ix_tup (pv 3) pe_int (fun _ _ => rfl)) (pa_cons (pe_ix ix_tup (pv 3) pe_int (fun _ _ => rfl)) (pa_cons pe_str pa_nil)))))
      (pss_cons (ps_if (pt_not (pt_val (pe_call (ok_l_like T 4) (hr.mono (by decide)) rfl T.g_l_like T.F_l_like.kp T.b_l_like .nil pass0 (pa_cons (pe_call (ok_l_told T TB) (hr.mono (by decide)) rfl T.g_l_told T.F_l_told.kp T.b_l_told .nil pass0 (pa_cons (pv 0) (pa_cons (pe_lst (pa_cons pe_str pa_nil)) pa_nil))) (pa_cons (pe_callTy call_list_of (by rfl) T.m_list (by decide +kernel) (pa_cons (pv 3) pa_nil)) pa_nil)))))
      (pss_one (ps_ret pe_bl))
      pss_nil)
      (pss_cons (ps_expr (pe_meth (pv 0) T.cl_Phrasebook T.M_p_Phrasebook_strike (ok_p_Phrasebook_strike T) (hr.mono (by decide)) T.b_p_Phrasebook_strike .nil passL (pa_cons (pe_ix ix_tup (pv 3) pe_int (fun _ _ => rfl)) (pa_cons (pe_ix ix_tup (pv 3) pe_int (fun _ _ => rfl)) pa_nil))))
      (pss_one (ps_ret (pe_call (ok_l_like T 4) (hr.mono (by decide)) rfl T.g_l_like T.F_l_like.kp T.b_l_like .nil pass0 (pa_cons (pe_call (ok_l_told T TB) (hr.mono (by decide)) rfl T.g_l_told T.F_l_told.kp T.b_l_told .nil pass0 (pa_cons (pv 0) (pa_cons (pe_lst (pa_cons pe_str pa_nil)) pa_nil))) (pa_cons (pv 2) pa_nil))))))))))), ?_⟩
    intro de hde
    generalize h_H1 : upd H de _ = H1
    have k_H1 : Kp H H1 := by rw [← h_H1]; exact .new hde
    have q_H1 := (congrFun h_H1 de).symm.trans upd_same
    clear h_H1
    refine ⟨szl (by show 1 ≤ 100000; decide), fun l1 nl1 => ?_⟩
    generalize h_H2 : upd H1 l1 _ = H2
    have k_H2 : Kp H1 H2 := by rw [← h_H2]; exact .new nl1
    have q_H2 := (congrFun h_H2 l1).symm.trans upd_same
    clear h_H2
    have wl : ∀ t ∈ [ebb], isW t = true := fun t ht => by rw [List.mem_singleton.mp ht]; exact ebb_w
    have ll : ∀ t ∈ [ebb], t.length ≤ 1000 := fun t ht => by rw [List.mem_singleton.mp ht]; decide +kernel
    refine ⟨de, l1, [], [ebb], rfl, ⟨k_H2.same _ _ rfl q_H1, by simp⟩, .inl (.inl q_H2), by decide, wl, fun r3 H3 nr3 k3 q3 => ?_⟩
    rw [signs_free (bs := []) rfl] at q3
    have k03 := (k_H1.trans k_H2).trans k3
    have D3 := hD.kp k03
    have B3 := hB.kp k03
    refine ⟨1, 41, rfl, ⟨by decide, by decide, by decide, by decide⟩, fun D hDn => ?_⟩
    refine lc_range (lo := 1) (n := 40) (fun i H' => ∃ rs : List V, Kp H3 H' ∧ H' D = some (.lst rs) ∧ DpAll K H' rs ((spotsN es i).map dSp)) ⟨[], Kp.new hDn, upd_same, .nil⟩ (fun i H' hi ⟨rs, kp, hDl, hd⟩ => ?_) (fun H4 ⟨rs, k4, hD4, hd4⟩ => ?_)
    · refine ⟨rfl, ?_⟩
      refine ⟨_, rfl, szl (by show 2 ≤ 100000; decide), fun t nt => ?_⟩
      generalize h_H5 : upd H' t _ = H5
      have k_H5 : Kp H' H5 := by rw [← h_H5]; exact .new nt
      have q_H5 := (congrFun h_H5 t).symm.trans upd_same
      clear h_H5
      have W5 := (D3.kp kp).kp k_H5
      refine ⟨dw, _, W5.wd, trivial, fun od => ?_⟩
      refine ⟨_, rfl, dw, od, rfl, .inl ⟨kvW es, upd_same, fun D2 hD2 => ?_⟩⟩
      refine lc_it (walk_keys (d := dw) (o := od) (kvs := kvW es)) (fun i H' => Kp (upd H5 dw (.frz od (.dK (kvW es)))) H' ∧ H' D2 = some (.lst ((es.take i).map fun e => V.ref e.2))) ⟨Kp.new hD2, upd_same⟩ (fun i H' _ ⟨kk, _⟩ => kk.same _ _ rfl upd_same) (fun i x H7 H8 hi2 ⟨kk, hl7⟩ ⟨e8, ky, v, hkv, hx⟩ => ?_) (fun H7 ⟨kk, hl7⟩ => ?_)
      · subst e8
        subst hx
        obtain ⟨e, he, rfl, rfl⟩ := kvW_at hkv
        refine ⟨rfl, ?_⟩
        refine ⟨_, rfl, _, rfl, dw, _, rfl, .inl ⟨kvW es, Sum.inr e.1.1, .inr ⟨od, kk.same _ _ rfl upd_same⟩, rfl, (by rw [valW, hO e (List.mem_of_getElem? he)]; rfl)⟩, _, hl7, szt (by rw [List.length_map, List.length_take]; omega), kk.mut hD2, ?_⟩
        rw [upd_same, take_snoc he, List.map_append]
        rfl
      · have ekl : (kvW es).length = es.length := by unfold kvW; rw [List.length_map]
        rw [ekl, List.take_length] at hl7
        refine ⟨kk.same _ _ rfl upd_same, ?_⟩
        have ku := Kp.unlock W5.wd rfl kk
        have nDw : D2 ≠ dw := fun z => by
          rw [z, upd_same] at hD2
          cases hD2
        have hD9 : upd H7 dw (.dK (kvW es)) D2 = some (.lst (es.map fun e => V.ref e.2)) := by
          rw [upd_ne nDw]
          exact hl7
        generalize upd H7 dw (.dK (kvW es)) = H9 at ku hD9 ⊢
        have W9 := W5.kp ku
        have u9 := ku.same _ _ rfl q_H5
        refine ⟨.tuple [.int 40, .int (1 + (i : Int))], es.map dSpot, .tup (.inl (.inl u9)) (.cons (.int _) (.cons (.int _) .nil)), .lst (.inl (.inl hD9)) (dp_spots W9.tu), rfl, spots_shaped es, _, rfl, ?_⟩
        rw [spots_any]
        have kp9 := (kp.trans k_H5).trans ku
        have k59 := k_H5.trans ku
        cases hf : freeL es i with
        | false =>
          refine iteFo hf ⟨rs, kp9, k59.same _ _ rfl hDl, ?_⟩
          rw [spotsN_no hf]
          exact k59.dpAll hd
        | true =>
          refine iteTo hf ⟨_, rfl, szl (by show 2 ≤ 100000; decide), fun u nu => ?_⟩
          generalize h_Ha : upd H9 u _ = Ha
          have k_Ha : Kp H9 Ha := by rw [← h_Ha]; exact .new nu
          have q_Ha := (congrFun h_Ha u).symm.trans upd_same
          clear h_Ha
          have hDa := k_Ha.same _ _ rfl (k59.same _ _ rfl hDl)
          have hlr := DpAll.len hd
          rw [List.length_map] at hlr
          have hls : (spotsN es i).length ≤ i := by
            unfold spotsN
            exact Nat.le_trans (List.length_filter_le _ _) (by rw [List.length_range]; exact Nat.le_refl _)
          refine ⟨rs, hDa, szt (by omega), _, (kp9.trans k_Ha).mut hDn, upd_same, ?_⟩
          rw [spotsN_yes hf, List.map_append]
          refine DpAll.mut hDa ?_ (DpAll.snoc (k_Ha.dpAll (k59.dpAll hd)) (.tup (.inl (.inl q_Ha)) (.cons (.int _) (.cons (.int _) .nil))))
          intro d hd
          rw [← List.map_append] at hd
          exact nl_sps d hd
    obtain ⟨j0, hj0, hf0⟩ := free_some hel
    obtain ⟨j, jr, ej⟩ : ∃ j jr, spotsN es 40 = j :: jr := by
      cases e : spotsN es 40 with
      | nil =>
        exfalso
        unfold spotsN at e
        have z := List.filter_eq_nil_iff.mp e j0 (List.mem_range.mpr hj0)
        exact z hf0
      | cons j jr => exact ⟨j, jr, rfl⟩
    have hjm : j ∈ spotsN es 40 := by rw [ej]; exact List.mem_cons_self
    have hjf : j < 40 ∧ freeL es j = true := by
      unfold spotsN at hjm
      rw [List.mem_filter, List.mem_range] at hjm
      exact hjm
    rw [ej] at hd4
    obtain ⟨x0, hx0, dx0⟩ := DpAll.get hd4 (i := 0) (d := dSp j) rfl
    obtain ⟨t0, rfl, sq0⟩ : ∃ t0, x0 = .ref t0 ∧ SqT K H4 t0 [.int 40, .int (1 + (j : Int))] := by
      cases dx0 with
      | tup h t =>
        cases t with | cons h1 t =>
        cases t with | cons h2 t =>
        cases t
        cases h1
        cases h2
        exact ⟨_, rfl, h⟩
    refine ⟨D, _, _, _, rfl, rfl, .inl (.inl hD4), atI_nat (j := 0) hx0, ?_⟩
    have k04 := k03.trans k4
    have hpl : atP bs 40 (1 + (j : Int)) = none := by
      have z := atP_same hes 40 (1 + (j : Int))
      have y := hjf.2
      unfold freeL at y
      rw [z] at y
      cases q : atP bs 40 (1 + (j : Int)) with
      | none => rfl
      | some b => rw [q] at y; cases y
    have dmz : Dm 4 (dI (letS ebb ++ [67])) := dm_dI (by decide +kernel)
    have q4 := k4.same _ _ rfl q3
    refine ⟨_, rfl, szl (by show 1 ≤ 100000; decide), fun l5 nl5 => ?_⟩
    generalize h_H5 : upd H4 l5 _ = H5
    have k_H5 : Kp H4 H5 := by rw [← h_H5]; exact .new nl5
    have q_H5 := (congrFun h_H5 l5).symm.trans upd_same
    clear h_H5
    have k05 := k04.trans k_H5
    refine ⟨p, d1, d2, l5, bs, [ebb], rfl, hB.kp k05, .inl (.inl q_H5), by decide, ll, k05.tab _ hT, fun _ r6 H6 nr6 k6 q6 => ?_, fun ⟨t, ht, hn⟩ => by rw [wl t ht] at hn; cases hn⟩
    rw [signs_free hfb] at q6
    refine ⟨_, rfl, _, _, _, rfl, dp_dI (.inl (.inl q6)), dp_dI (.inl (.inl ((k_H5.trans k6).same _ _ rfl q4))), dmz.dn, fun H7 k7 => ⟨_, rfl, iteFo rfl ?_⟩⟩
    have k47 := (k_H5.trans k6).trans k7
    have k07 := k04.trans k47
    have B7 := hB.kp k07
    obtain ⟨dx, hp7⟩ := B7.ob
    have sq7 := k47.sqT sq0
    refine ⟨_, rfl, p, dx, _, rfl, hp7, flds_no _ _ (by decide +kernel) (by decide +kernel), _, rfl, t0, _, _, _, rfl, rfl, sq7, rfl, _, rfl, t0, _, _, _, rfl, rfl, sq7, rfl, p, d1, d2, bs, 40, 1 + (j : Int), ebb, rfl, B7, by omega, by decide +kernel, k07.tab _ hT, fun hv u H8 k8 B8 => ?_, fun y hy => ?_⟩
    rotate_left
    · exfalso
      unfold enterV at hy
      rw [if_neg (by rw [okP_of (by decide) (by decide) (by omega) (by omega)]; decide), if_neg (by rw [ebb_w]; decide), hpl, if_neg (by decide), hfb, if_neg (by decide)] at hy
      cases hy
    have sq8 : SqT K H8 t0 [.int 40, .int (1 + (j : Int))] := by
      rcases sq7 with (h | ⟨ob, h⟩) | h
      · exact .inl (.inl (k8.keep B7 h rfl (by intro _ z; cases z) (by intro _ z; cases z)))
      · exact .inl (.inr ⟨ob, k8.keep B7 h rfl (by intro _ z; cases z) (by intro _ z; cases z)⟩)
      · exact .inr h
    have q8 := k8.keep B7 (k47.same _ _ rfl q4) rfl (by intro _ z; cases z) (by intro _ z; cases z)
    have T8 := k8.tab _ (k07.tab _ hT)
    refine ⟨_, rfl, szl (by show 1 ≤ 100000; decide), fun l9 nl9 => ?_⟩
    generalize h_H9 : upd H8 l9 _ = H9
    have k_H9 : Kp H8 H9 := by rw [← h_H9]; exact .new nl9
    have q_H9 := (congrFun h_H9 l9).symm.trans upd_same
    clear h_H9
    refine ⟨p, d1, d2, l9, _, [ebb], rfl, B8.kp k_H9, .inl (.inl q_H9), by decide, ll, k_H9.tab _ T8, fun _ rA HA nrA kA qA => ?_, fun ⟨t, ht, hn⟩ => by rw [wl t ht] at hn; cases hn⟩
    rw [signs_last hfb] at qA
    have k8A := k_H9.trans kA
    refine ⟨_, rfl, t0, _, rfl, .inr (k8A.sqT sq8), fun lB nlB => ?_⟩
    generalize h_HB : upd HA lB _ = HB
    have k_HB : Kp HA HB := by rw [← h_HB]; exact .new nlB
    have q_HB := (congrFun h_HB lB).symm.trans upd_same
    clear h_HB
    refine ⟨_, _, dI [40, 1 + (j : Int)], rfl, dp_dI (.inl (.inl (k_HB.same _ _ rfl qA))), dp_dI (.inl (.inl q_HB)), (dm_dI (by show 2 ≤ 10000; decide)).dn, fun HC kC => ⟨_, rfl, iteFo rfl ?_⟩⟩
    have k8C := (k8A.trans k_HB).trans kC
    have BC := B8.kp k8C
    obtain ⟨dxC, hpC⟩ := BC.ob
    have sqC := k8C.sqT sq8
    refine ⟨_, rfl, p, dxC, _, rfl, hpC, flds_no _ _ (by decide +kernel) (by decide +kernel), _, rfl, t0, _, _, _, rfl, rfl, sqC, rfl, _, rfl, t0, _, _, _, rfl, rfl, sqC, rfl, p, d1, d2, _, 40, 1 + (j : Int), rfl, BC, fun hv => ?_, fun _ hn => ?_, fun _ b hb => ?_⟩
    · rw [okP_of (by decide) (by decide) (by omega) (by omega)] at hv
      cases hv
    · exfalso
      unfold atP at hn hpl
      rw [List.find?_append, hpl] at hn
      simp at hn
    · have eb : b = ((ebb, 40, 1 + (j : Int)), u) := by
        unfold atP at hb hpl
        rw [List.find?_append, hpl] at hb
        simp at hb
        exact hb.symm
      subst eb
      refine ⟨bs, drop_lastP hpl, drop_lastW hfb, fun e he => List.mem_append_left _ he, fun HD kD BD => ?_⟩
      have qD := kD.keep BC (k8C.same _ _ rfl q8) rfl (by intro _ z; cases z) (by intro _ z; cases z)
      have TD := kD.tab _ (k8C.tab _ T8)
      refine ⟨_, rfl, szl (by show 1 ≤ 100000; decide), fun lE nlE => ?_⟩
      generalize h_HE : upd HD lE _ = HE
      have k_HE : Kp HD HE := by rw [← h_HE]; exact .new nlE
      have q_HE := (congrFun h_HE lE).symm.trans upd_same
      clear h_HE
      refine ⟨p, d1, d2, lE, bs, [ebb], rfl, BD.kp k_HE, .inl (.inl q_HE), by decide, ll, k_HE.tab _ TD, fun _ rF HF nrF kF qF => ?_, fun ⟨t, ht, hn⟩ => by rw [wl t ht] at hn; cases hn⟩
      rw [signs_free hfb] at qF
      refine ⟨_, rfl, _, _, _, rfl, dp_dI (.inl (.inl qF)), dp_dI (.inl (.inl ((k_HE.trans kF).same _ _ rfl qD))), dmz.dn, fun HG kG => ?_⟩
      have kDG := (k_HE.trans kF).trans kG
      exact k HG (((((KpE.of k07).trans k8).trans (KpE.of k8C)).trans kD).trans (KpE.of kDG)) (BD.kp kDG)
/-! ### law -/
def sp_law (K : PySem.W.Frag) (P : Addr) : Sp := fun vs H Q _ => ∃ (a : Addr) (ns : List Int), vs = [.ref a] ∧ SqL K H a (ns.map V.int) ∧ ns.length ≤ 63 ∧ GxR.TabG H P ∧ ∀ H', Q (.bl true) H'
def okS (t : Str) : Prop := PyData.strOk t = true ∧ t.length ≤ 1000
theorem okS_w {t : Str} (h : isW t = true) : okS t := by
  refine ⟨?_, by have := isW_len h; omega⟩
  unfold PyData.strOk
  rw [← Array.all_toList, List.all_eq_true]
  intro c hc
  have := isW_signs h c hc
  exact decide_eq_true (by omega)
theorem lay_strs : ∀ {ws : List Str}, (∀ t ∈ ws, okS t) → PyData.canLayAll0 (ws.map PyData.str) = true ∧ PyData.depthAll (ws.map PyData.str) ≤ 1
  | [], _ => by simp [PyData.canLayAll0, PyData.depthAll]
  | t :: r, h => by
    have ih := lay_strs (ws := r) fun x hx => h x (List.mem_cons_of_mem _ hx)
    have ht := (h t List.mem_cons_self).1
    refine ⟨by simp [PyData.canLayAll0, PyData.canLay0, ih.1, ht], ?_⟩
    have := ih.2
    simp only [List.map_cons, PyData.depthAll, PyData.depth]
    omega
theorem shaped_strs {ws : List Str} (h : ∀ t ∈ ws, okS t) : SeqAt.shaped (dS ws) = true := by
  have ⟨h1, h2⟩ := lay_strs h
  show (PyData.canLay0 (.list (ws.map PyData.str)) && decide (PyData.depth (.list (ws.map PyData.str)) ≤ 64)) = true
  rw [Bool.and_eq_true]
  refine ⟨by simp only [PyData.canLay0]; exact h1, decide_eq_true ?_⟩
  simp only [PyData.depth]
  omega
theorem eqv_strs {ws : List Str} (h : ∀ t ∈ ws, okS t) : PyData.eqv (dS ws) (dS ws) = true := SeqAt.eqv_refl _ (SeqAt.canLay_of_shaped (shaped_strs h))
theorem five (z : Int) : ∃ v : Str, atI [V.str "", V.str "Tide", V.str "a b", V.str "abcdefghijklm", V.str "t1"] (z % 5) = some (.str v) ∧ isW v = false ∧ okS v := by
  have h0 : 0 ≤ z % 5 := Int.emod_nonneg _ (by decide)
  have h1 : z % 5 < 5 := Int.emod_lt_of_pos _ (by decide)
  generalize z % 5 = m at h0 h1
  have hm : m = 0 ∨ m = 1 ∨ m = 2 ∨ m = 3 ∨ m = 4 := by omega
  rcases hm with rfl | rfl | rfl | rfl | rfl
  · exact ⟨_, rfl, by decide +kernel, by decide +kernel, by decide +kernel⟩
  · exact ⟨_, rfl, by decide +kernel, by decide +kernel, by decide +kernel⟩
  · exact ⟨_, rfl, by decide +kernel, by decide +kernel, by decide +kernel⟩
  · exact ⟨_, rfl, by decide +kernel, by decide +kernel, by decide +kernel⟩
  · exact ⟨_, rfl, by decide +kernel, by decide +kernel, by decide +kernel⟩
theorem cutV_strs {lo hi : Option Int} {ns : List Str} : ∃ ms : List Str, cutV (ns.map V.str) lo hi = ms.map V.str ∧ (∀ m ∈ ms, m ∈ ns) ∧ ms.length ≤ ns.length := by
  unfold cutV
  rw [List.length_map]
  refine ⟨(ns.drop _).take _, by rw [List.map_take, List.map_drop], fun m h => List.mem_of_mem_drop (List.mem_of_mem_take h), ?_⟩
  rw [List.length_take, List.length_drop]
  omega
/-- what is due of some words: signs, or a refusal -/
def Due (K : PySem.W.Frag) (es : List Ent) (ws : List Str) (H : Hp) (v : V) : Prop :=
  (∃ r, v = .ref r ∧ (∀ t ∈ ws, isW t = true) ∧ H r = some (.lst ((signsV es ws).map V.int))) ∨ (v = .str "word" ∧ ∃ t ∈ ws, isW t = false)
theorem Due.kp {K : PySem.W.Frag} {es : List Ent} {ws : List Str} {H H' : Hp} {v : V} (d : Due K es ws H v) (k : Kp H H') : Due K es ws H' v := by
  rcases d with ⟨r, e, h, q⟩ | d
  · exact .inl ⟨r, e, h, k.same _ _ rfl q⟩
  · exact .inr d
theorem atW_eq {bs es : List Ent} (h : es.map (·.1) = bs.map (·.1)) (t : Str) : (atW es t).map (·.1) = (atW bs t).map (·.1) := by
  have q : ∀ xs : List Ent, (atW xs t).map (·.1) = (xs.map (·.1)).find? fun b => decide (b.1 = t) := fun xs => by
    unfold atW
    rw [List.find?_map]
    rfl
  rw [q, q, h]
theorem signs_same {bs es : List Ent} (h : es.map (·.1) = bs.map (·.1)) (ws : List Str) : signsV es ws = signsV bs ws := by
  unfold signsV
  congr 1
  funext t
  unfold signs1
  have z := atW_eq h t
  cases e1 : atW es t with
  | none =>
    rw [e1] at z
    cases e2 : atW bs t with
    | none => rfl
    | some b => rw [e2] at z; cases z
  | some b1 =>
    rw [e1] at z
    cases e2 : atW bs t with
    | none => rw [e2] at z; cases z
    | some b2 =>
      rw [e2] at z
      have y : b1.1 = b2.1 := Option.some.inj z
      show [b1.1.2.1, b1.1.2.2] = [b2.1.2.1, b2.1.2.2]
      rw [y]
theorem ok_law (T : Txt K mg) (TB : GxR.TabB base mg T.c_tab T.P_tab) {f : Addr} {fd : FuncData} (F : Fun K "law" "law" s_law f fd) : FnOk P w K mg base CX0 12 f fd ["_law_script"] (sp_law K T.P_tab) := by
  refine F.ok sc_law (fun vs H Q E h => ?_) (fun cdv A outer s H vs Q E hr h => ?_)
  · obtain ⟨a, ns, rfl, _⟩ := h
    rfl
  · obtain ⟨a, ns, rfl, hS, hlen, hT, k⟩ := h
    have hu := hu_of hr
    refine ⟨_, (pss_cons (ps_asg (pe_call (ok_l_book T TB) (hr.mono (by decide)) rfl T.g_l_book T.F_l_book.kp T.b_l_book .nil pass0 (pa_cons (pv 0) (pa_cons pe_int pa_nil))) (pg_tup (n := 2) rfl (pgs_cons (pg_name (i := 1) sc_law.nd rfl (by first | exact Or.inl rfl | exact Or.inr rfl)) (pgs_cons (pg_name (i := 2) sc_law.nd rfl (by first | exact Or.inl rfl | exact Or.inr rfl)) pgs_nil))))
      (pss_cons (ps_set (i := 3) sc_law.nd rfl (by first | exact Or.inl rfl | exact Or.inr rfl) (pe_call (ok_l_some_words T) (hr.mono (by decide)) rfl T.g_l_some_words T.F_l_some_words.kp T.b_l_some_words .nil pass0 (pa_cons (pv 2) (pa_cons (pe_call (ok_l_cell T) (hr.mono (by decide)) rfl T.g_l_cell T.F_l_cell.kp T.b_l_cell .nil pass0 (pa_cons (pv 0) (pa_cons pe_int pa_nil))) (pa_cons pe_int pa_nil)))))
      (pss_cons (ps_set (i := 4) sc_law.nd rfl (by first | exact Or.inl rfl | exact Or.inr rfl) (pe_call (ok_l_cell T) (hr.mono (by decide)) rfl T.g_l_cell T.F_l_cell.kp T.b_l_cell .nil pass0 (pa_cons (pv 0) (pa_cons pe_int pa_nil))))
      (pss_cons (ps_set (i := 5) sc_law.nd rfl (by first | exact Or.inl rfl | exact Or.inr rfl) (pe_call (ok_l_signs_of T) (hr.mono (by decide)) rfl T.g_l_signs_of T.F_l_signs_of.kp T.b_l_signs_of .nil pass0 (pa_cons (pv 2) (pa_cons (pv 3) pa_nil))))
      (Evl.pss_cut (ps_if (pt_cmpR op_eq (pe_op op_mod (pv 4) pe_int) pe_int (nomark _))
      (pss_cons (ps_set (i := 6) sc_law.nd rfl (by first | exact Or.inl rfl | exact Or.inr rfl) (pe_op op_mod (pe_op op_fdiv (pv 4) pe_int) (pe_op op_add (pe_callB call_len_seq (by rfl) T.m_len PySem.boot_len (pa_cons (pv 3) pa_nil)) pe_int)))
      (pss_cons (ps_set (i := 3) sc_law.nd rfl (by first | exact Or.inl rfl | exact Or.inr rfl) (pe_op op_cat (pe_op op_cat (pe_slice sl_list (pv 3) po_none (po_some (pv 6))) (pe_lst (pa_cons (pe_ix ix_tup (pe_tup (pa_cons pe_str (pa_cons pe_str (pa_cons pe_str (pa_cons pe_str (pa_cons pe_str pa_nil)))))) (pe_op op_mod (pe_op op_fdiv (pv 4) pe_int) pe_int) (fun _ _ => rfl)) pa_nil))) (pe_slice sl_list (pv 3) (po_some (pv 6)) po_none)))
      (pss_one (ps_set (i := 5) sc_law.nd rfl (by first | exact Or.inl rfl | exact Or.inr rfl) pe_str))))
      pss_nil)
      (pss_cons (ps_for PassesOwn.never rfl (pi_range1 (by rfl) T.m_range (pa_cons pe_int pa_nil)) (pg_name (i := 7) sc_law.nd rfl (by first | exact Or.inl rfl | exact Or.inr rfl))
      (pss_cons (ps_set (i := 8) sc_law.nd rfl (by first | exact Or.inl rfl | exact Or.inr rfl) (pe_callTy call_list_of (by rfl) T.m_list (by decide +kernel) (pa_cons (pv 3) pa_nil)))
      (pss_cons (ps_set (i := 9) sc_law.nd rfl (by first | exact Or.inl rfl | exact Or.inr rfl) (pe_call (ok_l_told T TB) (hr.mono (by decide)) rfl T.g_l_told T.F_l_told.kp T.b_l_told .nil pass0 (pa_cons (pv 1) (pa_cons (pv 8) pa_nil))))
      (pss_cons (ps_if (PW.pt (pw_or (pt_not (pt_val (pe_call (ok_l_like T 4) (hr.mono (by decide)) rfl T.g_l_like T.F_l_like.kp T.b_l_like .nil pass0 (pa_cons (pv 9) (pa_cons (pv 5) pa_nil))))) (pw_or1 (pt_cmpR (op_neD hr.units) (pv 8) (pv 3) (nomark _)))))
      (pss_one (ps_ret pe_bl))
      pss_nil)
      (pss_one (ps_if (pt_val (pe_callB call_isi (by rfl) T.m_isinstance (by decide +kernel) (pa_cons (pv 9) (pa_cons (pe_bltn (v := .ty "list") (by rfl) T.m_list (by decide +kernel) rfl) pa_nil))))
      (pss_one (ps_expr (pe_bm PySem.F.plainAttrs_list PySem.F.slot_list_append PySem.F.type_list_append mt_append (pv 9) (pa_cons pe_int pa_nil))))
      pss_nil))))))
      (Evl.pss_cut (ps_if (PW.pt (pw_and (pt_cmp (pc_dnotin hu pe_str (pv 2))) (pw_and1 (pt_not (pt_val (pe_call (ok_l_later T TB) (hr.mono (by decide)) rfl T.g_l_later T.F_l_later.kp T.b_l_later .nil pass0 (pa_cons (pv 1) (pa_cons (pv 2) pa_nil))))))))
      (pss_one (ps_ret pe_bl))
      pss_nil)
      (pss_one (ps_ret (pe_call (ok_l_like T 4) (hr.mono (by decide)) rfl T.g_l_like T.F_l_like.kp T.b_l_like .nil pass0 (pa_cons (pe_meth0 (pv 1) T.cl_Phrasebook T.M_p_Phrasebook_words (ok_p_Phrasebook_words T) (hr.mono (by decide)) T.b_p_Phrasebook_words .nil pass0) (pa_cons (pe_callB (cr_sortedD (hu65 hr)) (by rfl) T.m_sorted PyProof.Rows.boot_sorted (pa_cons (pe_lock (pe_lc (own := [("_law_word_here", 10)]) (g := gName 10) (tt := tYes) (by rfl) sc_law.nd (pi_keys (pv 2)) (blkOk_by (own := [("_law_word_here", 10)]) (N := ["_law_script", "_law_book_here", "_law_words", "_law_some", "_law_pick", "_law_due", "_law_at", "_law_turn", "_law_handed", "_law_found", "_law_word_here"]) (sc := defScope s_law) (by decide +kernel)) (fun _ _ _ _ _ => (pg_name (i := 10) sc_law.nd rfl (by first | exact Or.inl rfl | exact Or.inr rfl))) (fun _ _ _ _ _ => pts_nil) (fun _ _ _ _ _ => (pe_op (op_catTK K rfl) (pe_dget hu (pv 2) (pv 10) (fun _ _ => rfl)) (pe_tup (pa_cons (pv 10) pa_nil)))))) pa_nil)) pa_nil)))))))))))), ?_⟩
    refine ⟨_, rfl, a, ns, 0, rfl, hS, by decide, hT, fun x p d1 d2 dw bs es H1 k1 gp g1 g2 gw new B1 D1 hes hG hO hbl hx => ?_⟩
    refine ⟨x, _, rfl, hx, rfl, _, _, rfl, _, _, rfl, rfl, ?_⟩
    have hel : es.length ≤ 9 := by
      have z := congrArg List.length hes
      rw [List.length_map, List.length_map] at z
      omega
    have hew : ∀ e ∈ es, isW e.1.1 = true := fun e he => by
      have z : e.1 ∈ bs.map (·.1) := by
        rw [← hes]
        exact List.mem_map.mpr ⟨e, he, rfl⟩
      obtain ⟨b, hb, eb⟩ := List.mem_map.mp z
      rw [← eb]
      exact (hG.ok b hb).1
    refine ⟨_, rfl, _, rfl, a, ns, 2, rfl, k1.sqL hS, by decide, dw, es, _, _, rfl, D1, by omega, hew, by decide, by decide, fun ws r2 H2 hw hwl nr2 k2 q2 => ?_⟩
    refine ⟨_, rfl, a, ns, 3, rfl, (k1.trans k2).sqL hS, by decide, ?_⟩
    refine ⟨_, rfl, _, rfl, dw, r2, es, ws, rfl, D1.kp k2, .inl (.inl q2), by omega, hw, fun r3 H3 nr3 k3 q3 => ?_⟩
    have k13 := k2.trans k3
    refine ⟨fun σ' H' => ∃ (us : List Str) (r : Addr) (due : V) (y6 : Option V), σ' = [some (.ref a), some (.ref p), some (.ref dw), some (.ref r), some (.int (cellV ns 3)), some due, y6, none, none, none, none] ∧ Kp H1 H' ∧ H' r = some (.lst (us.map V.str)) ∧ us.length ≤ 100 ∧ (∀ t ∈ us, okS t) ∧ Due K es us H' due, ?_, ?_⟩
    · refine ⟨_, rfl, _, _, rfl, rfl, (by show (0 : Int) < 4; decide), rfl, _, rfl, iteD (fun c => ?_) (fun c => ?_)⟩
      · have q23 := k3.same _ _ rfl q2
        refine ⟨_, rfl, _, _, rfl, rfl, ⟨by decide, by decide⟩, _, rfl, r2, _, rfl, .inl (.inl (.inl q23)), _, _, rfl, rfl, _, _, rfl, rfl, (by show (0 : Int) < ((ws.map V.str).length : Int) + 1; omega), ?_⟩
        refine ⟨_, rfl, _, rfl, _, rfl, r2, _, rfl, .inl (.inl q23), fun u1 nu1 => ?_⟩
        obtain ⟨m1, e1, h1, l1⟩ := cutV_strs (lo := none) (hi := some (cellV ns 3 / 4 % (((ws.map V.str).length : Int) + 1))) (ns := ws)
        obtain ⟨m2, e2, h2, l2⟩ := cutV_strs (lo := some (cellV ns 3 / 4 % (((ws.map V.str).length : Int) + 1))) (hi := none) (ns := ws)
        generalize h_H4 : upd H3 u1 _ = H4
        have k_H4 : Kp H3 H4 := by rw [← h_H4]; exact .new nu1
        have q_H4 := (congrFun h_H4 u1).symm.trans upd_same
        clear h_H4
        have q4 : H4 u1 = some (.lst (m1.map V.str)) := by rw [q_H4]; exact congrArg (fun z => some (HO.lst z)) e1
        obtain ⟨bad, hbad, bw, bo⟩ := five (cellV ns 3 / 64)
        refine ⟨szl (by show 5 ≤ 100000; decide), fun t nt => ?_⟩
        generalize h_H5 : upd H4 t _ = H5
        have k_H5 : Kp H4 H5 := by rw [← h_H5]; exact .new nt
        have q_H5 := (congrFun h_H5 t).symm.trans upd_same
        clear h_H5
        refine ⟨_, rfl, _, _, rfl, rfl, ⟨by decide, by decide⟩, _, _, rfl, rfl, (by show (0 : Int) < 5; decide), t, _, _, _, rfl, rfl, .inl (.inl q_H5), hbad, szl (by show 1 ≤ 100000; decide), fun u2 nu2 => ?_⟩
        generalize h_H6 : upd H5 u2 _ = H6
        have k_H6 : Kp H5 H6 := by rw [← h_H6]; exact .new nu2
        have q_H6 := (congrFun h_H6 u2).symm.trans upd_same
        clear h_H6
        refine ⟨u1, u2, _, _, rfl, rfl, (k_H5.trans k_H6).same _ _ rfl q4, q_H6, szl (by rw [List.length_map]; show m1.length + 1 ≤ 100000; omega), fun u3 nu3 => ?_⟩
        generalize h_H7 : upd H6 u3 _ = H7
        have k_H7 : Kp H6 H7 := by rw [← h_H7]; exact .new nu3
        have q_H7 := (congrFun h_H7 u3).symm.trans upd_same
        clear h_H7
        have k37 := ((k_H4.trans k_H5).trans k_H6).trans k_H7
        refine ⟨_, rfl, _, rfl, _, rfl, r2, _, rfl, .inl (.inl (k37.same _ _ rfl q23)), fun u4 nu4 => ?_⟩
        generalize h_H8 : upd H7 u4 _ = H8
        have k_H8 : Kp H7 H8 := by rw [← h_H8]; exact .new nu4
        have q_H8 := (congrFun h_H8 u4).symm.trans upd_same
        clear h_H8
        have q8 : H8 u4 = some (.lst (m2.map V.str)) := by rw [q_H8]; exact congrArg (fun z => some (HO.lst z)) e2
        refine ⟨u3, u4, _, _, rfl, rfl, k_H8.same _ _ rfl q_H7, q8, szl (by rw [List.length_append, List.length_map, List.length_map]; show m1.length + 1 + m2.length ≤ 100000; omega), fun u5 nu5 => ?_⟩
        generalize h_H9 : upd H8 u5 _ = H9
        have k_H9 : Kp H8 H9 := by rw [← h_H9]; exact .new nu5
        have q_H9 := (congrFun h_H9 u5).symm.trans upd_same
        clear h_H9
        refine ⟨m1 ++ [bad] ++ m2, u5, .str "word", _, rfl, (k13.trans k37).trans (k_H8.trans k_H9), ?_, ?_, ?_, .inr ⟨rfl, bad, by simp, bw⟩⟩
        · rw [q_H9, List.map_append, List.map_append]
          rfl
        · rw [List.length_append, List.length_append]
          show m1.length + 1 + m2.length ≤ 100
          omega
        · intro u hu'
          rcases List.mem_append.mp hu' with hu' | hu'
          · rcases List.mem_append.mp hu' with hu' | hu'
            · exact okS_w (hw u (h1 u hu'))
            · rw [List.mem_singleton.mp hu']
              exact bo
          · exact okS_w (hw u (h2 u hu'))
      · exact ⟨ws, r2, .ref r3, _, rfl, k13, k3.same _ _ rfl q2, by omega, fun t ht => okS_w (hw t ht), .inl ⟨r3, rfl, hw, q3⟩⟩
    clear q3 nr3 k3 k13 q2 nr2
    rintro σ' H3 ⟨us, r, due, y6, rfl, k13, qr, hul, hus, hdue⟩
    have shp := shaped_strs hus
    refine ⟨2, rfl, by decide, by decide, ?_⟩
    refine for_range (lo := 0) (n := 2) (fun i σ H' => ∃ (y7 y8 y9 : Option V), σ = [some (.ref a), some (.ref p), some (.ref dw), some (.ref r), some (.int (cellV ns 3)), some due, y6, y7, y8, y9, none] ∧ Kp H3 H')
        ⟨none, none, none, rfl, .refl _⟩ ?_ ?_
    · rintro i σ H' hi ⟨y7, y8, y9, rfl, kp⟩
      refine ⟨_, rfl, r, _, rfl, .inl (.inl (.inl (kp.same _ _ rfl qr))), fun ph nh => ?_⟩
      generalize h_Ha : upd H' ph _ = Ha
      have k_Ha : Kp H' Ha := by rw [← h_Ha]; exact .new nh
      have q_Ha := (congrFun h_Ha ph).symm.trans upd_same
      clear h_Ha
      have ka := kp.trans k_Ha
      have k1a := (k1.trans k13).trans ka
      refine ⟨_, rfl, _, rfl, p, d1, d2, ph, bs, us, rfl, (B1.kp k13).kp ka, .inl (.inl q_Ha), by omega, fun t ht => (hus t ht).2, k1a.tab _ hT, fun hall q9 Hb nq9 kb h9 => ?_, fun hbad Hb kb => ?_⟩
      · have kab := ka.trans kb
        rcases hdue with ⟨r3, rfl, _, q3⟩ | ⟨_, t, ht, hn⟩
        rotate_left
        · rw [hall t ht] at hn
          cases hn
        rw [signs_same hes] at q3
        have dms : Dm 4 (dI (signsV bs us)) := dm_dI (by have := signsV_len (bs := bs) hall; omega)
        refine ⟨_, rfl, _, rfl, _, _, _, rfl, dp_dI (.inl (.inl h9)), dp_dI (.inl (.inl (kab.same _ _ rfl q3))), dms.dn, fun Hd kd => ⟨_, rfl, iteFo rfl ?_⟩⟩
        have kad := kb.trans kd
        refine ⟨_, rfl, _, rfl, dS us, dS us, dp_dS (.inl (.inl (kad.same _ _ rfl q_Ha))), dp_dS (.inl (.inl ((ka.trans kad).same _ _ rfl qr))), shp, shp, _, rfl, iteFo (by rw [eqv_strs hus]; rfl) ?_⟩
        have h9d := kd.same _ _ rfl h9
        refine ⟨_, rfl, _, _, _, _, true, rfl, .ty _, ty_of (dp_dI (.inl (.inl h9d))), kit_ty k_ll, _, rfl, iteTo rfl ?_⟩
        refine ⟨_, rfl, .inl ⟨rfl, _, SqL.of h9d⟩, q9, _, _, rfl, rfl, h9d, szt (by rw [List.length_map]; have := signsV_len (bs := bs) hall; omega), ?_⟩
        exact ⟨_, _, _, rfl, (ka.trans kad).mut (ka.free _ nq9)⟩
      · have kab := ka.trans kb
        rcases hdue with ⟨r3, rfl, hall, q3⟩ | ⟨rfl, _⟩
        · obtain ⟨t, ht, hn⟩ := hbad
          rw [hall t ht] at hn
          cases hn
        refine ⟨_, rfl, _, rfl, _, _, _, rfl, .str _, .str _, .str _ _, fun Hd kd => ⟨_, rfl, iteFo rfl ?_⟩⟩
        have kad := kb.trans kd
        refine ⟨_, rfl, _, rfl, dS us, dS us, dp_dS (.inl (.inl (kad.same _ _ rfl q_Ha))), dp_dS (.inl (.inl ((ka.trans kad).same _ _ rfl qr))), shp, shp, _, rfl, iteFo (by rw [eqv_strs hus]; rfl) ?_⟩
        refine ⟨_, rfl, _, _, _, _, false, rfl, .ty _, .base (.str _), kit_ty k_sl, _, rfl, iteFo rfl ?_⟩
        exact ⟨_, _, _, rfl, ka.trans kad⟩
    · rintro σ H' ⟨y7, y8, y9, rfl, kp⟩
      have k1p := (k1.trans k13).trans kp
      have B4 := (B1.kp k13).kp kp
      have D4 := (D1.kp k13).kp kp
      refine ⟨fun σ' H'' => σ' = [some (.ref a), some (.ref p), some (.ref dw), some (.ref r), some (.int (cellV ns 3)), some due, y6, y7, y8, y9, none] ∧ BookAt T.a_Phrasebook H'' p d1 d2 bs ∧ DictAt H'' dw es, ?_, ?_⟩
      · refine ⟨_, rfl, dw, _, rfl, DGet.k (k := Sum.inr ebb) D4.wd, _, rfl, ?_⟩
        cases ew : atW es ebb with
        | some e0 => exact iteFo (by rw [valW, ew]; rfl) ⟨rfl, B4, D4⟩
        | none =>
          refine iteTo (by rw [valW, ew]; rfl) ?_
          refine ⟨_, rfl, _, rfl, p, d1, d2, dw, bs, es, rfl, B4, D4, hes, hG, hO, hbl, new, ew, k1p.tab _ hT, fun H5 k5 B5 => ⟨_, rfl, iteFo rfl ?_⟩⟩
          exact ⟨rfl, B5, D4.kpE B4.pl B4.wd new k5⟩
      rintro σ' H5 ⟨rfl, BB, DD⟩
      obtain ⟨dx, hp⟩ := BB.ob
      refine ⟨_, rfl, p, dx, _, rfl, hp, flds_no _ _ (by decide +kernel) (by decide +kernel), p, d1, d2, bs, rfl, BB, by omega, fun rw0 ysw Hw nrw kw qw dwd => ?_⟩
      have DW := DD.kp kw
      refine ⟨dw, _, DW.wd, trivial, fun od => ?_⟩
      refine ⟨_, rfl, dw, od, rfl, .inl ⟨kvW es, upd_same, fun D hD => ?_⟩⟩
      refine lc_it (walk_keys (d := dw) (o := od) (kvs := kvW es)) (fun i Hx => Kp (upd Hw dw (.frz od (.dK (kvW es)))) Hx ∧ ∃ rs : List V, Hx D = some (.lst rs) ∧ DpAll K Hx rs ((es.take i).map dTrip)) ⟨Kp.new hD, [], upd_same, .nil⟩ (fun i Hx _ ⟨kk, _⟩ => kk.same _ _ rfl upd_same) (fun i x H7 H8 hi2 ⟨kk, rs, hrs, hd⟩ ⟨e8, ky, v, hkv, hx⟩ => ?_) (fun H7 ⟨kk, rs, hrs, hd⟩ => ?_)
      · subst e8
        subst hx
        obtain ⟨e, he, rfl, rfl⟩ := kvW_at hkv
        have hil : i < es.length := (List.getElem?_eq_some_iff.mp he).1
        have te : H8 e.2 = some (.tup [.int e.1.2.1, .int e.1.2.2]) := by
          have z := DW.tu e (List.mem_of_getElem? he)
          exact kk.same _ _ rfl (by rw [upd_ne (ne_of z DW.wd (by intro z; cases z))]; exact z)
        refine ⟨rfl, ?_⟩
        refine ⟨_, rfl, _, rfl, dw, _, rfl, .inl ⟨kvW es, Sum.inr e.1.1, .inr ⟨od, kk.same _ _ rfl upd_same⟩, rfl, (by rw [valW, hO e (List.mem_of_getElem? he)]; rfl)⟩, _, rfl, szl (by show 1 ≤ 100000; decide), fun u nu => ?_⟩
        generalize h_H9 : upd H8 u _ = H9
        have k_H9 : Kp H8 H9 := by rw [← h_H9]; exact .new nu
        have q_H9 := (congrFun h_H9 u).symm.trans upd_same
        clear h_H9
        refine ⟨e.2, u, _, _, rfl, rfl, .inl (.inl (k_H9.same _ _ rfl te)), .inl (.inl q_H9), by simp, szl (by show 3 ≤ 100000; decide), (fun z => by cases z), fun _ p5 n5 => ?_⟩
        generalize h_Ha : upd H9 p5 _ = Ha
        have k_Ha : Kp H9 Ha := by rw [← h_Ha]; exact .new n5
        have q_Ha := (congrFun h_Ha p5).symm.trans upd_same
        clear h_Ha
        have hra := k_Ha.same _ _ rfl (k_H9.same _ _ rfl hrs)
        have hl := DpAll.len hd
        rw [List.length_map, List.length_take] at hl
        refine ⟨rs, hra, szt (by omega), ((kk.trans k_H9).trans k_Ha).mut hD, _, upd_same, ?_⟩
        rw [take_snoc he, List.map_append]
        exact DpAll.mut hra nl_trips (DpAll.snoc (k_Ha.dpAll (k_H9.dpAll hd)) (.tup (.inl (.inl q_Ha)) (.cons (.int _) (.cons (.int _) (.cons (.str _) .nil)))))
      · have ekl : (kvW es).length = es.length := by unfold kvW; rw [List.length_map]
        rw [ekl, List.take_length] at hd
        have hf := kk.same _ _ rfl (upd_same (H := Hw) (a := dw) (o := .frz od (.dK (kvW es))))
        refine ⟨hf, ?_⟩
        have ku := Kp.unlock DW.wd rfl kk
        have nD : D ≠ dw := fun z => by
          rw [z, upd_same] at hD
          cases hD
        have h9 : upd H7 dw (.dK (kvW es)) D = some (.lst rs) := by
          rw [upd_ne nD]
          exact hrs
        have hd9 := DpAll.putK (o := .dK (kvW es)) hf hd
        generalize upd H7 dw (.dK (kvW es)) = H9 at ku h9 hd9 ⊢
        refine ⟨D, rs, es.map dTrip, rfl, .inl (.inl h9), hd9, PySem.W.AllAlike.of fun _ _ => rfl, PySem.W.Sortable.tuples fun _ => ⟨_, _, rfl⟩, ?_, fun ysr r7 hy nr7 => ?_⟩
        · intro d hd
          obtain ⟨b, _, rfl⟩ := List.mem_map.mp hd
          show 1 ≤ 60
          decide
        generalize h_Hb : upd H9 r7 _ = Hb
        have k_Hb : Kp H9 Hb := by rw [← h_Hb]; exact .new nr7
        have q_Hb := (congrFun h_Hb r7).symm.trans upd_same
        clear h_Hb
        have kwb := ku.trans k_Hb
        exact ⟨_, _, .list (wordsD bs), rfl, .lst (.inl (.inl (kwb.same _ _ rfl qw))) (kwb.dpAll dwd), .lst (.inl (.inl q_Hb)) (by unfold wordsD; rw [← trips_same hes]; exact k_Hb.dpAll hy), dn_words (by omega), fun He ke => k He⟩
end
theorem all_mk {l : PySem.W.OpenLaw} {w : World} {K : PySem.W.Frag} {h : Heap} {mg : Str → Option Value} {fa : Addr} (X : K.In h) (G : h.Ns mainGlobals mg) (hfa : mg "law" = some (.ref fa)) (own : ∀ y ∈ (["is_word"] : List Str), ∀ f, mg y = some (.ref f) → LamX.OwnTab K f h)
    {C_MastError : Addr}
    {C_BadPlace : Addr}
    {C_BadWord : Addr}
    {C_Taken : Addr}
    {C_Known : Addr}
    {C_NoWord : Addr}
    {C_Phrasebook : Addr}
    {f1 : Addr} {od1 an1 : Option Addr} {sl1 : Array (Option Value)} {oc1 kV1 dc1 pm1 cd1 ct1 : Value}
    {f2 : Addr} {od2 an2 : Option Addr} {sl2 : Array (Option Value)} {oc2 kV2 dc2 pm2 ct2 : Value}
    {c_tab P_tab : Addr} {dd_tab : Option Addr} {vs_tab : Array Value} {sl_tab : Array (Option Value)} {fl_tab : Str} {tf_tab tg_tab tt_tab : Tok} {fg_tab tx_tab : Int} {b_tab : Bool}
    {f3 : Addr} {od3 an3 : Option Addr} {sl3 : Array (Option Value)} {oc3 kV3 dc3 pm3 cd3 ct3 : Value}
    {f4 : Addr} {od4 an4 : Option Addr} {sl4 : Array (Option Value)} {oc4 kV4 dc4 pm4 cd4 ct4 : Value}
    {f5 : Addr} {od5 an5 : Option Addr} {sl5 : Array (Option Value)} {oc5 kV5 dc5 pm5 cd5 ct5 : Value}
    {f6 : Addr} {od6 an6 : Option Addr} {sl6 : Array (Option Value)} {oc6 kV6 dc6 pm6 cd6 ct6 : Value}
    {f7 : Addr} {od7 an7 : Option Addr} {sl7 : Array (Option Value)} {oc7 kV7 dc7 pm7 cd7 ct7 : Value}
    {f8 : Addr} {od8 an8 : Option Addr} {sl8 : Array (Option Value)} {oc8 kV8 dc8 pm8 cd8 ct8 : Value}
    {f9 : Addr} {od9 an9 : Option Addr} {sl9 : Array (Option Value)} {oc9 kV9 dc9 pm9 cd9 ct9 : Value}
    {f10 : Addr} {od10 an10 : Option Addr} {sl10 : Array (Option Value)} {oc10 kV10 dc10 pm10 cd10 ct10 : Value}
    {f11 : Addr} {od11 an11 : Option Addr} {sl11 : Array (Option Value)} {oc11 kV11 dc11 pm11 cd11 ct11 : Value}
    {f12 : Addr} {od12 an12 : Option Addr} {sl12 : Array (Option Value)} {oc12 kV12 dc12 pm12 cd12 ct12 : Value}
    {f13 : Addr} {od13 an13 : Option Addr} {sl13 : Array (Option Value)} {oc13 kV13 dc13 pm13 cd13 ct13 : Value}
    {f14 : Addr} {od14 an14 : Option Addr} {sl14 : Array (Option Value)} {oc14 kV14 dc14 pm14 cd14 ct14 : Value}
    {f15 : Addr} {od15 an15 : Option Addr} {sl15 : Array (Option Value)} {oc15 kV15 dc15 pm15 cd15 ct15 : Value}
    {f16 : Addr} {od16 an16 : Option Addr} {sl16 : Array (Option Value)} {oc16 kV16 dc16 pm16 cd16 ct16 : Value}
    {f17 : Addr} {od17 an17 : Option Addr} {sl17 : Array (Option Value)} {oc17 kV17 dc17 pm17 cd17 ct17 : Value}
    {f18 : Addr} {od18 an18 : Option Addr} {sl18 : Array (Option Value)} {oc18 kV18 dc18 pm18 cd18 ct18 : Value}
    {f19 : Addr} {od19 an19 : Option Addr} {sl19 : Array (Option Value)} {oc19 kV19 dc19 pm19 cd19 ct19 : Value}
    {f20 : Addr} {od20 an20 : Option Addr} {sl20 : Array (Option Value)} {oc20 kV20 dc20 pm20 cd20 ct20 : Value}
    {f21 : Addr} {od21 an21 : Option Addr} {sl21 : Array (Option Value)} {oc21 kV21 dc21 pm21 cd21 ct21 : Value}
    {tk_LETTERS : Tok}
    {tk_LAST_PAGE : Tok}
    {tk_FIRST_LETTER : Tok}
    {tk_END : Tok}
    {tk_LONGEST_WORD : Tok}
    (e_MastError : PySem.W.nsIn K mainGlobals "MastError" = some (some (.ref C_MastError)))
    (x_MastError : PySem.W.excIn K C_MastError [.type "ValueError", .type "Exception", .type "BaseException", .type "object"] "ValueError.__new__" = true)
    (k_MastError : PySem.W.keepIn K (.ref C_MastError) = true)
    (b_MastError : PySem.W.subIn K (.ref C_MastError) (.type "BaseException") = some true)
    (t_MastError : PySem.W.typeIn K (.ref C_MastError) = some (.type "type"))
    (i_MastError : PySem.W.isClsIn K C_MastError = true)
    (h_MastError : PySem.W.hasDictIn K C_MastError = true)
    (ga_MastError : PySem.W.findIn K (.ref C_MastError) "__getattribute__" = some (some (.builtin "BaseException.__getattribute__")))
    (gg_MastError : PySem.W.findIn K (.ref C_MastError) "__getattr__" = some none)
    (cl_MastError : PySem.W.findIn K (.ref C_MastError) "__class__" = some (some (.builtin "object.__class__")))
    (mo_MastError : PySem.W.mroIn K C_MastError (.type "object") = some true)
    (v_MastError : PySem.W.subIn K (.ref C_MastError) (.type "ValueError") = some true)
    (e_BadPlace : PySem.W.nsIn K mainGlobals "BadPlace" = some (some (.ref C_BadPlace)))
    (x_BadPlace : PySem.W.excIn K C_BadPlace [.type "ValueError", .type "Exception", .type "BaseException", .type "object"] "ValueError.__new__" = true)
    (k_BadPlace : PySem.W.keepIn K (.ref C_BadPlace) = true)
    (b_BadPlace : PySem.W.subIn K (.ref C_BadPlace) (.type "BaseException") = some true)
    (t_BadPlace : PySem.W.typeIn K (.ref C_BadPlace) = some (.type "type"))
    (i_BadPlace : PySem.W.isClsIn K C_BadPlace = true)
    (h_BadPlace : PySem.W.hasDictIn K C_BadPlace = true)
    (ga_BadPlace : PySem.W.findIn K (.ref C_BadPlace) "__getattribute__" = some (some (.builtin "BaseException.__getattribute__")))
    (gg_BadPlace : PySem.W.findIn K (.ref C_BadPlace) "__getattr__" = some none)
    (cl_BadPlace : PySem.W.findIn K (.ref C_BadPlace) "__class__" = some (some (.builtin "object.__class__")))
    (mo_BadPlace : PySem.W.mroIn K C_BadPlace (.type "object") = some true)
    (v_BadPlace : PySem.W.subIn K (.ref C_BadPlace) (.type "ValueError") = some true)
    (e_BadWord : PySem.W.nsIn K mainGlobals "BadWord" = some (some (.ref C_BadWord)))
    (x_BadWord : PySem.W.excIn K C_BadWord [.type "ValueError", .type "Exception", .type "BaseException", .type "object"] "ValueError.__new__" = true)
    (k_BadWord : PySem.W.keepIn K (.ref C_BadWord) = true)
    (b_BadWord : PySem.W.subIn K (.ref C_BadWord) (.type "BaseException") = some true)
    (t_BadWord : PySem.W.typeIn K (.ref C_BadWord) = some (.type "type"))
    (i_BadWord : PySem.W.isClsIn K C_BadWord = true)
    (h_BadWord : PySem.W.hasDictIn K C_BadWord = true)
    (ga_BadWord : PySem.W.findIn K (.ref C_BadWord) "__getattribute__" = some (some (.builtin "BaseException.__getattribute__")))
    (gg_BadWord : PySem.W.findIn K (.ref C_BadWord) "__getattr__" = some none)
    (cl_BadWord : PySem.W.findIn K (.ref C_BadWord) "__class__" = some (some (.builtin "object.__class__")))
    (mo_BadWord : PySem.W.mroIn K C_BadWord (.type "object") = some true)
    (v_BadWord : PySem.W.subIn K (.ref C_BadWord) (.type "ValueError") = some true)
    (e_Taken : PySem.W.nsIn K mainGlobals "Taken" = some (some (.ref C_Taken)))
    (x_Taken : PySem.W.excIn K C_Taken [.type "ValueError", .type "Exception", .type "BaseException", .type "object"] "ValueError.__new__" = true)
    (k_Taken : PySem.W.keepIn K (.ref C_Taken) = true)
    (b_Taken : PySem.W.subIn K (.ref C_Taken) (.type "BaseException") = some true)
    (t_Taken : PySem.W.typeIn K (.ref C_Taken) = some (.type "type"))
    (i_Taken : PySem.W.isClsIn K C_Taken = true)
    (h_Taken : PySem.W.hasDictIn K C_Taken = true)
    (ga_Taken : PySem.W.findIn K (.ref C_Taken) "__getattribute__" = some (some (.builtin "BaseException.__getattribute__")))
    (gg_Taken : PySem.W.findIn K (.ref C_Taken) "__getattr__" = some none)
    (cl_Taken : PySem.W.findIn K (.ref C_Taken) "__class__" = some (some (.builtin "object.__class__")))
    (mo_Taken : PySem.W.mroIn K C_Taken (.type "object") = some true)
    (v_Taken : PySem.W.subIn K (.ref C_Taken) (.type "ValueError") = some true)
    (e_Known : PySem.W.nsIn K mainGlobals "Known" = some (some (.ref C_Known)))
    (x_Known : PySem.W.excIn K C_Known [.type "ValueError", .type "Exception", .type "BaseException", .type "object"] "ValueError.__new__" = true)
    (k_Known : PySem.W.keepIn K (.ref C_Known) = true)
    (b_Known : PySem.W.subIn K (.ref C_Known) (.type "BaseException") = some true)
    (t_Known : PySem.W.typeIn K (.ref C_Known) = some (.type "type"))
    (i_Known : PySem.W.isClsIn K C_Known = true)
    (h_Known : PySem.W.hasDictIn K C_Known = true)
    (ga_Known : PySem.W.findIn K (.ref C_Known) "__getattribute__" = some (some (.builtin "BaseException.__getattribute__")))
    (gg_Known : PySem.W.findIn K (.ref C_Known) "__getattr__" = some none)
    (cl_Known : PySem.W.findIn K (.ref C_Known) "__class__" = some (some (.builtin "object.__class__")))
    (mo_Known : PySem.W.mroIn K C_Known (.type "object") = some true)
    (v_Known : PySem.W.subIn K (.ref C_Known) (.type "ValueError") = some true)
    (e_NoWord : PySem.W.nsIn K mainGlobals "NoWord" = some (some (.ref C_NoWord)))
    (x_NoWord : PySem.W.excIn K C_NoWord [.type "ValueError", .type "Exception", .type "BaseException", .type "object"] "ValueError.__new__" = true)
    (k_NoWord : PySem.W.keepIn K (.ref C_NoWord) = true)
    (b_NoWord : PySem.W.subIn K (.ref C_NoWord) (.type "BaseException") = some true)
    (t_NoWord : PySem.W.typeIn K (.ref C_NoWord) = some (.type "type"))
    (i_NoWord : PySem.W.isClsIn K C_NoWord = true)
    (h_NoWord : PySem.W.hasDictIn K C_NoWord = true)
    (ga_NoWord : PySem.W.findIn K (.ref C_NoWord) "__getattribute__" = some (some (.builtin "BaseException.__getattribute__")))
    (gg_NoWord : PySem.W.findIn K (.ref C_NoWord) "__getattr__" = some none)
    (cl_NoWord : PySem.W.findIn K (.ref C_NoWord) "__class__" = some (some (.builtin "object.__class__")))
    (mo_NoWord : PySem.W.mroIn K C_NoWord (.type "object") = some true)
    (v_NoWord : PySem.W.subIn K (.ref C_NoWord) (.type "ValueError") = some true)
    (s_MastError_MastError : PySem.W.subIn K (.ref C_MastError) (.ref C_MastError) = some true)
    (s_BadPlace_MastError : PySem.W.subIn K (.ref C_BadPlace) (.ref C_MastError) = some true)
    (s_BadWord_MastError : PySem.W.subIn K (.ref C_BadWord) (.ref C_MastError) = some true)
    (s_BadWord_BadWord : PySem.W.subIn K (.ref C_BadWord) (.ref C_BadWord) = some true)
    (s_Taken_MastError : PySem.W.subIn K (.ref C_Taken) (.ref C_MastError) = some true)
    (s_Known_MastError : PySem.W.subIn K (.ref C_Known) (.ref C_MastError) = some true)
    (s_NoWord_MastError : PySem.W.subIn K (.ref C_NoWord) (.ref C_MastError) = some true)
    (e_Phrasebook : PySem.W.nsIn K mainGlobals "Phrasebook" = some (some (.ref C_Phrasebook)))
    (pg_Phrasebook : PySem.W.plainGet K C_Phrasebook Str.empty = true)
    (hd_Phrasebook : PySem.W.hasDictIn K C_Phrasebook = true)
    (po_Phrasebook : PySem.W.plainOver K C_Phrasebook = true)
    (sa_Phrasebook : PySem.W.findIn K (.ref C_Phrasebook) "__setattr__" = some (some (.builtin "object.__setattr__")))
    (mk_Phrasebook : PySem.W.makesIn K C_Phrasebook = true)
    (kc_Phrasebook : PySem.W.keepIn K (.ref C_Phrasebook) = true)
    (n_Phrasebook_word_by_place : PySem.W.findIn K (.ref C_Phrasebook) "word_by_place" = some none)
    (n_Phrasebook_place_by_word : PySem.W.findIn K (.ref C_Phrasebook) "place_by_word" = some none)
    (a1 : PySem.W.nsIn K mainGlobals "sign_of" = some (some (.ref f1)))
    (l1 : K.lookup f1 = some ⟨oc1, od1, .func (PySem.W.fnOf "sign_of" "sign_of" (defArgs s_p_sign_of) (defBody s_p_sign_of) (defScope s_p_sign_of) .none kV1 dc1 pm1 an1 cd1 ct1), sl1⟩)
    (c1 : PySem.W.codeIn K cd1 "sign_of" = true)
    (k1 : PySem.W.keepIn K (.ref f1) = true)
    (a2 : PySem.W.nsIn K mainGlobals "is_word" = some (some (.ref f2)))
    (l2 : K.lookup f2 = some ⟨oc2, od2, .func (PySem.W.fnOf "is_word" "is_word" (defArgs s_p_is_word) (defBody s_p_is_word) (defScope s_p_is_word) .none kV2 dc2 pm2 an2 (.ref c_tab) ct2), sl2⟩)
    (c2 : PySem.W.codeIn K (.ref c_tab) "is_word" = true)
    (y_l : K.lookup c_tab = some ⟨.type "code", dd_tab, .fields vs_tab, sl_tab⟩)
    (y_11 : vs_tab[11]? = some (.ref P_tab))
    (y_18 : vs_tab.getD 18 .none = .str fl_tab tf_tab)
    (y_7 : vs_tab.getD 7 .none = .int fg_tab tg_tab)
    (y_9 : vs_tab.getD 9 .none = .bool b_tab)
    (y_10 : vs_tab.getD 10 .none = .int tx_tab tt_tab)
    (y_ne : c_tab ≠ P_tab)
    (y_P : K.lookup P_tab = none)
    (k2 : PySem.W.keepIn K (.ref f2) = true)
    (a3 : PySem.W.nsIn K mainGlobals "check_word" = some (some (.ref f3)))
    (l3 : K.lookup f3 = some ⟨oc3, od3, .func (PySem.W.fnOf "check_word" "check_word" (defArgs s_p_check_word) (defBody s_p_check_word) (defScope s_p_check_word) .none kV3 dc3 pm3 an3 cd3 ct3), sl3⟩)
    (c3 : PySem.W.codeIn K cd3 "check_word" = true)
    (k3 : PySem.W.keepIn K (.ref f3) = true)
    (a4 : PySem.W.nsIn K mainGlobals "check_place" = some (some (.ref f4)))
    (l4 : K.lookup f4 = some ⟨oc4, od4, .func (PySem.W.fnOf "check_place" "check_place" (defArgs s_p_check_place) (defBody s_p_check_place) (defScope s_p_check_place) .none kV4 dc4 pm4 an4 cd4 ct4), sl4⟩)
    (c4 : PySem.W.codeIn K cd4 "check_place" = true)
    (k4 : PySem.W.keepIn K (.ref f4) = true)
    (a5 : PySem.W.findIn K (.ref C_Phrasebook) "__init__" = some (some (.ref f5)))
    (i5 : PySem.W.isFn K (.ref f5) = true)
    (l5 : K.lookup f5 = some ⟨oc5, od5, .func (PySem.W.fnOf "__init__" "Phrasebook.__init__" (defArgs s_p_Phrasebook_init) (defBody s_p_Phrasebook_init) (defScope s_p_Phrasebook_init) .none kV5 dc5 pm5 an5 cd5 ct5), sl5⟩)
    (c5 : PySem.W.codeIn K cd5 "Phrasebook.__init__" = true)
    (k5 : PySem.W.keepIn K (.ref f5) = true)
    (a6 : PySem.W.findIn K (.ref C_Phrasebook) "enter" = some (some (.ref f6)))
    (i6 : PySem.W.isFn K (.ref f6) = true)
    (l6 : K.lookup f6 = some ⟨oc6, od6, .func (PySem.W.fnOf "enter" "Phrasebook.enter" (defArgs s_p_Phrasebook_enter) (defBody s_p_Phrasebook_enter) (defScope s_p_Phrasebook_enter) .none kV6 dc6 pm6 an6 cd6 ct6), sl6⟩)
    (c6 : PySem.W.codeIn K cd6 "Phrasebook.enter" = true)
    (k6 : PySem.W.keepIn K (.ref f6) = true)
    (a7 : PySem.W.findIn K (.ref C_Phrasebook) "strike" = some (some (.ref f7)))
    (i7 : PySem.W.isFn K (.ref f7) = true)
    (l7 : K.lookup f7 = some ⟨oc7, od7, .func (PySem.W.fnOf "strike" "Phrasebook.strike" (defArgs s_p_Phrasebook_strike) (defBody s_p_Phrasebook_strike) (defScope s_p_Phrasebook_strike) .none kV7 dc7 pm7 an7 cd7 ct7), sl7⟩)
    (c7 : PySem.W.codeIn K cd7 "Phrasebook.strike" = true)
    (k7 : PySem.W.keepIn K (.ref f7) = true)
    (a8 : PySem.W.findIn K (.ref C_Phrasebook) "place_of" = some (some (.ref f8)))
    (i8 : PySem.W.isFn K (.ref f8) = true)
    (l8 : K.lookup f8 = some ⟨oc8, od8, .func (PySem.W.fnOf "place_of" "Phrasebook.place_of" (defArgs s_p_Phrasebook_place_of) (defBody s_p_Phrasebook_place_of) (defScope s_p_Phrasebook_place_of) .none kV8 dc8 pm8 an8 cd8 ct8), sl8⟩)
    (c8 : PySem.W.codeIn K cd8 "Phrasebook.place_of" = true)
    (k8 : PySem.W.keepIn K (.ref f8) = true)
    (a9 : PySem.W.findIn K (.ref C_Phrasebook) "word_at" = some (some (.ref f9)))
    (i9 : PySem.W.isFn K (.ref f9) = true)
    (l9 : K.lookup f9 = some ⟨oc9, od9, .func (PySem.W.fnOf "word_at" "Phrasebook.word_at" (defArgs s_p_Phrasebook_word_at) (defBody s_p_Phrasebook_word_at) (defScope s_p_Phrasebook_word_at) .none kV9 dc9 pm9 an9 cd9 ct9), sl9⟩)
    (c9 : PySem.W.codeIn K cd9 "Phrasebook.word_at" = true)
    (k9 : PySem.W.keepIn K (.ref f9) = true)
    (a10 : PySem.W.findIn K (.ref C_Phrasebook) "words" = some (some (.ref f10)))
    (i10 : PySem.W.isFn K (.ref f10) = true)
    (l10 : K.lookup f10 = some ⟨oc10, od10, .func (PySem.W.fnOf "words" "Phrasebook.words" (defArgs s_p_Phrasebook_words) (defBody s_p_Phrasebook_words) (defScope s_p_Phrasebook_words) .none kV10 dc10 pm10 an10 cd10 ct10), sl10⟩)
    (c10 : PySem.W.codeIn K cd10 "Phrasebook.words" = true)
    (k10 : PySem.W.keepIn K (.ref f10) = true)
    (a11 : PySem.W.nsIn K mainGlobals "signs_of" = some (some (.ref f11)))
    (l11 : K.lookup f11 = some ⟨oc11, od11, .func (PySem.W.fnOf "signs_of" "signs_of" (defArgs s_p_signs_of) (defBody s_p_signs_of) (defScope s_p_signs_of) .none kV11 dc11 pm11 an11 cd11 ct11), sl11⟩)
    (c11 : PySem.W.codeIn K cd11 "signs_of" = true)
    (k11 : PySem.W.keepIn K (.ref f11) = true)
    (a12 : PySem.W.nsIn K mainGlobals "_law_cell" = some (some (.ref f12)))
    (l12 : K.lookup f12 = some ⟨oc12, od12, .func (PySem.W.fnOf "_law_cell" "_law_cell" (defArgs s_l_cell) (defBody s_l_cell) (defScope s_l_cell) .none kV12 dc12 pm12 an12 cd12 ct12), sl12⟩)
    (c12 : PySem.W.codeIn K cd12 "_law_cell" = true)
    (k12 : PySem.W.keepIn K (.ref f12) = true)
    (a13 : PySem.W.nsIn K mainGlobals "_law_row" = some (some (.ref f13)))
    (l13 : K.lookup f13 = some ⟨oc13, od13, .func (PySem.W.fnOf "_law_row" "_law_row" (defArgs s_l_row) (defBody s_l_row) (defScope s_l_row) .none kV13 dc13 pm13 an13 cd13 ct13), sl13⟩)
    (c13 : PySem.W.codeIn K cd13 "_law_row" = true)
    (k13 : PySem.W.keepIn K (.ref f13) = true)
    (a14 : PySem.W.nsIn K mainGlobals "_law_like" = some (some (.ref f14)))
    (l14 : K.lookup f14 = some ⟨oc14, od14, .func (PySem.W.fnOf "_law_like" "_law_like" (defArgs s_l_like) (defBody s_l_like) (defScope s_l_like) .none kV14 dc14 pm14 an14 cd14 ct14), sl14⟩)
    (c14 : PySem.W.codeIn K cd14 "_law_like" = true)
    (k14 : PySem.W.keepIn K (.ref f14) = true)
    (a15 : PySem.W.nsIn K mainGlobals "_law_word" = some (some (.ref f15)))
    (l15 : K.lookup f15 = some ⟨oc15, od15, .func (PySem.W.fnOf "_law_word" "_law_word" (defArgs s_l_word) (defBody s_l_word) (defScope s_l_word) .none kV15 dc15 pm15 an15 cd15 ct15), sl15⟩)
    (c15 : PySem.W.codeIn K cd15 "_law_word" = true)
    (k15 : PySem.W.keepIn K (.ref f15) = true)
    (a16 : PySem.W.nsIn K mainGlobals "_law_signs_of" = some (some (.ref f16)))
    (l16 : K.lookup f16 = some ⟨oc16, od16, .func (PySem.W.fnOf "_law_signs_of" "_law_signs_of" (defArgs s_l_signs_of) (defBody s_l_signs_of) (defScope s_l_signs_of) .none kV16 dc16 pm16 an16 cd16 ct16), sl16⟩)
    (c16 : PySem.W.codeIn K cd16 "_law_signs_of" = true)
    (k16 : PySem.W.keepIn K (.ref f16) = true)
    (a17 : PySem.W.nsIn K mainGlobals "_law_book" = some (some (.ref f17)))
    (l17 : K.lookup f17 = some ⟨oc17, od17, .func (PySem.W.fnOf "_law_book" "_law_book" (defArgs s_l_book) (defBody s_l_book) (defScope s_l_book) .none kV17 dc17 pm17 an17 cd17 ct17), sl17⟩)
    (c17 : PySem.W.codeIn K cd17 "_law_book" = true)
    (k17 : PySem.W.keepIn K (.ref f17) = true)
    (a18 : PySem.W.nsIn K mainGlobals "_law_some_words" = some (some (.ref f18)))
    (l18 : K.lookup f18 = some ⟨oc18, od18, .func (PySem.W.fnOf "_law_some_words" "_law_some_words" (defArgs s_l_some_words) (defBody s_l_some_words) (defScope s_l_some_words) .none kV18 dc18 pm18 an18 cd18 ct18), sl18⟩)
    (c18 : PySem.W.codeIn K cd18 "_law_some_words" = true)
    (k18 : PySem.W.keepIn K (.ref f18) = true)
    (a19 : PySem.W.nsIn K mainGlobals "_law_told" = some (some (.ref f19)))
    (l19 : K.lookup f19 = some ⟨oc19, od19, .func (PySem.W.fnOf "_law_told" "_law_told" (defArgs s_l_told) (defBody s_l_told) (defScope s_l_told) .none kV19 dc19 pm19 an19 cd19 ct19), sl19⟩)
    (c19 : PySem.W.codeIn K cd19 "_law_told" = true)
    (k19 : PySem.W.keepIn K (.ref f19) = true)
    (a20 : PySem.W.nsIn K mainGlobals "_law_later" = some (some (.ref f20)))
    (l20 : K.lookup f20 = some ⟨oc20, od20, .func (PySem.W.fnOf "_law_later" "_law_later" (defArgs s_l_later) (defBody s_l_later) (defScope s_l_later) .none kV20 dc20 pm20 an20 cd20 ct20), sl20⟩)
    (c20 : PySem.W.codeIn K cd20 "_law_later" = true)
    (k20 : PySem.W.keepIn K (.ref f20) = true)
    (a21 : PySem.W.nsIn K mainGlobals "law" = some (some (.ref f21)))
    (l21 : K.lookup f21 = some ⟨oc21, od21, .func (PySem.W.fnOf "law" "law" (defArgs s_law) (defBody s_law) (defScope s_law) .none kV21 dc21 pm21 an21 cd21 ct21), sl21⟩)
    (c21 : PySem.W.codeIn K cd21 "law" = true)
    (k21 : PySem.W.keepIn K (.ref f21) = true)
    (q_LETTERS : PySem.W.nsIn K mainGlobals "LETTERS" = some (some (.str "abcdefghijklmnopqrstuvwxyz" tk_LETTERS)))
    (q_LAST_PAGE : PySem.W.nsIn K mainGlobals "LAST_PAGE" = some (some (.int 40 tk_LAST_PAGE)))
    (q_FIRST_LETTER : PySem.W.nsIn K mainGlobals "FIRST_LETTER" = some (some (.int 41 tk_FIRST_LETTER)))
    (q_END : PySem.W.nsIn K mainGlobals "END" = some (some (.int 67 tk_END)))
    (q_LONGEST_WORD : PySem.W.nsIn K mainGlobals "LONGEST_WORD" = some (some (.int 12 tk_LONGEST_WORD)))
    (z_all : PySem.W.nsIn K mainGlobals "all" = some none)
    (z_len : PySem.W.nsIn K mainGlobals "len" = some none)
    (z_sorted : PySem.W.nsIn K mainGlobals "sorted" = some none)
    (z_list : PySem.W.nsIn K mainGlobals "list" = some none)
    (z_range : PySem.W.nsIn K mainGlobals "range" = some none)
    (z_isinstance : PySem.W.nsIn K mainGlobals "isinstance" = some none)
    (z_bool : PySem.W.nsIn K mainGlobals "bool" = some none)
    (z_int : PySem.W.nsIn K mainGlobals "int" = some none)
    (z_str : PySem.W.nsIn K mainGlobals "str" = some none)
    (z_tuple : PySem.W.nsIn K mainGlobals "tuple" = some none)
    (oc_get : PySem.W.specialIn K (.builtin "object.__class__") "__get__" = some (some (.builtin "getset_descriptor.__get__")))
    (oc_tak : PySem.W.takesIn K (.builtin "object.__class__") = some true) :
    LamX.LawAtS l w K CX0 12 63 "_law_script" mg fa h := by
  have e := hfa.symm.trans (PySem.W.mg_of X G a21)
  cases e
  let T : Txt K mg :=
    { a_MastError := C_MastError,
      g_MastError := PySem.W.mg_of X G e_MastError,
      x_MastError := x_MastError,
      k_MastError := k_MastError,
      b_MastError := b_MastError,
      t_MastError := t_MastError,
      i_MastError := i_MastError,
      h_MastError := h_MastError,
      ga_MastError := ga_MastError,
      gg_MastError := gg_MastError,
      cl_MastError := cl_MastError,
      mo_MastError := mo_MastError,
      v_MastError := v_MastError,
      a_BadPlace := C_BadPlace,
      g_BadPlace := PySem.W.mg_of X G e_BadPlace,
      x_BadPlace := x_BadPlace,
      k_BadPlace := k_BadPlace,
      b_BadPlace := b_BadPlace,
      t_BadPlace := t_BadPlace,
      i_BadPlace := i_BadPlace,
      h_BadPlace := h_BadPlace,
      ga_BadPlace := ga_BadPlace,
      gg_BadPlace := gg_BadPlace,
      cl_BadPlace := cl_BadPlace,
      mo_BadPlace := mo_BadPlace,
      v_BadPlace := v_BadPlace,
      a_BadWord := C_BadWord,
      g_BadWord := PySem.W.mg_of X G e_BadWord,
      x_BadWord := x_BadWord,
      k_BadWord := k_BadWord,
      b_BadWord := b_BadWord,
      t_BadWord := t_BadWord,
      i_BadWord := i_BadWord,
      h_BadWord := h_BadWord,
      ga_BadWord := ga_BadWord,
      gg_BadWord := gg_BadWord,
      cl_BadWord := cl_BadWord,
      mo_BadWord := mo_BadWord,
      v_BadWord := v_BadWord,
      a_Taken := C_Taken,
      g_Taken := PySem.W.mg_of X G e_Taken,
      x_Taken := x_Taken,
      k_Taken := k_Taken,
      b_Taken := b_Taken,
      t_Taken := t_Taken,
      i_Taken := i_Taken,
      h_Taken := h_Taken,
      ga_Taken := ga_Taken,
      gg_Taken := gg_Taken,
      cl_Taken := cl_Taken,
      mo_Taken := mo_Taken,
      v_Taken := v_Taken,
      a_Known := C_Known,
      g_Known := PySem.W.mg_of X G e_Known,
      x_Known := x_Known,
      k_Known := k_Known,
      b_Known := b_Known,
      t_Known := t_Known,
      i_Known := i_Known,
      h_Known := h_Known,
      ga_Known := ga_Known,
      gg_Known := gg_Known,
      cl_Known := cl_Known,
      mo_Known := mo_Known,
      v_Known := v_Known,
      a_NoWord := C_NoWord,
      g_NoWord := PySem.W.mg_of X G e_NoWord,
      x_NoWord := x_NoWord,
      k_NoWord := k_NoWord,
      b_NoWord := b_NoWord,
      t_NoWord := t_NoWord,
      i_NoWord := i_NoWord,
      h_NoWord := h_NoWord,
      ga_NoWord := ga_NoWord,
      gg_NoWord := gg_NoWord,
      cl_NoWord := cl_NoWord,
      mo_NoWord := mo_NoWord,
      v_NoWord := v_NoWord,
      s_MastError_MastError := s_MastError_MastError,
      s_BadPlace_MastError := s_BadPlace_MastError,
      s_BadWord_MastError := s_BadWord_MastError,
      s_BadWord_BadWord := s_BadWord_BadWord,
      s_Taken_MastError := s_Taken_MastError,
      s_Known_MastError := s_Known_MastError,
      s_NoWord_MastError := s_NoWord_MastError,
      a_Phrasebook := C_Phrasebook,
      g_Phrasebook := PySem.W.mg_of X G e_Phrasebook,
      cl_Phrasebook := ⟨pg_Phrasebook, hd_Phrasebook, po_Phrasebook, sa_Phrasebook⟩,
      n_Phrasebook_word_by_place := n_Phrasebook_word_by_place,
      n_Phrasebook_place_by_word := n_Phrasebook_place_by_word,
      f_p_sign_of := f1,
      d_p_sign_of := _,
      F_p_sign_of := fun_mk (st := s_p_sign_of) l1 c1 k1,
      b_p_sign_of := (fun_mk (st := s_p_sign_of) l1 c1 k1).binds (ps := ["letter"]) fun _ _ _ _ _ _ us hl => match us, hl with | [_], _ => rfl,
      g_p_sign_of := PySem.W.mg_of X G a1,
      c_tab := c_tab,
      P_tab := P_tab,
      W_p_is_word := ⟨_, _, _, _, _, _, _, _, rfl, l2, c2⟩,
      f_p_is_word := f2,
      d_p_is_word := _,
      F_p_is_word := fun_mk (st := s_p_is_word) l2 c2 k2,
      b_p_is_word := (fun_mk (st := s_p_is_word) l2 c2 k2).binds (ps := ["text"]) fun _ _ _ _ _ _ us hl => match us, hl with | [_], _ => rfl,
      g_p_is_word := PySem.W.mg_of X G a2,
      f_p_check_word := f3,
      d_p_check_word := _,
      F_p_check_word := fun_mk (st := s_p_check_word) l3 c3 k3,
      b_p_check_word := (fun_mk (st := s_p_check_word) l3 c3 k3).binds (ps := ["text"]) fun _ _ _ _ _ _ us hl => match us, hl with | [_], _ => rfl,
      g_p_check_word := PySem.W.mg_of X G a3,
      f_p_check_place := f4,
      d_p_check_place := _,
      F_p_check_place := fun_mk (st := s_p_check_place) l4 c4 k4,
      b_p_check_place := (fun_mk (st := s_p_check_place) l4 c4 k4).binds (ps := ["page", "line"]) fun _ _ _ _ _ _ us hl => match us, hl with | [_, _], _ => rfl,
      g_p_check_place := PySem.W.mg_of X G a4,
      f_p_Phrasebook_init := f5,
      d_p_Phrasebook_init := _,
      F_p_Phrasebook_init := fun_mk (st := s_p_Phrasebook_init) l5 c5 k5,
      b_p_Phrasebook_init := (fun_mk (st := s_p_Phrasebook_init) l5 c5 k5).binds (ps := ["self"]) fun _ _ _ _ _ _ us hl => match us, hl with | [_], _ => rfl,
      M_p_Phrasebook_init := ⟨a5, i5, k5⟩,
      K_Phrasebook := ⟨mk_Phrasebook, a5, i5, kc_Phrasebook⟩,
      f_p_Phrasebook_enter := f6,
      d_p_Phrasebook_enter := _,
      F_p_Phrasebook_enter := fun_mk (st := s_p_Phrasebook_enter) l6 c6 k6,
      b_p_Phrasebook_enter := (fun_mk (st := s_p_Phrasebook_enter) l6 c6 k6).binds (ps := ["self", "page", "line", "word"]) fun _ _ _ _ _ _ us hl => match us, hl with | [_, _, _, _], _ => rfl,
      M_p_Phrasebook_enter := ⟨a6, i6, k6⟩,
      f_p_Phrasebook_strike := f7,
      d_p_Phrasebook_strike := _,
      F_p_Phrasebook_strike := fun_mk (st := s_p_Phrasebook_strike) l7 c7 k7,
      b_p_Phrasebook_strike := (fun_mk (st := s_p_Phrasebook_strike) l7 c7 k7).binds (ps := ["self", "page", "line"]) fun _ _ _ _ _ _ us hl => match us, hl with | [_, _, _], _ => rfl,
      M_p_Phrasebook_strike := ⟨a7, i7, k7⟩,
      f_p_Phrasebook_place_of := f8,
      d_p_Phrasebook_place_of := _,
      F_p_Phrasebook_place_of := fun_mk (st := s_p_Phrasebook_place_of) l8 c8 k8,
      b_p_Phrasebook_place_of := (fun_mk (st := s_p_Phrasebook_place_of) l8 c8 k8).binds (ps := ["self", "word"]) fun _ _ _ _ _ _ us hl => match us, hl with | [_, _], _ => rfl,
      M_p_Phrasebook_place_of := ⟨a8, i8, k8⟩,
      f_p_Phrasebook_word_at := f9,
      d_p_Phrasebook_word_at := _,
      F_p_Phrasebook_word_at := fun_mk (st := s_p_Phrasebook_word_at) l9 c9 k9,
      b_p_Phrasebook_word_at := (fun_mk (st := s_p_Phrasebook_word_at) l9 c9 k9).binds (ps := ["self", "page", "line"]) fun _ _ _ _ _ _ us hl => match us, hl with | [_, _, _], _ => rfl,
      M_p_Phrasebook_word_at := ⟨a9, i9, k9⟩,
      f_p_Phrasebook_words := f10,
      d_p_Phrasebook_words := _,
      F_p_Phrasebook_words := fun_mk (st := s_p_Phrasebook_words) l10 c10 k10,
      b_p_Phrasebook_words := (fun_mk (st := s_p_Phrasebook_words) l10 c10 k10).binds (ps := ["self"]) fun _ _ _ _ _ _ us hl => match us, hl with | [_], _ => rfl,
      M_p_Phrasebook_words := ⟨a10, i10, k10⟩,
      f_p_signs_of := f11,
      d_p_signs_of := _,
      F_p_signs_of := fun_mk (st := s_p_signs_of) l11 c11 k11,
      b_p_signs_of := (fun_mk (st := s_p_signs_of) l11 c11 k11).binds (ps := ["book", "words"]) fun _ _ _ _ _ _ us hl => match us, hl with | [_, _], _ => rfl,
      g_p_signs_of := PySem.W.mg_of X G a11,
      f_l_cell := f12,
      d_l_cell := _,
      F_l_cell := fun_mk (st := s_l_cell) l12 c12 k12,
      b_l_cell := (fun_mk (st := s_l_cell) l12 c12 k12).binds (ps := ["_law_script", "_law_at"]) fun _ _ _ _ _ _ us hl => match us, hl with | [_, _], _ => rfl,
      g_l_cell := PySem.W.mg_of X G a12,
      f_l_row := f13,
      d_l_row := _,
      F_l_row := fun_mk (st := s_l_row) l13 c13 k13,
      b_l_row := (fun_mk (st := s_l_row) l13 c13 k13).binds (ps := ["_law_cell_here", "_law_many", "_law_size"]) fun _ _ _ _ _ _ us hl => match us, hl with | [_, _, _], _ => rfl,
      g_l_row := PySem.W.mg_of X G a13,
      f_l_like := f14,
      d_l_like := _,
      F_l_like := fun_mk (st := s_l_like) l14 c14 k14,
      b_l_like := (fun_mk (st := s_l_like) l14 c14 k14).binds (ps := ["_law_found", "_law_due"]) fun _ _ _ _ _ _ us hl => match us, hl with | [_, _], _ => rfl,
      g_l_like := PySem.W.mg_of X G a14,
      f_l_word := f15,
      d_l_word := _,
      F_l_word := fun_mk (st := s_l_word) l15 c15 k15,
      b_l_word := (fun_mk (st := s_l_word) l15 c15 k15).binds (ps := ["_law_cell_here"]) fun _ _ _ _ _ _ us hl => match us, hl with | [_], _ => rfl,
      g_l_word := PySem.W.mg_of X G a15,
      f_l_signs_of := f16,
      d_l_signs_of := _,
      F_l_signs_of := fun_mk (st := s_l_signs_of) l16 c16 k16,
      b_l_signs_of := (fun_mk (st := s_l_signs_of) l16 c16 k16).binds (ps := ["_law_words", "_law_some"]) fun _ _ _ _ _ _ us hl => match us, hl with | [_, _], _ => rfl,
      g_l_signs_of := PySem.W.mg_of X G a16,
      f_l_book := f17,
      d_l_book := _,
      F_l_book := fun_mk (st := s_l_book) l17 c17 k17,
      b_l_book := (fun_mk (st := s_l_book) l17 c17 k17).binds (ps := ["_law_script", "_law_at"]) fun _ _ _ _ _ _ us hl => match us, hl with | [_, _], _ => rfl,
      g_l_book := PySem.W.mg_of X G a17,
      f_l_some_words := f18,
      d_l_some_words := _,
      F_l_some_words := fun_mk (st := s_l_some_words) l18 c18 k18,
      b_l_some_words := (fun_mk (st := s_l_some_words) l18 c18 k18).binds (ps := ["_law_words", "_law_cell_here", "_law_most"]) fun _ _ _ _ _ _ us hl => match us, hl with | [_, _, _], _ => rfl,
      g_l_some_words := PySem.W.mg_of X G a18,
      f_l_told := f19,
      d_l_told := _,
      F_l_told := fun_mk (st := s_l_told) l19 c19 k19,
      b_l_told := (fun_mk (st := s_l_told) l19 c19 k19).binds (ps := ["_law_book_here", "_law_words"]) fun _ _ _ _ _ _ us hl => match us, hl with | [_, _], _ => rfl,
      g_l_told := PySem.W.mg_of X G a19,
      f_l_later := f20,
      d_l_later := _,
      F_l_later := fun_mk (st := s_l_later) l20 c20 k20,
      b_l_later := (fun_mk (st := s_l_later) l20 c20 k20).binds (ps := ["_law_book_here", "_law_words"]) fun _ _ _ _ _ _ us hl => match us, hl with | [_, _], _ => rfl,
      g_l_later := PySem.W.mg_of X G a20,
      u_LETTERS := _,
      c_LETTERS := PySem.W.mg_of X G q_LETTERS,
      r_LETTERS := ⟨_, rfl⟩,
      u_LAST_PAGE := _,
      c_LAST_PAGE := PySem.W.mg_of X G q_LAST_PAGE,
      r_LAST_PAGE := ⟨_, rfl⟩,
      u_FIRST_LETTER := _,
      c_FIRST_LETTER := PySem.W.mg_of X G q_FIRST_LETTER,
      r_FIRST_LETTER := ⟨_, rfl⟩,
      u_END := _,
      c_END := PySem.W.mg_of X G q_END,
      r_END := ⟨_, rfl⟩,
      u_LONGEST_WORD := _,
      c_LONGEST_WORD := PySem.W.mg_of X G q_LONGEST_WORD,
      r_LONGEST_WORD := ⟨_, rfl⟩,
      m_all := PySem.W.mg_none_of X G z_all,
      m_len := PySem.W.mg_none_of X G z_len,
      m_sorted := PySem.W.mg_none_of X G z_sorted,
      m_list := PySem.W.mg_none_of X G z_list,
      m_range := PySem.W.mg_none_of X G z_range,
      m_isinstance := PySem.W.mg_none_of X G z_isinstance,
      m_bool := PySem.W.mg_none_of X G z_bool,
      m_int := PySem.W.mg_none_of X G z_int,
      m_str := PySem.W.mg_none_of X G z_str,
      m_tuple := PySem.W.mg_none_of X G z_tuple,
      oc_get := oc_get,
      oc_tak := oc_tak }
  have hP : h.get? P_tab = some { cls := .none, data := .fields #[] } := own "is_word" List.mem_cons_self f2 (PySem.W.mg_of X G a2) c_tab P_tab _ _ _ _ _ _ l2 rfl rfl y_l y_11
  have hc : PySem.W.CodeHd h c_tab P_tab := codeHd_mk X y_l y_11 y_18 y_7 y_9 y_10 y_ne
  refine ⟨PySem.W.fnOf "law" "law" (defArgs s_law) (defBody s_law) (defScope s_law) .none kV21 dc21 pm21 an21 cd21 ct21, [(c_tab, P_tab)], sp_law K P_tab, ?_, ?_, ?_, fun s v => .of_eq rfl, fun H a ns hl _ hT hS => ⟨a, ns, rfl, hS, hl, ⟨#[], hT _ List.mem_cons_self, trivial⟩, fun _ => rfl⟩, fun base _ _ TB => ok_law T (let tb := TB (c_tab, P_tab) List.mem_cons_self; ⟨tb.code, tb.bm, tb.gP⟩) (fun_mk (st := s_law) l21 c21 k21)⟩
  all_goals (intro p hp; cases List.mem_singleton.mp hp)
  · exact hP
  · exact y_P
  · exact hc
end Mw
open PySem PySem.W PyProof.Rows
set_option maxRecDepth 100000 in
set_option maxHeartbeats 0 in
theorem PySem.Challenge.cw_mastword_k06_words_told_by_signs_holds : PySem.Challenge.rw_mastword_k06_words_told_by_signs.Holds := by
  w_on; o_law; k_head; (case hw => w_witness2)
  k_fill
  refine Mw.walk_tab (l := PySem.Challenge.rw_mastword_k06_words_told_by_signs) (n := 63) (k := 12) (x := "_law_script") (CX := fun _ => L2.CX0) ["is_word"] rfl (by decide) rfl ⟨rfl, by decide, by decide⟩ (by decide +kernel) (fun w h Y => PySem.W.kIn_of Y) ?F (fun _ _ _ _ _ h => h)
  case F =>
    intro w mg fa h KX G hmg own
    refine' Mw.all_mk KX G hmg own ?e_MastError ?x_MastError ?k_MastError ?b_MastError ?t_MastError ?i_MastError ?h_MastError ?ga_MastError ?gg_MastError ?cl_MastError ?mo_MastError ?v_MastError ?e_BadPlace ?x_BadPlace ?k_BadPlace ?b_BadPlace ?t_BadPlace ?i_BadPlace ?h_BadPlace ?ga_BadPlace ?gg_BadPlace ?cl_BadPlace ?mo_BadPlace ?v_BadPlace ?e_BadWord ?x_BadWord ?k_BadWord ?b_BadWord ?t_BadWord ?i_BadWord ?h_BadWord ?ga_BadWord ?gg_BadWord ?cl_BadWord ?mo_BadWord ?v_BadWord ?e_Taken ?x_Taken ?k_Taken ?b_Taken ?t_Taken ?i_Taken ?h_Taken ?ga_Taken ?gg_Taken ?cl_Taken ?mo_Taken ?v_Taken ?e_Known ?x_Known ?k_Known ?b_Known ?t_Known ?i_Known ?h_Known ?ga_Known ?gg_Known ?cl_Known ?mo_Known ?v_Known ?e_NoWord ?x_NoWord ?k_NoWord ?b_NoWord ?t_NoWord ?i_NoWord ?h_NoWord ?ga_NoWord ?gg_NoWord ?cl_NoWord ?mo_NoWord ?v_NoWord ?s_MastError_MastError ?s_BadPlace_MastError ?s_BadWord_MastError ?s_BadWord_BadWord ?s_Taken_MastError ?s_Known_MastError ?s_NoWord_MastError ?e_Phrasebook ?pg_Phrasebook ?hd_Phrasebook ?po_Phrasebook ?sa_Phrasebook ?mk_Phrasebook ?kc_Phrasebook ?n_Phrasebook_word_by_place ?n_Phrasebook_place_by_word ?a1 ?l1 ?c1 ?k1 ?a2 ?l2 ?c2 ?y_l ?y_11 ?y_18 ?y_7 ?y_9 ?y_10 ?y_ne ?y_P ?k2 ?a3 ?l3 ?c3 ?k3 ?a4 ?l4 ?c4 ?k4 ?a5 ?i5 ?l5 ?c5 ?k5 ?a6 ?i6 ?l6 ?c6 ?k6 ?a7 ?i7 ?l7 ?c7 ?k7 ?a8 ?i8 ?l8 ?c8 ?k8 ?a9 ?i9 ?l9 ?c9 ?k9 ?a10 ?i10 ?l10 ?c10 ?k10 ?a11 ?l11 ?c11 ?k11 ?a12 ?l12 ?c12 ?k12 ?a13 ?l13 ?c13 ?k13 ?a14 ?l14 ?c14 ?k14 ?a15 ?l15 ?c15 ?k15 ?a16 ?l16 ?c16 ?k16 ?a17 ?l17 ?c17 ?k17 ?a18 ?l18 ?c18 ?k18 ?a19 ?l19 ?c19 ?k19 ?a20 ?l20 ?c20 ?k20 ?a21 ?l21 ?c21 ?k21 ?q_LETTERS ?q_LAST_PAGE ?q_FIRST_LETTER ?q_END ?q_LONGEST_WORD ?z_all ?z_len ?z_sorted ?z_list ?z_range ?z_isinstance ?z_bool ?z_int ?z_str ?z_tuple ?oc_get ?oc_tak
    (case e_MastError => k_is)
    (case x_MastError => k_exc)
    (case k_MastError => k_is)
    (case b_MastError => k_is)
    (case t_MastError => k_is)
    (case i_MastError => k_is)
    (case h_MastError => k_is)
    (case ga_MastError => k_is)
    (case gg_MastError => k_is)
    (case cl_MastError => k_is)
    (case mo_MastError => k_is)
    (case v_MastError => k_is)
    (case e_BadPlace => k_is)
    (case x_BadPlace => k_exc)
    (case k_BadPlace => k_is)
    (case b_BadPlace => k_is)
    (case t_BadPlace => k_is)
    (case i_BadPlace => k_is)
    (case h_BadPlace => k_is)
    (case ga_BadPlace => k_is)
    (case gg_BadPlace => k_is)
    (case cl_BadPlace => k_is)
    (case mo_BadPlace => k_is)
    (case v_BadPlace => k_is)
    (case e_BadWord => k_is)
    (case x_BadWord => k_exc)
    (case k_BadWord => k_is)
    (case b_BadWord => k_is)
    (case t_BadWord => k_is)
    (case i_BadWord => k_is)
    (case h_BadWord => k_is)
    (case ga_BadWord => k_is)
    (case gg_BadWord => k_is)
    (case cl_BadWord => k_is)
    (case mo_BadWord => k_is)
    (case v_BadWord => k_is)
    (case e_Taken => k_is)
    (case x_Taken => k_exc)
    (case k_Taken => k_is)
    (case b_Taken => k_is)
    (case t_Taken => k_is)
    (case i_Taken => k_is)
    (case h_Taken => k_is)
    (case ga_Taken => k_is)
    (case gg_Taken => k_is)
    (case cl_Taken => k_is)
    (case mo_Taken => k_is)
    (case v_Taken => k_is)
    (case e_Known => k_is)
    (case x_Known => k_exc)
    (case k_Known => k_is)
    (case b_Known => k_is)
    (case t_Known => k_is)
    (case i_Known => k_is)
    (case h_Known => k_is)
    (case ga_Known => k_is)
    (case gg_Known => k_is)
    (case cl_Known => k_is)
    (case mo_Known => k_is)
    (case v_Known => k_is)
    (case e_NoWord => k_is)
    (case x_NoWord => k_exc)
    (case k_NoWord => k_is)
    (case b_NoWord => k_is)
    (case t_NoWord => k_is)
    (case i_NoWord => k_is)
    (case h_NoWord => k_is)
    (case ga_NoWord => k_is)
    (case gg_NoWord => k_is)
    (case cl_NoWord => k_is)
    (case mo_NoWord => k_is)
    (case v_NoWord => k_is)
    (case s_MastError_MastError => (first | rfl | k_is))
    (case s_BadPlace_MastError => (first | rfl | k_is))
    (case s_BadWord_MastError => (first | rfl | k_is))
    (case s_BadWord_BadWord => (first | rfl | k_is))
    (case s_Taken_MastError => (first | rfl | k_is))
    (case s_Known_MastError => (first | rfl | k_is))
    (case s_NoWord_MastError => (first | rfl | k_is))
    (case e_Phrasebook => k_is)
    (case pg_Phrasebook => k_is)
    (case hd_Phrasebook => k_is)
    (case po_Phrasebook => k_is)
    (case sa_Phrasebook => k_is)
    (case mk_Phrasebook => k_is)
    (case kc_Phrasebook => k_is)
    (case n_Phrasebook_word_by_place => k_is)
    (case n_Phrasebook_place_by_word => k_is)
    (case a1 => k_is)
    (case l1 => k_is)
    (case c1 => k_is)
    (case k1 => k_is)
    (case a2 => k_is)
    (case l2 => k_is)
    (case c2 => k_is)
    (case y_l => k_is)
    (case y_11 => rfl)
    (case y_18 => rfl)
    (case y_7 => rfl)
    (case y_9 => rfl)
    (case y_10 => rfl)
    (case y_ne => (intro z; cases z))
    (case y_P => rfl)
    (case k2 => k_is)
    (case a3 => k_is)
    (case l3 => k_is)
    (case c3 => k_is)
    (case k3 => k_is)
    (case a4 => k_is)
    (case l4 => k_is)
    (case c4 => k_is)
    (case k4 => k_is)
    (case a5 => k_is)
    (case i5 => k_is)
    (case l5 => k_is)
    (case c5 => k_is)
    (case k5 => k_is)
    (case a6 => k_is)
    (case i6 => k_is)
    (case l6 => k_is)
    (case c6 => k_is)
    (case k6 => k_is)
    (case a7 => k_is)
    (case i7 => k_is)
    (case l7 => k_is)
    (case c7 => k_is)
    (case k7 => k_is)
    (case a8 => k_is)
    (case i8 => k_is)
    (case l8 => k_is)
    (case c8 => k_is)
    (case k8 => k_is)
    (case a9 => k_is)
    (case i9 => k_is)
    (case l9 => k_is)
    (case c9 => k_is)
    (case k9 => k_is)
    (case a10 => k_is)
    (case i10 => k_is)
    (case l10 => k_is)
    (case c10 => k_is)
    (case k10 => k_is)
    (case a11 => k_is)
    (case l11 => k_is)
    (case c11 => k_is)
    (case k11 => k_is)
    (case a12 => k_is)
    (case l12 => k_is)
    (case c12 => k_is)
    (case k12 => k_is)
    (case a13 => k_is)
    (case l13 => k_is)
    (case c13 => k_is)
    (case k13 => k_is)
    (case a14 => k_is)
    (case l14 => k_is)
    (case c14 => k_is)
    (case k14 => k_is)
    (case a15 => k_is)
    (case l15 => k_is)
    (case c15 => k_is)
    (case k15 => k_is)
    (case a16 => k_is)
    (case l16 => k_is)
    (case c16 => k_is)
    (case k16 => k_is)
    (case a17 => k_is)
    (case l17 => k_is)
    (case c17 => k_is)
    (case k17 => k_is)
    (case a18 => k_is)
    (case l18 => k_is)
    (case c18 => k_is)
    (case k18 => k_is)
    (case a19 => k_is)
    (case l19 => k_is)
    (case c19 => k_is)
    (case k19 => k_is)
    (case a20 => k_is)
    (case l20 => k_is)
    (case c20 => k_is)
    (case k20 => k_is)
    (case a21 => k_is)
    (case l21 => k_is)
    (case c21 => k_is)
    (case k21 => k_is)
    (case q_LETTERS => k_is)
    (case q_LAST_PAGE => k_is)
    (case q_FIRST_LETTER => k_is)
    (case q_END => k_is)
    (case q_LONGEST_WORD => k_is)
    (case z_all => k_is)
    (case z_len => k_is)
    (case z_sorted => k_is)
    (case z_list => k_is)
    (case z_range => k_is)
    (case z_isinstance => k_is)
    (case z_bool => k_is)
    (case z_int => k_is)
    (case z_str => k_is)
    (case z_tuple => k_is)
    (case oc_get => k_is)
    (case oc_tak => k_is)
