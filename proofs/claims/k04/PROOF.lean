import PyProof.Rows.All
import Wide.All
import OpenK.AllK
import Wide.FinOn
import HandS.ForMost
import HandS.ForExc
import HandS.AnyAll
import HandS.EndTab
import HandS.ExcIs
import HandS.ExcField
import HandS.ExcInit
import HandS.IsInst
import HandS.Conv
import HandS.Replace
import HandS.Flow
import HandS.Walk
import HandS.Evl
import KE.KExcIs
import HandS.EndOwn
import HandS.CallRecv
import PySem.Challenge.RW_mastword_k04_words_known
set_option Elab.async false
set_option linter.all false
set_option maxRecDepth 100000
set_option maxHeartbeats 2000000
namespace Mw
open PySem PySem.Spec PyProof.Rows L2
/-! ### what is kept: every tracked thing but the tables of code objects, which stay tables -/
def isT : HO → Bool
  | .tbl _ => true
  | _ => false
structure Kp (H H' : Hp) : Prop where
  same : ∀ a o, isT o = false → H a = some o → H' a = some o
  tab : ∀ a, GxR.TabG H a → GxR.TabG H' a
  free : ∀ a, H' a = none → H a = none
theorem Kp.refl (H : Hp) : Kp H H := ⟨fun _ _ _ h => h, fun _ h => h, fun _ h => h⟩
theorem Kp.trans {H H1 H2 : Hp} (a : Kp H H1) (b : Kp H1 H2) : Kp H H2 :=
  ⟨fun x o t h => b.same x o t (a.same x o t h), fun x h => b.tab x (a.tab x h), fun x h => a.free x (b.free x h)⟩
theorem Kp.mut {H H' : Hp} {p : Addr} {o : HO} (e : Kp H H') (h : H p = none) : Kp H (upd H' p o) := by
  refine ⟨fun a u t ha => ?_, fun a ⟨ps, ha, ht⟩ => ?_, fun a ha => ?_⟩
  · rw [upd_ne (ne_of_none ha h)]
    exact e.same a u t ha
  · obtain ⟨ps', h1, h2⟩ := e.tab a ⟨ps, ha, ht⟩
    exact ⟨ps', by rw [upd_ne (ne_of_none ha h)]; exact h1, h2⟩
  · by_cases q : a = p
    · rw [q]
      exact h
    · rw [upd_ne q] at ha
      exact e.free a ha
theorem Kp.new {H : Hp} {p : Addr} {o : HO} (h : H p = none) : Kp H (upd H p o) := (Kp.refl H).mut h
theorem Kp.rd {H H' : Hp} {a : Addr} {u : HO} (e : Kp H H') (t : isT u = false) (h : Rd H a u) : Rd H' a u := by
  rcases h with h | ⟨o, h⟩
  · exact Or.inl (e.same a _ t h)
  · exact Or.inr ⟨o, e.same a _ rfl h⟩
theorem Kp.sqL {K : PySem.W.Frag} {H H' : Hp} {a : Addr} {xs : List V} (e : Kp H H') (h : SqL K H a xs) : SqL K H' a xs := by
  rcases h with h | h
  · exact Or.inl (e.rd rfl h)
  · exact Or.inr h
theorem Kp.sqT {K : PySem.W.Frag} {H H' : Hp} {a : Addr} {xs : List V} (e : Kp H H') (h : SqT K H a xs) : SqT K H' a xs := by
  rcases h with h | h
  · exact Or.inl (e.rd rfl h)
  · exact Or.inr h
mutual
theorem Kp.dp {K : PySem.W.Frag} {H H' : Hp} (e : Kp H H') : ∀ {d : PyData} {v : V}, Dp K H v d → Dp K H' v d
  | _, _, .non => .non
  | _, _, .bl b => .bl b
  | _, _, .int i => .int i
  | _, _, .str x => .str x
  | _, _, .lst h a => .lst (e.sqL h) (Kp.dpAll e a)
  | _, _, .tup h a => .tup (e.sqT h) (Kp.dpAll e a)
theorem Kp.dpAll {K : PySem.W.Frag} {H H' : Hp} (e : Kp H H') : ∀ {ds : List PyData} {vs : List V}, DpAll K H vs ds → DpAll K H' vs ds
  | _, _, .nil => .nil
  | _, _, .cons h t => .cons (Kp.dp e h) (Kp.dpAll e t)
end
theorem DpAll.len {K : PySem.W.Frag} {H : Hp} : ∀ {vs : List V} {ds : List PyData}, DpAll K H vs ds → vs.length = ds.length
  | _, _, .nil => rfl
  | _, _, .cons _ t => congrArg (· + 1) (DpAll.len t)
theorem DpAll.get {K : PySem.W.Frag} {H : Hp} : ∀ {vs : List V} {ds : List PyData} {i : Nat} {d : PyData}, DpAll K H vs ds → ds[i]? = some d → ∃ v, vs[i]? = some v ∧ Dp K H v d
  | _, _, i, d, .nil, h => by simp at h
  | _, _, 0, d, .cons a _, h => by
    have e := Option.some.inj h
    subst e
    exact ⟨_, rfl, a⟩
  | _, _, i + 1, d, .cons _ t, h => DpAll.get (i := i) t h
theorem DpAll.app {K : PySem.W.Frag} {H : Hp} : ∀ {vs ws : List V} {ds es : List PyData}, DpAll K H vs ds → DpAll K H ws es → DpAll K H (vs ++ ws) (ds ++ es)
  | _, _, _, _, .nil, b => b
  | _, _, _, _, .cons a t, b => .cons a (DpAll.app t b)
/-- data without lists -/
inductive Nl : PyData → Prop
  | non : Nl .none
  | bl (b : Bool) : Nl (.bool b)
  | int (i : Int) : Nl (.int i)
  | str (x : Str) : Nl (.str x)
  | tup {ds : List PyData} : (∀ d ∈ ds, Nl d) → Nl (.tuple ds)
/-! a list may change: what has no list in it stays -/
mutual
theorem Dp.mut {K : PySem.W.Frag} {H : Hp} {p : Addr} {o : HO} {zs : List V} (hp : H p = some (.lst zs)) : ∀ {d : PyData} {v : V}, Nl d → Dp K H v d → Dp K (upd H p o) v d
  | _, _, _, .non => .non
  | _, _, _, .bl b => .bl b
  | _, _, _, .int i => .int i
  | _, _, _, .str x => .str x
  | _, _, n, .lst _ _ => nomatch n
  | _, _, n, .tup h a => by
    cases n with
    | tup n =>
      refine .tup ?_ (DpAll.mut hp n a)
      rcases h with (h | ⟨ob, h⟩) | h
      · exact .inl (.inl (by rw [upd_ne (ne_of h hp (by intro z; cases z))]; exact h))
      · exact .inl (.inr ⟨ob, by rw [upd_ne (ne_of h hp (by intro z; cases z))]; exact h⟩)
      · exact .inr h
theorem DpAll.mut {K : PySem.W.Frag} {H : Hp} {p : Addr} {o : HO} {zs : List V} (hp : H p = some (.lst zs)) : ∀ {ds : List PyData} {vs : List V}, (∀ d ∈ ds, Nl d) → DpAll K H vs ds → DpAll K (upd H p o) vs ds
  | _, _, _, .nil => .nil
  | _, _, n, .cons h t => .cons (Dp.mut hp (n _ List.mem_cons_self) h) (DpAll.mut hp (fun d hd => n d (List.mem_cons_of_mem _ hd)) t)
end
theorem DpAll.snoc {K : PySem.W.Frag} {H : Hp} {vs : List V} {ds : List PyData} {v : V} {d : PyData} (a : DpAll K H vs ds) (h : Dp K H v d) : DpAll K H (vs ++ [v]) (ds ++ [d]) := DpAll.app a (.cons h .nil)
theorem DpAll.dropLast {K : PySem.W.Frag} {H : Hp} : ∀ {vs : List V} {ds : List PyData}, DpAll K H vs ds → DpAll K H vs.dropLast ds.dropLast
  | _, _, .nil => .nil
  | _, _, .cons _ .nil => .nil
  | _, _, .cons h (.cons h2 t) => .cons h (DpAll.dropLast (.cons h2 t))
theorem dp_ints {K : PySem.W.Frag} {H : Hp} : ∀ ns : List Int, DpAll K H (ns.map V.int) (ns.map PyData.int)
  | [] => .nil
  | n :: r => .cons (.int n) (dp_ints r)
theorem dp_strs {K : PySem.W.Frag} {H : Hp} : ∀ ns : List Str, DpAll K H (ns.map V.str) (ns.map PyData.str)
  | [] => .nil
  | n :: r => .cons (.str n) (dp_strs r)
/-- a list of ints, a list of texts as data -/
def dI (ns : List Int) : PyData := .list (ns.map PyData.int)
def dS (ns : List Str) : PyData := .list (ns.map PyData.str)
theorem dp_dI {K : PySem.W.Frag} {H : Hp} {a : Addr} {ns : List Int} (h : SqL K H a (ns.map V.int)) : Dp K H (.ref a) (dI ns) := .lst h (dp_ints ns)
theorem dpAll_ints {K : PySem.W.Frag} {H : Hp} : ∀ {ns : List Int} {vs : List V}, DpAll K H vs (ns.map PyData.int) → vs = ns.map V.int
  | [], _, .nil => rfl
  | n :: r, _, .cons h t => by
    cases h
    rw [dpAll_ints t]
    rfl
theorem dp_of_dI {K : PySem.W.Frag} {H : Hp} {v : V} {ns : List Int} (h : Dp K H v (dI ns)) : ∃ a, v = .ref a ∧ SqL K H a (ns.map V.int) := by
  cases h with
  | lst h t =>
    rw [dpAll_ints t] at h
    exact ⟨_, rfl, h⟩
/-! ### small words -/
theorem at_int {ns : List Int} {j : Nat} (h : j < ns.length) : atI (ns.map V.int) (j : Int) = some (.int ns[j]) := atI_nat (by rw [List.getElem?_map, List.getElem?_eq_getElem h]; rfl)
theorem at_intZ {ns : List Int} {z : Int} (h0 : 0 ≤ z) (h : z.toNat < ns.length) : atI (ns.map V.int) z = some (.int ns[z.toNat]) := by
  have e := at_int h
  rw [Int.toNat_of_nonneg h0] at e
  exact e
theorem szl {n : Nat} (h : n ≤ 100000) : n ≤ sizeLine := Nat.le_trans h (by decide)
theorem szt {n : Nat} (h : n < 100000) : n < sizeLine := Nat.lt_of_lt_of_le h (by decide)
theorem iteB {b : Bool} {A B : Prop} (h1 : b = true → A) (h2 : b = false → B) : if b = true then A else B := by
  cases b with
  | true => rw [if_pos rfl]; exact h1 rfl
  | false => rw [if_neg Bool.false_ne_true]; exact h2 rfl
theorem iteD {c : Prop} [Decidable c] {A B : Prop} (h1 : c → A) (h2 : ¬ c → B) : if decide c = true then A else B :=
  iteB (fun h => h1 (of_decide_eq_true h)) (fun h => h2 (of_decide_eq_false h))
theorem iteN {c : Prop} [Decidable c] {A B : Prop} (h1 : ¬ c → A) (h2 : c → B) : if (!decide c) = true then A else B :=
  iteB (fun h => h1 (fun z => by rw [decide_eq_true z] at h; cases h)) (fun h => h2 (by
    by_cases z : c
    · exact z
    · rw [decide_eq_false z] at h; cases h))
theorem iteTo {b : Bool} {A B : Prop} (e : b = true) (h : A) : if b = true then A else B := by rw [if_pos e]; exact h
theorem iteFo {b : Bool} {A B : Prop} (e : b = false) (h : B) : if b = true then A else B := by rw [e, if_neg Bool.false_ne_true]; exact h
/-! ### rules with the written part by its own name (inside a comprehension) -/
section
variable {X : Cx} (K : PySem.W.Frag)
theorem ix_listK (h : X.K = K) : IxR X (rIxL K) := h ▸ ix_list
theorem ix_tupK (h : X.K = K) : IxR X (rIxT K) := h ▸ ix_tup
theorem ix_seqK (h : X.K = K) : IxR X (rIx K) := h ▸ ix_seq
def rLenSq : List V → Hp → VK → Prop := fun xs H Q => ∃ p ys, xs = [.ref p] ∧ (SqL K H p ys ∨ SqT K H p ys) ∧ Q (.int ys.length) H
theorem call_lenSK (h : X.K = K) : CallR X (.builtin "len") (rLenSq K) := h ▸ call_len_seq
def rLenV : List V → Hp → VK → Prop := fun xs H Q => ∃ x n, xs = [x] ∧ LenV K x H n ∧ Q (.int n) H
theorem call_lenK (h : X.K = K) : CallR X (.builtin "len") (rLenV K) := h ▸ call_len
theorem op_inK (h : X.K = K) : OpR X (compareOp .In) (rIn K false) := h ▸ op_in_seq
theorem op_notInK (h : X.K = K) : OpR X (compareOp .NotIn) (rIn K true) := h ▸ op_notIn_seq
theorem op_eqDK (h : X.K = K) (hu : X.A.units + 64 < cLine) : OpR X (compareOp .Eq) (rEqD K) := h ▸ op_eqD hu
theorem op_neDK (h : X.K = K) (hu : X.A.units + 64 < cLine) : OpR X (compareOp .NotEq) (rNeD K) := h ▸ op_neD hu
theorem call_isiKK (h : X.K = K) : CallR X (.builtin "isinstance") (rIsi K) := h ▸ call_isi
end
section
variable {X : Cx} (K : PySem.W.Frag)
theorem pgK {e : Expr} {n : Nat} {t : TGs} (h : X.K = K) (p : PG X e (gTup X.K n t)) : PG X e (gTup K n t) := h ▸ p
/-- isinstance(e, C), e what the suite has caught (without or with a dict of its own) -/
def rIsX (cls : Value) (d : Option Addr) (a : Addr) : List V → Hp → VK → Prop := fun xs H Q => ∃ (D : Addr) (c : V) (cv : Value) (b : Bool), cls = .ref D ∧ (d = none ∨ ∃ dd fs, d = some dd ∧ H dd = some (.xd fs)) ∧ ExcC K D ∧ xs = [.ref a, c] ∧ ClsV c cv ∧ PySem.W.kitOne K (.ref D) cv = some b ∧ Q (.bl b) H
theorem call_isX {a : Addr} {oe : Obj} {pn : List (Addr × Obj)} {cls : Value} {d : Option Addr} (h : X.K = K) (hz : Zc cls d oe) (hf : ∃ vs, oe.data = .fields vs) : CallR (X.suite a ((a, oe) :: pn)) (.builtin "isinstance") (rIsX K cls d a) := by
  subst h
  intro pins s σ H xs us Q I r h'
  obtain ⟨D, c, cv, b, rfl, hd, C, rfl, hc, hk, q⟩ := h'
  cases r with | cons rx rr =>
  cases rr with | cons rt rr =>
  cases rr
  cases rx
  have ec := hc.eq rt
  subst ec
  obtain ⟨hget, _⟩ := I.pin (a, oe) (List.mem_append_left _ List.mem_cons_self)
  obtain ⟨vs, hv⟩ := hf
  have hcl : (PySem.W.clsIn X.K D).isSome = true := by
    obtain ⟨cd, hc, _⟩ := PySem.W.any_some C.hd
    rw [hc]
    first | rfl | done
  have nc : PySem.W.notCls oe = true := by
    unfold PySem.W.notCls
    rw [hv]
  rcases hd with rfl | ⟨dd, fs, rfl, hdd⟩
  · have J : PySem.W.InstAt s.heap a oe D none := ⟨hget, hz.1, nc, by rw [hz.2]; trivial⟩
    exact PySem.W.kia_one (PySem.W.kitx_exc hcl C.hg C.hk C.hs C.ha C.hn C.ht C.hm) I.kIn J hk (fun z => nomatch z) fun tk => ⟨.bl b, H, I.kept (t' := tk) fun _ _ z => z, rfl, q⟩
  · obtain ⟨mA, hns, hr⟩ := I.hok dd _ hdd
    obtain ⟨od, ho, hl⟩ := lookIn_ns hns
    have J : PySem.W.InstAt s.heap a oe D (some od) := ⟨hget, hz.1, nc, by rw [hz.2]; exact ho⟩
    exact PySem.W.kia_one (PySem.W.kitx_exc hcl C.hg C.hk C.hs C.ha C.hn C.ht C.hm) I.kIn J hk (fun z => nomatch z) fun tk => ⟨.bl b, H, I.kept (t' := tk) fun _ _ z => z, rfl, q⟩
end
/-! ### isinstance of an own error, by what the written part says of its class -/
theorem kit_sub {K : PySem.W.Frag} {t : Value} {C : Addr} (ic : PySem.W.isClsIn K C = true) (tC : PySem.W.typeIn K (.ref C) = some (.type "type")) (h : PySem.W.subIn K t (.ref C) = some true) : PySem.W.kitOne K t (.ref C) = some true := by
  unfold PySem.W.kitOne
  by_cases e : (t == .ref C) = true
  · rw [if_pos e]
  · rw [if_neg e]
    have h2 : ((PySem.W.clsIn K C).isSome && PySem.W.typeIn K (.ref C) == some (.type "type")) = true := by
      have q : (PySem.W.clsIn K C).isSome = true := ic
      rw [q, tC]
      rfl
    show (if ((PySem.W.clsIn K C).isSome && PySem.W.typeIn K (.ref C) == some (.type "type")) = true then PySem.W.subIn K t (.ref C) else none) = some true
    rw [if_pos h2]
    exact h
theorem kit_not {K : PySem.W.Frag} {t : Value} {C : Addr} (ic : PySem.W.isClsIn K C = true) (tC : PySem.W.typeIn K (.ref C) = some (.type "type")) (h : PySem.W.subIn K t (.ref C) = some false) (hs : PySem.W.subIn K t t = some true) : PySem.W.kitOne K t (.ref C) = some false := by
  unfold PySem.W.kitOne
  have e : ¬ (t == .ref C) = true := fun e => by
    have z : t = .ref C := by simpa using e
    rw [z] at h hs
    rw [h] at hs
    cases hs
  rw [if_neg e]
  have h2 : ((PySem.W.clsIn K C).isSome && PySem.W.typeIn K (.ref C) == some (.type "type")) = true := by
    have q : (PySem.W.clsIn K C).isSome = true := ic
    rw [q, tC]
    rfl
  show (if ((PySem.W.clsIn K C).isSome && PySem.W.typeIn K (.ref C) == some (.type "type")) = true then PySem.W.subIn K t (.ref C) else none) = some false
  rw [if_pos h2]
  exact h
theorem meta_ve : PySem.W.kitMeta "ValueError" = true := by decide +kernel
theorem kit_ve {K : PySem.W.Frag} {C : Addr} (h : PySem.W.subIn K (.ref C) (.type "ValueError") = some true) : PySem.W.kitOne K (.ref C) (.type "ValueError") = some true := by
  unfold PySem.W.kitOne
  rw [if_neg (by intro z; cases z)]
  show (if PySem.W.kitMeta "ValueError" = true then PySem.W.subIn K (.ref C) (.type "ValueError") else none) = some true
  rw [if_pos meta_ve]
  exact h
/-! ### all(test for x in a text): the test may read the module's names -/
section
open GxR
variable {X : Cx} {pins : List (Addr × Obj)} {σ : L2.St} {H : Hp} {s : Shared}
/-- the test of one sign, the module's names being mg -/
def EltG (prog : Program) (w : World) (mg : Str → Option Value) (sco : Scope) (x : Str) (elt : Expr) (pb : Nat → Bool) : Prop :=
  ∀ (en : Env) (B : Around) (F : Value → Shared → Prop) (c : Nat) (t : Tok) (z : Shared) (m : Str → Option Value),
    en.scope = sco → en.globals = mainGlobals → z.heap.Ns mainGlobals mg → z.heap.Ns en.locals m → m x = some (.str ⟨#[c]⟩ t) →
    wpAny (model prog w) B (eval elt en) (fun y z' => y = .bool (pb c) ∧ Keeps z z') F z
theorem elt_inG {prog : Program} {w : World} {mg : Str → Option Value} {sco : Scope} {x g : Str} {L : Str} {tl : Tok} {p1 p2 p3 : Pos} (kf : sco.kind = .function) (lx : sco.names.lookup x = some .local) (lg : sco.names.lookup g = some .globalImplicit)
    (hL : mg g = some (.str L tl)) (dx : (x == ("__debug__" : Str)) = false := by decide) (dg : (g == ("__debug__" : Str)) = false := by decide) :
    EltG prog w mg sco x (.Compare (.Name x p1) [.In] [.Name g p2] p3) (fun c => decide (c ∈ L.cps.toList)) := by
  intro en B F c t z m es eg ng nl hm
  have kk : en.scope.kind = .function := by rw [es]; exact kf
  refine wpAny_Compare1 ?_ rfl
  refine wpAny_Name (wpAny_loadName_local kk (show en.scope.names.lookup x = some .local by rw [es]; exact lx) nl hm ?_) dx
  refine Calls.Name_function_global kk (show en.scope.names.lookup g = some .globalImplicit by rw [es]; exact lg) (Calls.loadGlobal_global (mg := mg) (by rw [eg]; exact ng) hL ?_) dg
  refine PyProof.Rows.in_str ⟨?_, keeps_refl _⟩
  rw [PySem.StrLaws.found_one L c]
theorem gen_signs {c P : Addr} {elt src : Expr} {x : Str} {px gp : Pos} {sco : Scope} {pb : Nat → Bool} {te : TE} {k : Nat} {Z : Value → Shared → Prop} {R : Str → Hp → Prop}
    (hr : Room k X.A) (TB : TabB X.base X.mg c P) (hco : X.env.code = .ref c) (S : GenS X.env sco x) (hi : PE X src te) (hel : EltG X.prog X.w X.mg sco x elt pb)
    (hs : ∀ v, genFold src X.env v = pure v) (I : Inv X pins σ H s) (h : te σ H fun v H1 => ∃ a : Str, v = .str a ∧ TabG H1 P ∧ R a H1)
    (hZ : ∀ a H1 g z, R a H1 → Ready X pins σ H1 P a pb g z → Z (.ref g) z) :
    wpAny (model X.prog X.w) X.A (eval (.GeneratorExp elt [⟨.Name x px, src, [], 0⟩] sco gp) X.env) Z X.xe s := by
  refine wpAny_GeneratorExp_walksQ hr.hd S.co (closure_ok S.free) S.cell S.dot S.loc S.kind (by have d := hr.dp; omega) ?_ hs
  refine thn (hi.run pins s σ H _ I h) fun xv z1 ⟨v, H1, J, r1, q⟩ => ?_
  obtain ⟨a, rfl, ⟨ps, hP, ht⟩, q⟩ := q
  obtain ⟨t, rfl⟩ := _root_.id r1
  refine wpAny_pyIter_str fun it St W w0 => ?_
  have gP : z1.heap.get? P = some { cls := .none, data := .fields ps } := J.hok P _ hP
  have gP2 : (z1.heap.push it).get? P = some { cls := .none, data := .fields ps } := Heap.get?_push_of_some _ gP
  have ltP : P < z1.heap.objs.size := Heap.lt_size gP
  have hd2 : PySem.W.CodeHd (z1.heap.push it) c P := TB.code.keeps fun b u e => Heap.get?_push_of_some _ (J.bk b u e)
  have nl2 : (z1.heap.push it).NoLimit := J.nolimit.push it
  have go : ∀ (code : Value) (hh : Heap) (tk : Nat) (qs : Array Value), Heap.ExtBut P (z1.heap.push it) hh → (z1.heap.push it).objs.size ≤ hh.objs.size →
      hh.get? P = some { cls := .none, data := .fields qs } → (∃ more, qs = ps ++ more) → TriplesOk qs.toList →
      wpAny (model X.prog X.w) X.A (builtinsFor X.env.globals X.env.builtins) (fun bi s₄ =>
        ∃ Ia fp wr n₀ Pf St₀ pz F, Value.ref z1.heap.objs.size = .ref Ia ∧ (∀ A' : Around, A'.handled = none → Walks X.prog X.w A' Ia fp wr n₀ Pf St₀) ∧
          St₀ 0 s₄.heap ∧ (∀ b ∈ fp, b < s₄.heap.objs.size) ∧ s₄.heap.NoLimit ∧ cStatics ∉ wr ∧
          (∀ hf : Heap, (∀ b o, s₄.heap.get? b = some o → hf.get? b = some o) →
            QuietGen X.prog X.w (genEnv sco (cloFrom X.env.cells sco.names []) s₄.heap.objs.size code bi X.env) x [] elt (List.range s₄.heap.objs.size) wr Pf pz F hf) ∧
          (∀ a h₅ tk gs, gs.bare = true → s₄.heap.objs.size < a → h₅.objs.size = a + 1 → (∀ b o, s₄.heap.get? b = some o → h₅.get? b = some o) →
            WalksS X.prog X.w X.A.in4 a (a :: s₄.heap.objs.size :: List.range s₄.heap.objs.size) (s₄.heap.objs.size :: wr) (GenOnlyQ s₄.gens.size)
              (passing pz n₀ 0).length (fun j y => ∃ i, (passing pz n₀ 0)[j]? = some i ∧ F i y)
              (GenAt X.prog X.w X.A.in4 a s₄.gens.size s₄.heap.objs.size (List.range s₄.heap.objs.size) wr pz n₀ F) →
            GenAt X.prog X.w X.A.in4 a s₄.gens.size s₄.heap.objs.size (List.range s₄.heap.objs.size) wr pz n₀ F 0 { s₄ with gens := s₄.gens.push gs, toks := tk, heap := h₅ } →
            Z (.ref a) { s₄ with gens := s₄.gens.push gs, toks := tk, heap := h₅ })) X.xe { z1 with heap := hh, toks := tk } := by
    intro code hh tk qs ex sz gq mr tq
    obtain ⟨bm, ob, b1, b2, b3, b4, b5, b6, b7, b8⟩ := TB.bm
    have neS : cStatics ≠ P := fun e => by
      obtain ⟨_, ns, _⟩ := J.nolimit
      obtain ⟨oo, es, ep, go1, gd, _⟩ := ns
      rw [e, gP] at go1
      cases go1
      cases gd
    have ltS : cStatics < z1.heap.objs.size := let ⟨_, ns, _⟩ := J.nolimit; ns.lt
    have szp : (z1.heap.push it).objs.size = z1.heap.objs.size + 1 := Heap.size_push ..
    have kp : ∀ b u, b ≠ P → z1.heap.get? b = some u → hh.get? b = some u := fun b u hb e => ex b u hb (Heap.get?_push_of_some _ e)
    have gl1 : z1.heap.Ns mainGlobals X.mg := J.mod.glob.keeps J.bk
    have glh : hh.Ns mainGlobals X.mg := (gl1.push it).extBut ex TB.gP
    refine wpAny_builtinsFor (m := X.mg) (by rw [J.ok.glob]; exact glh) b1 b2 (kp _ _ b4 (J.bk _ _ b5)) b6 b7 b8 ?_
    refine ⟨z1.heap.objs.size, [z1.heap.objs.size], [z1.heap.objs.size], a.cps.size, SignAt a, St, (fun _ => true), (fun i y => ∃ cc, a.cps[i]? = some cc ∧ y = .bool (pb cc)), rfl, W, ?_, ?_, nl2.extBut ex neS, ?_, ?_, ?_⟩
    · refine (W X.A hr.hd).frame _ _ _ w0 fun b hb u e => ex b u (fun eq => ?_) e
      rw [List.mem_singleton.mp hb] at eq
      exact Nat.ne_of_lt ltP eq.symm
    · intro b hb
      rw [List.mem_singleton.mp hb]
      show z1.heap.objs.size < hh.objs.size
      omega
    · exact fun m => Nat.ne_of_lt ltS (List.mem_singleton.mp m)
    · intro hf keep
      refine ⟨fun A' E' i v z2 m2 _ _ _ _ _ => ?_, fun A' E' i v z2 m2 _ hv _ hn hm hk => ?_⟩
      · simp only [List.forIn_nil]
        exact wpAny_pure ⟨rfl, keeps_refl _⟩
      · obtain ⟨cc, u, hcc, rfl⟩ := hv
        have ngl : z2.heap.Ns mainGlobals X.mg := by
          have lt1 : mainGlobals < z1.heap.objs.size := gl1.lt
          obtain ⟨og, es, ep, e1, er⟩ := glh
          exact ⟨og, es, ep, hk mainGlobals (List.mem_range.mpr (Heap.lt_size e1)) (fun m => Nat.ne_of_lt lt1 (List.mem_singleton.mp m)) og (keep _ _ e1), er⟩
        exact wpAny_mono (hel _ A' E' cc u z2 m2 rfl J.ok.glob ngl hn hm) (fun y z3 r => ⟨⟨cc, hcc, r.1⟩, r.2⟩) fun _ _ e => e
    · intro g h5 tk5 gs bare lt5 sz5 k5 W5 at5
      simp only [GxR.passing_true, List.length_range] at W5
      refine hZ a H1 g _ q ⟨_, _, _, _, _, W5.in4_1, at5, ?_, fun z' mv => ?_⟩
      · intro j y sj Qj Ej hy hQj
        obtain ⟨i, hij, cc, hcc, rfl⟩ := hy
        obtain ⟨lj, ej⟩ := List.getElem?_eq_some_iff.mp hij
        rw [List.getElem_range] at ej
        subst ej
        have e9 : a.cps.toList[j]? = some cc := by rw [Array.getElem?_toList]; exact hcc
        have hQ2 : Qj (trF pb a.cps.toList j) sj := hQj
        rw [trF_some e9] at hQ2
        exact wpAny_truthy_bool hQ2
      · obtain ⟨more, em⟩ := mr
        have out : ∀ b u, z1.heap.get? b = some u → b ∉ hh.objs.size :: [z1.heap.objs.size] := fun b u e hb => by
          have lt := Heap.lt_size e
          rcases List.mem_cons.mp hb with y | y
          · rw [y] at lt
            have lt' : (hh.objs.size : Nat) < z1.heap.objs.size := lt
            omega
          · rw [List.mem_singleton.mp y] at lt
            exact Nat.lt_irrefl _ lt
        have J2 := inv_tab (more := more) (h' := z'.heap) (g' := z'.gens) (d' := z'.drawn) (t' := z'.toks) J hP
          (fun b u hb e => mv.heap b u (out b u e) (k5 b u (kp b u hb e)))
          (by rw [← em]; exact mv.heap P _ (out P _ gP) (k5 P _ gq))
          (AllBare.movedS (J.bare.push bare) mv)
        rw [sh_eta z1 z' mv.os] at J2
        exact ⟨upd H1 P (.tbl (ps ++ more)), ⟨⟨ps ++ more, upd_same, by rw [← em]; exact tq⟩, fun b hb => upd_ne hb⟩, J2⟩
  refine ⟨nl2, ?_⟩
  cases hf : codeAmong gp ps.toList with
  | none =>
    refine wpAny_genexprCodeX hco (hd2.code gP2 ht) (hd2.tab gP2) hf fun c' h' tk ex ge lt hc' _ tab' _ => ?_
    obtain ⟨_, _, _, _, _, _, _, _, _, _, _, _, _, _, _, _, _, _, _, tr, _⟩ := hc'
    exact go _ h' tk _ ex (Nat.le_trans ge (Nat.le_of_lt lt)) tab'.2 ⟨_, rfl⟩ tr
  | some cv =>
    refine wpAny_genexprCode_hit hco (hd2.code gP2 ht) hf ?_
    exact go cv (z1.heap.push it) z1.toks ps (Heap.ExtBut.refl _ _) (Nat.le_refl _) gP2 ⟨#[], by simp⟩ ht
theorem pe_allG {c P : Addr} {elt src : Expr} {x : Str} {px p pos gp : Pos} {sco : Scope} {pb : Nat → Bool} {te : TE} {k : Nat}
    (hr : Room k X.A) (hg : Gl X "all") (hm : X.mg "all" = none) (hb : bootBuiltins "all" = some (.builtin "all")) (TB : TabB X.base X.mg c P) (hco : X.env.code = .ref c) (S : GenS X.env sco x) (hi : PE X src te) (hel : EltG X.prog X.w X.mg sco x elt pb)
    (hs : ∀ v, genFold src X.env v = pure v)
    (he : starEach [.GeneratorExp elt [⟨.Name x px, src, [], 0⟩] sco gp] X.env = (false, eval (.GeneratorExp elt [⟨.Name x px, src, [], 0⟩] sco gp) X.env) :: starEach [] X.env := by rfl) :
    PE X (.Call (.Name "all" p) [.GeneratorExp elt [⟨.Name x px, src, [], 0⟩] sco gp] [] pos) (tAllS P pb te) := by
  refine ⟨fun pins z σ H Q I h => ?_⟩
  refine wpAny_Call_Name_kw (ld_blt I hg hm hb (PyProof.Rows.callWith_builtin1 ?_ he (by rfl)))
  rw [he]
  show wpAny _ _ (spliced ((false, eval (.GeneratorExp elt [⟨.Name x px, src, [], 0⟩] sco gp) X.env) :: backTo pos (starEach [] X.env))) _ _ z
  refine Calls.spliced_cons (gen_signs (R := fun a H1 => ∀ H2, Tabbed P H1 H2 → Q (.bl (a.cps.toList.all pb)) H2) hr TB hco S hi hel hs I h fun a H1 g z5 hR hG => ?_)
  obtain ⟨fp, wr, G, F, St, W, st0, tru, fin⟩ := hG
  refine Calls.spliced_nil (call_all_walkS (W.self 0 _ _ _ st0 ⟨g, fp, wr, G, _, F, St, _, rfl, W, st0, tru, fun z' mv => ?_⟩))
  obtain ⟨H2, tb, J⟩ := fin z' mv
  refine ⟨.bl _, H2, J, rfl, ?_⟩
  rw [all_signs a pb]
  exact hR H2 tb
/-- a table may grow -/
theorem kp_tabbed {P : Addr} {H H' : Hp} (h : TabG H P) (t : Tabbed P H H') : Kp H H' := by
  obtain ⟨ps, hP, _⟩ := h
  obtain ⟨⟨qs, hQ, tq⟩, e⟩ := t
  refine ⟨fun b o n hb => ?_, fun b hb => ?_, fun b hb => ?_⟩
  · have ne : b ≠ P := fun z => by
      rw [z, hP] at hb
      cases hb
      cases n
    rw [e b ne]
    exact hb
  · by_cases z : b = P
    · rw [z]
      exact ⟨qs, hQ, tq⟩
    · obtain ⟨rs, h1, h2⟩ := hb
      exact ⟨rs, by rw [e b z]; exact h1, h2⟩
  · by_cases z : b = P
    · rw [z, hQ] at hb
      cases hb
    · rw [e b z] at hb
      exact hb
end

/-! ### a def whose code object is known, a method that may raise in a try, the end with a table -/
structure FunC (K : PySem.W.Frag) (x qual : Str) (st : Stmt) (f : Addr) (fd : FuncData) (c : Addr) : Prop where
  ex : ∃ (oc : Value) (od : Option Addr) (kV doc pm : Value) (an : Option Addr) (ct : Value) (osl : Array (Option Value)),
    fd = PySem.W.fnOf x qual (defArgs st) (defBody st) (defScope st) .none kV doc pm an (.ref c) ct ∧ K.lookup f = some ⟨oc, od, .func fd, osl⟩ ∧ PySem.W.codeIn K (.ref c) qual = true
theorem FunC.ok {P : Program} {w : World} {K : PySem.W.Frag} {mg : Str → Option Value} {base : Heap} {x qual : Str} {st : Stmt} {f c : Addr} {fd : FuncData} {N ps : List Str} {k : Nat} {sp : Sp} (F : FunC K x qual st f fd c) (S : FnScope N ps (defScope st)) (len : ∀ vs H Q E, sp vs H Q E → vs.length = ps.length)
    (body : ∀ (A : Around) (outer : List Env) (s : Shared) (H : Hp) (vs : List V) (Q : VK) (E : XK), Room k (A.deeper (envOfC qual (defScope st) s.heap.objs.size f (.ref c))) → sp vs H Q E →
      ∃ t, PSs (cxOf CX0 P w K mg base N qual (defScope st) f (.ref c) A outer s H E).nox (defBody st) t ∧ t { nx := fun _ H' => Q .non H', rt := Q } (start N vs) H) : FnOk P w K mg base CX0 (k + 1) f fd ps sp := by
  obtain ⟨oc, od, kV, doc, pm, an, ct, osl, rfl, lk, cd⟩ := F.ex
  refine fn_of lk cd S len fun A outer s H vs Q E hr hs => ?_
  obtain ⟨t, h, q⟩ := body A outer s H vs Q E hr hs
  exact ⟨t, h.nox, q⟩
theorem noFree {names : List (Str × NameKind)} {cells : List (Str × Addr)} (h : names.all (fun y => decide (y.2 ≠ .free)) = true) : ∀ y ∈ names, y.2 = .free → ∃ c, cells.lookup y.1 = some c := fun y hy e =>
  absurd e (of_decide_eq_true (List.all_eq_true.mp h y hy))
theorem noCell {names : List (Str × NameKind)} (h : names.all (fun y => decide (y.2 ≠ .cell)) = true) : ∀ y ∈ names, y.2 ≠ .cell := fun y hy => of_decide_eq_true (List.all_eq_true.mp h y hy)
section
variable {X : Cx} {CX : CXT} {k : Nat} {C f : Addr} {fd : FuncData} {ps : List Str} {sp : Sp} {m : Str} {o e : Expr} {es : List Expr} {ta : TE} {t : TA} {E : L2.St → XK} {apos pos : Pos}
def tMethE (C : Addr) (m : Str) (sp : Sp) (E : L2.St → XK) (ta : TE) (t : TA) : TE := fun σ H Q => ta σ H fun x H1 => ∃ a dx fs, x = .ref a ∧ H1 a = some (.ins C dx fs) ∧ fs.lookup m = none ∧ t σ H1 fun vs H2 => sp (.ref a :: vs) H2 Q (E σ)
theorem pe_methE {pl : Sem Bool} (he : PE X o ta) (c : Cls X.K C) (hm : Meth X.K C m f) (F : FnOk X.prog X.w X.K X.mg X.base CX k f fd ps sp) (hr : Room k X.A) (hb : Binds X.K fd ps []) (hx : ∀ σ, PassesAt CX X σ (E σ)) (ha : PA X (e :: es) t)
    (s1 : starEach (e :: es) X.env = (false, eval e X.env) :: starEach es X.env := by rfl) (s2 : (backTo pos (starEach es X.env)).any (·.1) = false := by rfl)
    (ht : eval (.Call (.Attribute o m apos) (e :: es) [] pos) X.env = (do
      let v ← eval o X.env
      standAt apos.atName
      let (g, fst) ← holding [v] (getMethod v m pl)
      callWith pos g fst (backTo pos (starEach (e :: es) X.env)) (backToKw pos (keywordEach [] X.env))) := by rfl) :
    PE X (.Call (.Attribute o m apos) (e :: es) [] pos) (tMethE C m sp E ta t) := by
  refine ⟨fun pins z σ H Q I h => ?_⟩
  refine PySem.W.methodCall_KW (pl := pl) (thn (he.run pins z σ H _ I h) fun u z1 ⟨x, H1, J, rx, a, dx, fs, ex, ea, l, q⟩ => ?_) ht
  subst ex
  obtain rfl : u = Value.ref a := rx
  refine getmeth_ok J ea c hm l ?_
  refine PySem.W.callWith_K (first := [.ref a]) (h₀ := X.base) I.ok.mod.kin hm.kp (thn (ha.run pos pins z1 σ H1 _ J q) fun us z2 ⟨vs, H2, J2, r, q2⟩ => ⟨J2.kIn, ?_⟩) s1 s2
  exact run_fnS (us := .ref a :: us) (vs := .ref a :: vs) F hr hb (hx σ) J2 (.cons rfl r) q2
end
theorem walk_tab {l : PySem.W.OpenLaw} {n k : Nat} {q : Program} {loose : List Str} {XP : (Str → Option Value) → Heap → Prop} {YP : World → Heap → Prop} {d : DefRec} {K : Params → PySem.W.Frag} {CX : World → CXT} {x : Str} (nms : List Str)
    (hn : l.most = some n) (hz : n ≤ sizeLine) (hdf : d.params.defaults = []) (hr : Room k callerA) (hrec : nms.all (fun y => (recsOf q).any fun e => e.name == y) = true) (hY : ∀ (w : World) (h : Heap), YP w h → (K w.params).In h)
    (F : ∀ (w : World) (mg : Str → Option Value) (fa : Addr) (h : Heap), (K w.params).In h → h.Ns mainGlobals mg → mg d.name = some (.ref fa) → (∀ y ∈ nms, ∀ f, mg y = some (.ref f) → LamX.OwnTab (K w.params) f h) → LamX.LawAtS l w (K w.params) (CX w) k n x mg fa h)
    (hCX : ∀ (w : World) (H : Hp) (s : Shared) (e : Value) (s' : Shared), CX w [] H s (fun _ _ _ => False) e s' → False) :
    PySem.W.WalkO q loose XP YP l.row.toRowW d [] (fun f vs => PySem.call f vs) := by
  refine Att.attach_callB hn hdf fun w s0 s1 mg mb fa o pm cd doc a vs ns G Y ho hd hcd hmg hob hin hlen hbits hg => ?_
  have KX := hY w _ Y
  have own : ∀ y ∈ nms, ∀ f, mg y = some (.ref f) → LamX.OwnTab (K w.params) f s1.heap := fun y hy f hf c P o1 fd1 e dd us sl k1 k2 k3 k4 k5 => by
    obtain ⟨dl, hm, he⟩ := List.any_eq_true.mp (List.all_eq_true.mp hrec y hy)
    have en : dl.name = y := beq_iff_eq.mp he
    obtain ⟨a', o', fd', c', P', t1, t2, t3, t4, t5, t6⟩ := G.T.tab dl hm
    rw [en, hf] at t1
    cases t1
    rw [KX _ _ k1] at t2
    cases t2
    rw [k2] at t3
    cases t3
    rw [k3] at t4
    cases t4
    obtain ⟨⟨oc, vc, u1, _, u3, u4⟩, hP⟩ := t6
    rw [KX _ _ k4] at u1
    cases u1
    cases u3
    rw [k5] at u4
    cases u4
    exact hP
  obtain ⟨fd, cs, sp, hT, nT, C, hb, hsp, hF⟩ := F w mg fa _ KX G.T.g hmg own
  exact LamX.law_callTs KX G.T.g G.T.b G.T.builtins G.T.nolimit hg hT nT C G.T.bmain hob hin (Nat.le_trans hlen hz) hr hF hb (fun H hH hS => hsp H a ns hlen hbits hH hS) fun H e s' => hCX w H s1 e s'
theorem codeHd_mk {K : PySem.W.Frag} {h : Heap} {c P : Addr} {dd : Option Addr} {vs : Array Value} {sl : Array (Option Value)} {fl : Str} {tf tg tt : Tok} {fg tx : Int} {b : Bool} (X : K.In h) (l : K.lookup c = some ⟨.type "code", dd, .fields vs, sl⟩) (h11 : vs[11]? = some (.ref P)) (h18 : vs.getD 18 .none = .str fl tf)
    (h7 : vs.getD 7 .none = .int fg tg) (h9 : vs.getD 9 .none = .bool b) (h10 : vs.getD 10 .none = .int tx tt) (ne : c ≠ P) : PySem.W.CodeHd h c P :=
  ⟨_, vs, fl, tf, fg, tg, b, tx, tt, X _ _ l, rfl, rfl, h11, by rw [Array.getD_eq_getD_getElem?, h11]; rfl, h18, h7, h9, h10, ne⟩

def top (i : Nat) : Stmt := PySem.Challenge.pw_mastword_k04_words_known.main.body.getD i (.Pass ⟨0, 0, 0, 0⟩)
abbrev s_p_is_word : Stmt := top 7
theorem sc_p_is_word : FnScope ["text", "letter"] ["text"] (defScope s_p_is_word) := ⟨rfl, rfl, rfl, by decide +kernel, rfl, by decide +kernel, by decide +kernel⟩
abbrev s_p_check_word : Stmt := top 8
theorem sc_p_check_word : FnScope ["text"] ["text"] (defScope s_p_check_word) := ⟨rfl, rfl, rfl, by decide +kernel, rfl, by decide +kernel, by decide +kernel⟩
abbrev s_p_Phrasebook_init : Stmt := inClass (top 9) 0
theorem sc_p_Phrasebook_init : FnScope ["self"] ["self"] (defScope s_p_Phrasebook_init) := ⟨rfl, rfl, rfl, by decide +kernel, rfl, by decide +kernel, by decide +kernel⟩
abbrev s_p_Phrasebook_place_of : Stmt := inClass (top 9) 3
theorem sc_p_Phrasebook_place_of : FnScope ["self", "word"] ["self", "word"] (defScope s_p_Phrasebook_place_of) := ⟨rfl, rfl, rfl, by decide +kernel, rfl, by decide +kernel, by decide +kernel⟩
abbrev s_l_cell : Stmt := top 11
theorem sc_l_cell : FnScope ["_law_script", "_law_at"] ["_law_script", "_law_at"] (defScope s_l_cell) := ⟨rfl, rfl, rfl, by decide +kernel, rfl, by decide +kernel, by decide +kernel⟩
abbrev s_l_row : Stmt := top 12
theorem sc_l_row : FnScope ["_law_cell_here", "_law_many", "_law_size", "_law_row_here", "_law_rest", "_law_k", "_law_seed", "_law_mixed"] ["_law_cell_here", "_law_many", "_law_size"] (defScope s_l_row) := ⟨rfl, rfl, rfl, by decide +kernel, rfl, by decide +kernel, by decide +kernel⟩
abbrev s_l_like : Stmt := top 13
theorem sc_l_like : FnScope ["_law_found", "_law_due", "_law_k"] ["_law_found", "_law_due"] (defScope s_l_like) := ⟨rfl, rfl, rfl, by decide +kernel, rfl, by decide +kernel, by decide +kernel⟩
abbrev s_l_is_word : Stmt := top 14
theorem sc_l_is_word : FnScope ["_law_text_here", "_law_sign"] ["_law_text_here"] (defScope s_l_is_word) := ⟨rfl, rfl, rfl, by decide +kernel, rfl, by decide +kernel, by decide +kernel⟩
abbrev s_l_text : Stmt := top 15
theorem sc_l_text : FnScope ["_law_script", "_law_nums", "_law_text_here", "_law_num", "_law_signs", "_law_at"] ["_law_script"] (defScope s_l_text) := ⟨rfl, rfl, rfl, by decide +kernel, rfl, by decide +kernel, by decide +kernel⟩
abbrev s_l_refused : Stmt := top 16
theorem sc_l_refused : FnScope ["_law_text_here", "_law_told", "e"] ["_law_text_here"] (defScope s_l_refused) := ⟨rfl, rfl, rfl, by decide +kernel, rfl, by decide +kernel, by decide +kernel⟩
abbrev s_law : Stmt := top 17
theorem sc_law : FnScope ["_law_script", "_law_text_here", "_law_due"] ["_law_script"] (defScope s_law) := ⟨rfl, rfl, rfl, by decide +kernel, rfl, by decide +kernel, by decide +kernel⟩
structure Txt (K : PySem.W.Frag) (mg : Str → Option Value) where
  a_MastError : Addr
  a_BadWord : Addr
  g_MastError : mg "MastError" = some (.ref a_MastError)
  x_MastError : PySem.W.excIn K a_MastError [.type "ValueError", .type "Exception", .type "BaseException", .type "object"] "ValueError.__new__" = true
  k_MastError : PySem.W.keepIn K (.ref a_MastError) = true
  b_MastError : PySem.W.subIn K (.ref a_MastError) (.type "BaseException") = some true
  t_MastError : PySem.W.typeIn K (.ref a_MastError) = some (.type "type")
  i_MastError : PySem.W.isClsIn K a_MastError = true
  h_MastError : PySem.W.hasDictIn K a_MastError = true
  ga_MastError : PySem.W.findIn K (.ref a_MastError) "__getattribute__" = some (some (.builtin "BaseException.__getattribute__"))
  gg_MastError : PySem.W.findIn K (.ref a_MastError) "__getattr__" = some none
  cl_MastError : PySem.W.findIn K (.ref a_MastError) "__class__" = some (some (.builtin "object.__class__"))
  mo_MastError : PySem.W.mroIn K a_MastError (.type "object") = some true
  v_MastError : PySem.W.subIn K (.ref a_MastError) (.type "ValueError") = some true
  s_MastError_MastError : PySem.W.subIn K (.ref a_MastError) (.ref a_MastError) = some true
  g_BadWord : mg "BadWord" = some (.ref a_BadWord)
  x_BadWord : PySem.W.excIn K a_BadWord [.type "ValueError", .type "Exception", .type "BaseException", .type "object"] "ValueError.__new__" = true
  k_BadWord : PySem.W.keepIn K (.ref a_BadWord) = true
  b_BadWord : PySem.W.subIn K (.ref a_BadWord) (.type "BaseException") = some true
  t_BadWord : PySem.W.typeIn K (.ref a_BadWord) = some (.type "type")
  i_BadWord : PySem.W.isClsIn K a_BadWord = true
  h_BadWord : PySem.W.hasDictIn K a_BadWord = true
  ga_BadWord : PySem.W.findIn K (.ref a_BadWord) "__getattribute__" = some (some (.builtin "BaseException.__getattribute__"))
  gg_BadWord : PySem.W.findIn K (.ref a_BadWord) "__getattr__" = some none
  cl_BadWord : PySem.W.findIn K (.ref a_BadWord) "__class__" = some (some (.builtin "object.__class__"))
  mo_BadWord : PySem.W.mroIn K a_BadWord (.type "object") = some true
  v_BadWord : PySem.W.subIn K (.ref a_BadWord) (.type "ValueError") = some true
  s_BadWord_MastError : PySem.W.subIn K (.ref a_BadWord) (.ref a_MastError) = some true
  s_BadWord_BadWord : PySem.W.subIn K (.ref a_BadWord) (.ref a_BadWord) = some true
  a_Phrasebook : Addr
  g_Phrasebook : mg "Phrasebook" = some (.ref a_Phrasebook)
  cl_Phrasebook : Cls K a_Phrasebook
  n_Phrasebook_word_by_place : NoAttr K a_Phrasebook "word_by_place"
  n_Phrasebook_place_by_word : NoAttr K a_Phrasebook "place_by_word"
  f_p_is_word : Addr
  d_p_is_word : FuncData
  c_tab : Addr
  P_tab : Addr
  W_p_is_word : FunC K "is_word" "is_word" s_p_is_word f_p_is_word d_p_is_word c_tab
  F_p_is_word : Fun K "is_word" "is_word" s_p_is_word f_p_is_word d_p_is_word
  b_p_is_word : Binds K d_p_is_word ["text"] []
  g_p_is_word : mg "is_word" = some (.ref f_p_is_word)
  f_p_check_word : Addr
  d_p_check_word : FuncData
  F_p_check_word : Fun K "check_word" "check_word" s_p_check_word f_p_check_word d_p_check_word
  b_p_check_word : Binds K d_p_check_word ["text"] []
  g_p_check_word : mg "check_word" = some (.ref f_p_check_word)
  f_p_Phrasebook_init : Addr
  d_p_Phrasebook_init : FuncData
  F_p_Phrasebook_init : Fun K "__init__" "Phrasebook.__init__" s_p_Phrasebook_init f_p_Phrasebook_init d_p_Phrasebook_init
  b_p_Phrasebook_init : Binds K d_p_Phrasebook_init ["self"] []
  M_p_Phrasebook_init : Meth K a_Phrasebook "__init__" f_p_Phrasebook_init
  K_Phrasebook : Mk K a_Phrasebook f_p_Phrasebook_init
  f_p_Phrasebook_place_of : Addr
  d_p_Phrasebook_place_of : FuncData
  F_p_Phrasebook_place_of : Fun K "place_of" "Phrasebook.place_of" s_p_Phrasebook_place_of f_p_Phrasebook_place_of d_p_Phrasebook_place_of
  b_p_Phrasebook_place_of : Binds K d_p_Phrasebook_place_of ["self", "word"] []
  M_p_Phrasebook_place_of : Meth K a_Phrasebook "place_of" f_p_Phrasebook_place_of
  f_l_cell : Addr
  d_l_cell : FuncData
  F_l_cell : Fun K "_law_cell" "_law_cell" s_l_cell f_l_cell d_l_cell
  b_l_cell : Binds K d_l_cell ["_law_script", "_law_at"] []
  g_l_cell : mg "_law_cell" = some (.ref f_l_cell)
  f_l_row : Addr
  d_l_row : FuncData
  F_l_row : Fun K "_law_row" "_law_row" s_l_row f_l_row d_l_row
  b_l_row : Binds K d_l_row ["_law_cell_here", "_law_many", "_law_size"] []
  g_l_row : mg "_law_row" = some (.ref f_l_row)
  f_l_like : Addr
  d_l_like : FuncData
  F_l_like : Fun K "_law_like" "_law_like" s_l_like f_l_like d_l_like
  b_l_like : Binds K d_l_like ["_law_found", "_law_due"] []
  g_l_like : mg "_law_like" = some (.ref f_l_like)
  f_l_is_word : Addr
  d_l_is_word : FuncData
  F_l_is_word : Fun K "_law_is_word" "_law_is_word" s_l_is_word f_l_is_word d_l_is_word
  b_l_is_word : Binds K d_l_is_word ["_law_text_here"] []
  g_l_is_word : mg "_law_is_word" = some (.ref f_l_is_word)
  f_l_text : Addr
  d_l_text : FuncData
  F_l_text : Fun K "_law_text" "_law_text" s_l_text f_l_text d_l_text
  b_l_text : Binds K d_l_text ["_law_script"] []
  g_l_text : mg "_law_text" = some (.ref f_l_text)
  f_l_refused : Addr
  d_l_refused : FuncData
  F_l_refused : Fun K "_law_refused" "_law_refused" s_l_refused f_l_refused d_l_refused
  b_l_refused : Binds K d_l_refused ["_law_text_here"] []
  g_l_refused : mg "_law_refused" = some (.ref f_l_refused)
  u_LETTERS : Value
  c_LETTERS : mg "LETTERS" = some u_LETTERS
  r_LETTERS : RelV (.str "abcdefghijklmnopqrstuvwxyz") u_LETTERS
  u_LONGEST_WORD : Value
  c_LONGEST_WORD : mg "LONGEST_WORD" = some u_LONGEST_WORD
  r_LONGEST_WORD : RelV (.int 12) u_LONGEST_WORD
  m_all : mg "all" = none
  m_len : mg "len" = none
  m_range : mg "range" = none
  m_isinstance : mg "isinstance" = none
  m_bool : mg "bool" = none
  m_int : mg "int" = none
  m_str : mg "str" = none
  m_list : mg "list" = none
  m_tuple : mg "tuple" = none
  oc_get : PySem.W.specialIn K (.builtin "object.__class__") "__get__" = some (some (.builtin "getset_descriptor.__get__"))
  oc_tak : PySem.W.takesIn K (.builtin "object.__class__") = some true
section
variable {P : Program} {w : World} {K : PySem.W.Frag} {mg : Str → Option Value} {base : Heap}
/-! ### _law_cell: an int of the script -/
def cellV (ns : List Int) (j : Nat) : Int :=
  if j < ns.length then ns.getD j 0 else if ns.length = 0 then 29 * (j : Int) + 5 else ns.getD (j % ns.length) 0 % 1000003 + 103 * (j : Int)
def sp_l_cell (K : PySem.W.Frag) : Sp := fun vs H Q _ => ∃ (l : Addr) (ns : List Int) (j : Nat), vs = [.ref l, .int j] ∧ SqL K H l (ns.map V.int) ∧ j ≤ 100000 ∧ Q (.int (cellV ns j)) H
theorem getD_at {ns : List Int} {j : Nat} (h : j < ns.length) : atI (ns.map V.int) (j : Int) = some (.int (ns.getD j 0)) := by
  rw [at_int h, List.getD_eq_getElem?_getD, List.getElem?_eq_getElem h]
  rfl
theorem ok_l_cell (T : Txt K mg) : FnOk P w K mg base CX0 1 T.f_l_cell T.d_l_cell ["_law_script", "_law_at"] (sp_l_cell K) := by
  refine T.F_l_cell.ok sc_l_cell (fun vs H Q E h => ?_) (fun cdv A outer s H vs Q E hr h => ?_)
  · obtain ⟨l, ns, j, rfl, _⟩ := h
    rfl
  · obtain ⟨l, ns, j, rfl, hS, hj, k⟩ := h
    have hlen : ((ns.map V.int).length : Int) = (ns.length : Int) := by rw [List.length_map]
    refine ⟨_, (pss_cons (ps_if (pt_cmpR op_lt (pv 1) (pe_callB call_len_seq (by rfl) T.m_len PySem.boot_len (pa_cons (pv 0) pa_nil)) (nomark _))
      (pss_one (ps_ret (pe_ix ix_list (pv 0) (pv 1) (fun _ _ => rfl))))
      pss_nil)
      (pss_cons (ps_if (pt_cmpR op_eq (pe_callB call_len_seq (by rfl) T.m_len PySem.boot_len (pa_cons (pv 0) pa_nil)) pe_int (nomark _))
      (pss_one (ps_ret (pe_op op_add (pe_op op_mul pe_int (pv 1)) pe_int)))
      pss_nil)
      (pss_one (ps_ret (pe_op op_add (pe_op op_mod (pe_ix ix_list (pv 0) (pe_op op_mod (pv 1) (pe_callB call_len_seq (by rfl) T.m_len PySem.boot_len (pa_cons (pv 0) pa_nil))) (fun _ _ => rfl)) pe_int) (pe_op op_mul pe_int (pv 1))))))), ?_⟩
    refine ⟨_, rfl, _, rfl, l, _, rfl, .inl hS, _, _, rfl, rfl, _, rfl, iteD (fun c => ?_) (fun c => ?_)⟩
    · rw [hlen] at c
      refine ⟨_, rfl, _, rfl, l, _, _, _, rfl, rfl, hS, getD_at (show j < ns.length by omega), ?_⟩
      have e : cellV ns j = ns.getD j 0 := if_pos (by omega)
      rw [e] at k
      exact k
    · rw [hlen] at c
      refine ⟨_, rfl, l, _, rfl, .inl hS, rfl, _, rfl, iteD (fun c2 => ?_) (fun c2 => ?_)⟩
      · have c3 : (ns.length : Int) = 0 := by
          have z := V.int.inj c2
          rw [hlen] at z
          exact z
        have e : cellV ns j = 29 * (j : Int) + 5 := by
          unfold cellV
          rw [if_neg (by omega), if_pos (by omega)]
        rw [e] at k
        exact ⟨_, rfl, _, _, rfl, rfl, .inl ⟨by decide, by decide⟩, _, _, rfl, rfl, k⟩
      · have c3 : ns.length ≠ 0 := fun z => c2 (by rw [hlen, z]; rfl)
        have hm : j % ns.length < ns.length := Nat.mod_lt _ (by omega)
        have e : cellV ns j = ns.getD (j % ns.length) 0 % 1000003 + 103 * (j : Int) := by
          unfold cellV
          rw [if_neg (by omega), if_neg c3]
        rw [e] at k
        have ea : atI (ns.map V.int) ((j : Int) % ((ns.map V.int).length : Int)) = some (.int (ns.getD (j % ns.length) 0)) := by
          rw [hlen, ← Int.natCast_emod]
          exact getD_at hm
        exact ⟨_, rfl, _, rfl, _, rfl, l, _, rfl, .inl hS, _, _, rfl, rfl, (by show (0 : Int) < ((ns.map V.int).length : Int); rw [hlen]; omega), l, _, _, _, rfl, rfl, hS, ea, _, _, rfl, rfl, (by show (0 : Int) < 1000003; decide), _, rfl, _, _, rfl, rfl, .inl ⟨by decide, by decide⟩, _, _, rfl, rfl, k⟩
/-! ### _law_like of one datum with itself -/
inductive Dn : Nat → PyData → Prop
  | non (n : Nat) : Dn (n + 1) .none
  | bl (n : Nat) (b : Bool) : Dn (n + 1) (.bool b)
  | int (n : Nat) (i : Int) : Dn (n + 1) (.int i)
  | str (n : Nat) (x : Str) : Dn (n + 1) (.str x)
  | lst {n : Nat} {ds : List PyData} : (∀ d ∈ ds, Dn n d) → ds.length ≤ 10000 → Dn (n + 1) (.list ds)
  | tup {n : Nat} {ds : List PyData} : (∀ d ∈ ds, Dn n d) → ds.length ≤ 10000 → Dn (n + 1) (.tuple ds)
def tyN : PyData → String
  | .none => "NoneType" | .bool _ => "bool" | .int _ => "int" | .str _ => "str" | .list _ => "list" | .tuple _ => "tuple" | .dict _ => "dict"
theorem ty_of {K : PySem.W.Frag} {H : Hp} {v : V} {d : PyData} (h : Dp K H v d) : TyX K H v (.type (tyN d)) := by
  cases h with
  | non => exact .base .non
  | bl b => exact .base (.bl b)
  | int i => exact .base (.int i)
  | str x => exact .base (.str x)
  | lst h _ =>
    rcases h with (h | ⟨o, h⟩) | ⟨o, its, n, e, c, _⟩
    · exact .base (.lst h)
    · exact .base (.frz h)
    · exact .kList e c
  | tup h _ =>
    rcases h with (h | ⟨o, h⟩) | ⟨o, its, n, e, c, _⟩
    · exact .base (.tup h)
    · exact .fTuple h
    · exact .kTuple e c
def sp_l_like (K : PySem.W.Frag) (n : Nat) : Sp := fun vs H Q _ => ∃ (u v : V) (d : PyData), vs = [u, v] ∧ Dp K H u d ∧ Dp K H v d ∧ Dn n d ∧ ∀ H', Kp H H' → Q (.bl true) H'
theorem fn_none {P : Program} {w : World} {K : PySem.W.Frag} {mg : Str → Option Value} {base : Heap} {f : Addr} {fd : FuncData} {ps : List Str} {sp : Sp} {k : Nat} (h : ∀ vs H Q E, ¬ sp vs H Q E) : FnOk P w K mg base CX0 k f fd ps sp :=
  ⟨fun vs H Q E q => (h vs H Q E q).elim, fun _ _ _ H _ _ vs Q E _ _ _ _ q => (h vs H Q E q).elim⟩
theorem bl_all {n : Nat} : ((List.replicate n true).map V.bl) = List.replicate n (V.bl true) := List.map_replicate
theorem all_rep (n : Nat) : (List.replicate n true).all id = true := by
  rw [List.all_eq_true]
  intro x hx
  rw [List.eq_of_mem_replicate hx]
  rfl
theorem k_bb : kitB "bool" "bool" = some true := by decide +kernel
theorem k_bi : kitB "bool" "int" = some true := by decide +kernel
theorem k_bs : kitB "bool" "str" = some false := by decide +kernel
theorem k_bl : kitB "bool" "list" = some false := by decide +kernel
theorem k_bt : kitB "bool" "tuple" = some false := by decide +kernel
theorem k_ib : kitB "int" "bool" = some false := by decide +kernel
theorem k_ii : kitB "int" "int" = some true := by decide +kernel
theorem k_is : kitB "int" "str" = some false := by decide +kernel
theorem k_il : kitB "int" "list" = some false := by decide +kernel
theorem k_it : kitB "int" "tuple" = some false := by decide +kernel
theorem k_sb : kitB "str" "bool" = some false := by decide +kernel
theorem k_si : kitB "str" "int" = some false := by decide +kernel
theorem k_ss : kitB "str" "str" = some true := by decide +kernel
theorem k_sl : kitB "str" "list" = some false := by decide +kernel
theorem k_st : kitB "str" "tuple" = some false := by decide +kernel
theorem k_lb : kitB "list" "bool" = some false := by decide +kernel
theorem k_li : kitB "list" "int" = some false := by decide +kernel
theorem k_ls : kitB "list" "str" = some false := by decide +kernel
theorem k_ll : kitB "list" "list" = some true := by decide +kernel
theorem k_lt : kitB "list" "tuple" = some false := by decide +kernel
theorem k_tb : kitB "tuple" "bool" = some false := by decide +kernel
theorem k_ti : kitB "tuple" "int" = some false := by decide +kernel
theorem k_ts : kitB "tuple" "str" = some false := by decide +kernel
theorem k_tl : kitB "tuple" "list" = some false := by decide +kernel
theorem k_tt : kitB "tuple" "tuple" = some true := by decide +kernel
theorem dec_self {x : V} : decide (x = x) = true := decide_eq_true rfl
theorem ok_l_like (T : Txt K mg) : ∀ n : Nat, FnOk P w K mg base CX0 n T.f_l_like T.d_l_like ["_law_found", "_law_due"] (sp_l_like K n)
  | 0 => fn_none fun vs H Q E ⟨u, v, d, _, _, _, h, _⟩ => nomatch h
  | n + 1 => by
    have IH := ok_l_like T n
    refine T.F_l_like.ok sc_l_like (fun vs H Q E h => ?_) (fun cdv A outer s H vs Q E hr h => ?_)
    · obtain ⟨u, v, d, rfl, _⟩ := h
      rfl
    · obtain ⟨u, v, d, rfl, hu, hv, hn, k⟩ := h
      have tu := ty_of hu
      have tv := ty_of hv
      refine ⟨_, (pss_cons (ps_if (pt_cmpR op_isN (pv 1) pe_non (nomark _))
      (pss_one (ps_ret (pe_cmpR op_isN (pv 0) pe_non (nomark _))))
      pss_nil)
      (pss_cons (ps_if (pt_val (pe_callB call_isi (by rfl) T.m_isinstance (by decide +kernel) (pa_cons (pv 1) (pa_cons (pe_bltn (v := .ty "bool") (by rfl) T.m_bool (by decide +kernel) rfl) pa_nil))))
      (pss_one (ps_ret (pe_and (pe_callB call_isi (by rfl) T.m_isinstance (by decide +kernel) (pa_cons (pv 0) (pa_cons (pe_bltn (v := .ty "bool") (by rfl) T.m_bool (by decide +kernel) rfl) pa_nil))) (pe_one (pe_cmpR op_eq (pv 0) (pv 1) (nomark _))))))
      pss_nil)
      (pss_cons (ps_if (pt_val (pe_callB call_isi (by rfl) T.m_isinstance (by decide +kernel) (pa_cons (pv 1) (pa_cons (pe_bltn (v := .ty "int") (by rfl) T.m_int (by decide +kernel) rfl) pa_nil))))
      (pss_one (ps_ret (pe_and (pe_callB call_isi (by rfl) T.m_isinstance (by decide +kernel) (pa_cons (pv 0) (pa_cons (pe_bltn (v := .ty "int") (by rfl) T.m_int (by decide +kernel) rfl) pa_nil))) (pe_and (pe_not (pe_callB call_isi (by rfl) T.m_isinstance (by decide +kernel) (pa_cons (pv 0) (pa_cons (pe_bltn (v := .ty "bool") (by rfl) T.m_bool (by decide +kernel) rfl) pa_nil)))) (pe_one (pe_cmpR op_eq (pv 0) (pv 1) (nomark _)))))))
      pss_nil)
      (pss_cons (ps_if (pt_val (pe_callB call_isi (by rfl) T.m_isinstance (by decide +kernel) (pa_cons (pv 1) (pa_cons (pe_bltn (v := .ty "str") (by rfl) T.m_str (by decide +kernel) rfl) pa_nil))))
      (pss_one (ps_ret (pe_and (pe_callB call_isi (by rfl) T.m_isinstance (by decide +kernel) (pa_cons (pv 0) (pa_cons (pe_bltn (v := .ty "str") (by rfl) T.m_str (by decide +kernel) rfl) pa_nil))) (pe_one (pe_cmpR op_eq (pv 0) (pv 1) (nomark _))))))
      pss_nil)
      (pss_cons (ps_if (PW.pt (pw_or (pt_cmpR op_ne (pe_callB call_isi (by rfl) T.m_isinstance (by decide +kernel) (pa_cons (pv 1) (pa_cons (pe_bltn (v := .ty "list") (by rfl) T.m_list (by decide +kernel) rfl) pa_nil))) (pe_callB call_isi (by rfl) T.m_isinstance (by decide +kernel) (pa_cons (pv 0) (pa_cons (pe_bltn (v := .ty "list") (by rfl) T.m_list (by decide +kernel) rfl) pa_nil))) (nomark _)) (pw_or1 (pt_cmpR op_ne (pe_callB call_isi (by rfl) T.m_isinstance (by decide +kernel) (pa_cons (pv 1) (pa_cons (pe_bltn (v := .ty "tuple") (by rfl) T.m_tuple (by decide +kernel) rfl) pa_nil))) (pe_callB call_isi (by rfl) T.m_isinstance (by decide +kernel) (pa_cons (pv 0) (pa_cons (pe_bltn (v := .ty "tuple") (by rfl) T.m_tuple (by decide +kernel) rfl) pa_nil))) (nomark _)))))
      (pss_one (ps_ret pe_bl))
      pss_nil)
      (pss_one (ps_ret (pe_and (pe_cmpR op_eq (pe_callB call_len (by rfl) T.m_len PySem.boot_len (pa_cons (pv 0) pa_nil)) (pe_callB call_len (by rfl) T.m_len PySem.boot_len (pa_cons (pv 1) pa_nil)) (nomark _)) (pe_one (pe_callB (cr_all rfl) (by rfl) T.m_all (by decide +kernel) (pa_cons (pe_lc (own := [("_law_k", 2)]) (g := gName 2) (tt := tYes) (by rfl) sc_l_like.nd (pi_range1 (by rfl) T.m_range (pa_cons (pe_callB call_len (by rfl) T.m_len PySem.boot_len (pa_cons (pv 1) pa_nil)) pa_nil)) (blkOk_by (own := [("_law_k", 2)]) (N := ["_law_found", "_law_due", "_law_k"]) (sc := defScope s_l_like) (by decide +kernel)) (fun _ _ _ _ _ => (pg_name (i := 2) sc_l_like.nd rfl (by first | exact Or.inl rfl | exact Or.inr rfl))) (fun _ _ _ _ _ => pts_nil) (fun _ _ _ _ _ => (pe_call IH hr rfl T.g_l_like T.F_l_like.kp T.b_l_like .nil pass0 (pa_cons (pe_ix (ix_seqK K rfl) (pv 0) (pv 2) (fun _ _ => rfl)) (pa_cons (pe_ix (ix_seqK K rfl) (pv 1) (pv 2) (fun _ _ => rfl)) pa_nil))))) pa_nil))))))))))), ?_⟩
      cases hn with
      | non n =>
        cases hu
        cases hv
        refine ⟨_, rfl, rfl, _, rfl, iteTo dec_self ?_⟩
        exact ⟨_, rfl, rfl, k _ (.refl _)⟩
      | bl n b =>
        cases hu
        cases hv
        refine ⟨_, rfl, rfl, _, rfl, iteFo rfl ?_⟩
        refine ⟨_, rfl, _, _, _, _, true, rfl, .ty _, tv, kit_ty k_bb, _, rfl, iteTo rfl ?_⟩
        refine ⟨_, rfl, _, _, _, _, true, rfl, .ty _, tu, kit_ty k_bb, _, rfl, iteTo rfl ?_⟩
        refine ⟨_, rfl, _, rfl, rfl, ?_⟩
        rw [dec_self]
        exact k _ (.refl _)
      | int n i =>
        cases hu
        cases hv
        refine ⟨_, rfl, rfl, _, rfl, iteFo rfl ?_⟩
        refine ⟨_, rfl, _, _, _, _, false, rfl, .ty _, tv, kit_ty k_ib, _, rfl, iteFo rfl ?_⟩
        refine ⟨_, rfl, _, _, _, _, true, rfl, .ty _, tv, kit_ty k_ii, _, rfl, iteTo rfl ?_⟩
        refine ⟨_, rfl, _, _, _, _, true, rfl, .ty _, tu, kit_ty k_ii, _, rfl, iteTo rfl ?_⟩
        refine ⟨_, rfl, _, _, _, _, false, rfl, .ty _, tu, kit_ty k_ib, _, rfl, _, rfl, iteTo rfl ?_⟩
        refine ⟨_, rfl, _, rfl, rfl, ?_⟩
        rw [dec_self]
        exact k _ (.refl _)
      | str n x =>
        cases hu
        cases hv
        refine ⟨_, rfl, rfl, _, rfl, iteFo rfl ?_⟩
        refine ⟨_, rfl, _, _, _, _, false, rfl, .ty _, tv, kit_ty k_sb, _, rfl, iteFo rfl ?_⟩
        refine ⟨_, rfl, _, _, _, _, false, rfl, .ty _, tv, kit_ty k_si, _, rfl, iteFo rfl ?_⟩
        refine ⟨_, rfl, _, _, _, _, true, rfl, .ty _, tv, kit_ty k_ss, _, rfl, iteTo rfl ?_⟩
        refine ⟨_, rfl, _, _, _, _, true, rfl, .ty _, tu, kit_ty k_ss, _, rfl, iteTo rfl ?_⟩
        refine ⟨_, rfl, _, rfl, rfl, ?_⟩
        rw [dec_self]
        exact k _ (.refl _)
      | lst hd hl =>
        rename_i ds
        cases hu with | lst hsu hau =>
        cases hv with | lst hsv hav =>
        rename_i a xs b ys
        have lx := DpAll.len hau
        have ly := DpAll.len hav
        refine ⟨_, rfl, rfl, _, rfl, iteFo rfl ?_⟩
        refine ⟨_, rfl, _, _, _, _, false, rfl, .ty _, tv, kit_ty k_lb, _, rfl, iteFo rfl ?_⟩
        refine ⟨_, rfl, _, _, _, _, false, rfl, .ty _, tv, kit_ty k_li, _, rfl, iteFo rfl ?_⟩
        refine ⟨_, rfl, _, _, _, _, false, rfl, .ty _, tv, kit_ty k_ls, _, rfl, iteFo rfl ?_⟩
        refine ⟨_, rfl, _, _, _, _, true, rfl, .ty _, tv, kit_ty k_ll, _, rfl, _, _, _, _, true, rfl, .ty _, tu, kit_ty k_ll, rfl, _, rfl, iteFo rfl ?_⟩
        refine ⟨_, rfl, _, _, _, _, false, rfl, .ty _, tv, kit_ty k_lt, _, rfl, _, _, _, _, false, rfl, .ty _, tu, kit_ty k_lt, rfl, _, rfl, iteFo rfl ?_⟩
        refine ⟨_, rfl, _, _, rfl, .inl ⟨_, hsu, rfl⟩, _, rfl, _, _, rfl, .inl ⟨_, hsv, rfl⟩, rfl, _, rfl, iteTo (decide_eq_true (congrArg (fun z : Nat => V.int (z : Int)) (lx.trans ly.symm))) ?_⟩
        refine ⟨_, rfl, _, _, rfl, .inl ⟨_, hsv, rfl⟩, _, rfl, by omega, by omega, fun D hD => ?_⟩
        rw [Int.toNat_natCast]
        refine lc_range (lo := 0) (n := ys.length) (fun i H' => Kp H H' ∧ H' D = some (.lst (List.replicate i (V.bl true)))) ⟨Kp.new hD, upd_same⟩ (fun i H' hi ⟨kp, hDl⟩ => ?_) (fun H' ⟨kp, hDl⟩ => ?_)
        · have e0 : (0 : Int) + (i : Int) = (i : Int) := Int.zero_add _
          obtain ⟨d, hdi⟩ : ∃ d, ds[i]? = some d := ⟨_, List.getElem?_eq_getElem (by omega)⟩
          obtain ⟨x, hx, dx⟩ := DpAll.get hau hdi
          obtain ⟨y, hy, dy⟩ := DpAll.get hav hdi
          refine ⟨rfl, ?_⟩
          refine ⟨_, rfl, _, rfl, .inl ⟨_, _, _, x, rfl, rfl, kp.sqL hsu, by rw [e0]; exact atI_nat hx, _, rfl, _, rfl, .inl ⟨_, _, _, y, rfl, rfl, kp.sqL hsv, by rw [e0]; exact atI_nat hy, ?_⟩⟩⟩
          refine ⟨x, y, d, rfl, kp.dp dx, kp.dp dy, hd d (List.mem_of_getElem? hdi), fun H2 k2 => ⟨_, k2.same _ _ rfl hDl, szt (by rw [List.length_replicate]; omega), ?_⟩⟩
          exact ⟨(kp.trans k2).mut hD, by rw [upd_same, List.replicate_succ']⟩
        · refine ⟨D, List.replicate ys.length true, rfl, .inl (.inl (by rw [bl_all]; exact hDl)), ?_⟩
          rw [all_rep]
          exact k _ kp
      | tup hd hl =>
        rename_i ds
        cases hu with | tup hsu hau =>
        cases hv with | tup hsv hav =>
        rename_i a xs b ys
        have lx := DpAll.len hau
        have ly := DpAll.len hav
        refine ⟨_, rfl, rfl, _, rfl, iteFo rfl ?_⟩
        refine ⟨_, rfl, _, _, _, _, false, rfl, .ty _, tv, kit_ty k_tb, _, rfl, iteFo rfl ?_⟩
        refine ⟨_, rfl, _, _, _, _, false, rfl, .ty _, tv, kit_ty k_ti, _, rfl, iteFo rfl ?_⟩
        refine ⟨_, rfl, _, _, _, _, false, rfl, .ty _, tv, kit_ty k_ts, _, rfl, iteFo rfl ?_⟩
        refine ⟨_, rfl, _, _, _, _, false, rfl, .ty _, tv, kit_ty k_tl, _, rfl, _, _, _, _, false, rfl, .ty _, tu, kit_ty k_tl, rfl, _, rfl, iteFo rfl ?_⟩
        refine ⟨_, rfl, _, _, _, _, true, rfl, .ty _, tv, kit_ty k_tt, _, rfl, _, _, _, _, true, rfl, .ty _, tu, kit_ty k_tt, rfl, _, rfl, iteFo rfl ?_⟩
        refine ⟨_, rfl, _, _, rfl, .inr ⟨_, hsu, rfl⟩, _, rfl, _, _, rfl, .inr ⟨_, hsv, rfl⟩, rfl, _, rfl, iteTo (decide_eq_true (congrArg (fun z : Nat => V.int (z : Int)) (lx.trans ly.symm))) ?_⟩
        refine ⟨_, rfl, _, _, rfl, .inr ⟨_, hsv, rfl⟩, _, rfl, by omega, by omega, fun D hD => ?_⟩
        rw [Int.toNat_natCast]
        refine lc_range (lo := 0) (n := ys.length) (fun i H' => Kp H H' ∧ H' D = some (.lst (List.replicate i (V.bl true)))) ⟨Kp.new hD, upd_same⟩ (fun i H' hi ⟨kp, hDl⟩ => ?_) (fun H' ⟨kp, hDl⟩ => ?_)
        · have e0 : (0 : Int) + (i : Int) = (i : Int) := Int.zero_add _
          obtain ⟨d, hdi⟩ : ∃ d, ds[i]? = some d := ⟨_, List.getElem?_eq_getElem (by omega)⟩
          obtain ⟨x, hx, dx⟩ := DpAll.get hau hdi
          obtain ⟨y, hy, dy⟩ := DpAll.get hav hdi
          refine ⟨rfl, ?_⟩
          refine ⟨_, rfl, _, rfl, .inr (.inl ⟨_, _, _, x, rfl, rfl, kp.sqT hsu, by rw [e0]; exact atI_nat hx, _, rfl, _, rfl, .inr (.inl ⟨_, _, _, y, rfl, rfl, kp.sqT hsv, by rw [e0]; exact atI_nat hy, ?_⟩)⟩)⟩
          refine ⟨x, y, d, rfl, kp.dp dx, kp.dp dy, hd d (List.mem_of_getElem? hdi), fun H2 k2 => ⟨_, k2.same _ _ rfl hDl, szt (by rw [List.length_replicate]; omega), ?_⟩⟩
          exact ⟨(kp.trans k2).mut hD, by rw [upd_same, List.replicate_succ']⟩
        · refine ⟨D, List.replicate ys.length true, rfl, .inl (.inl (by rw [bl_all]; exact hDl)), ?_⟩
          rw [all_rep]
          exact k _ kp
/-! ### _law_row: so many ints from nought to below a size -/
def Drawn0 (many size : Int) (xs : List Int) : Prop := (xs.length : Int) = many ∧ ∀ x ∈ xs, 0 ≤ x ∧ x < size
def sp_l_row : Sp := fun vs H Q _ => ∃ (c many size : Int), vs = [.int c, .int many, .int size] ∧ 0 ≤ many ∧ many ≤ 1000 ∧ 0 < size ∧ size < 1073741824 ∧
  ∀ (xs : List Int) (p : Addr) (H' : Hp), H p = none → Kp H H' → H' p = some (.lst (xs.map V.int)) → Drawn0 many size xs → Q (.ref p) H'
theorem snoc_in {size z : Int} {xs : List Int} (hs : 0 < size) (h : ∀ x ∈ xs, 0 ≤ x ∧ x < size) : ∀ x ∈ xs ++ [z % size], 0 ≤ x ∧ x < size := by
  intro x hx
  rcases List.mem_append.mp hx with hx | hx
  · exact h x hx
  · rw [List.mem_singleton.mp hx]
    exact ⟨Int.emod_nonneg _ (by omega), Int.emod_lt_of_pos _ hs⟩
theorem ok_l_row (T : Txt K mg) : FnOk P w K mg base CX0 1 T.f_l_row T.d_l_row ["_law_cell_here", "_law_many", "_law_size"] sp_l_row := by
  refine T.F_l_row.ok sc_l_row (fun vs H Q E h => ?_) (fun cdv A outer s H vs Q E hr h => ?_)
  · obtain ⟨c, many, size, rfl, _⟩ := h
    rfl
  · obtain ⟨c, many, size, rfl, hm0, hm1, hs0, hs1, k⟩ := h
    refine ⟨_, (pss_cons (ps_set (i := 3) sc_l_row.nd rfl (by first | exact Or.inl rfl | exact Or.inr rfl) (pe_lst pa_nil))
      (pss_cons (ps_if (pt_cmpR op_ge (pv 0) (pe_op op_pow pe_int pe_int) (nomark _))
      (pss_cons (ps_set (i := 4) sc_l_row.nd rfl (by first | exact Or.inl rfl | exact Or.inr rfl) (pe_op op_sub (pv 0) (pe_op op_pow pe_int pe_int)))
      (pss_cons (ps_for PassesOwn.never rfl (pi_range1 (by rfl) T.m_range (pa_cons (pv 1) pa_nil)) (pg_name (i := 5) sc_l_row.nd rfl (by first | exact Or.inl rfl | exact Or.inr rfl))
      (pss_cons (ps_expr (pe_bm PySem.F.plainAttrs_list PySem.F.slot_list_append PySem.F.type_list_append mt_append (pv 3) (pa_cons (pe_op op_mod (pv 4) (pv 2)) pa_nil)))
      (pss_one (ps_set (i := 4) sc_l_row.nd rfl (by first | exact Or.inl rfl | exact Or.inr rfl) (pe_op op_fdiv (pv 4) (pv 2))))))
      (pss_one (ps_ret (pv 3)))))
      pss_nil)
      (pss_cons (ps_set (i := 6) sc_l_row.nd rfl (by first | exact Or.inl rfl | exact Or.inr rfl) (pe_op op_mod (pv 0) pe_int))
      (pss_cons (ps_for PassesOwn.never rfl (pi_range1 (by rfl) T.m_range (pa_cons (pv 1) pa_nil)) (pg_name (i := 5) sc_l_row.nd rfl (by first | exact Or.inl rfl | exact Or.inr rfl))
      (pss_cons (ps_set (i := 6) sc_l_row.nd rfl (by first | exact Or.inl rfl | exact Or.inr rfl) (pe_op op_mod (pe_op op_add (pe_op op_add (pe_op op_mul (pv 6) pe_int) pe_int) (pv 5)) pe_int))
      (pss_cons (ps_set (i := 7) sc_l_row.nd rfl (by first | exact Or.inl rfl | exact Or.inr rfl) (pe_op op_mod (pe_op op_fdiv (pe_op op_mul (pv 6) (pe_op op_add (pe_op op_mod (pv 6) pe_int) pe_int)) pe_int) pe_int))
      (pss_one (ps_expr (pe_bm PySem.F.plainAttrs_list PySem.F.slot_list_append PySem.F.type_list_append mt_append (pv 3) (pa_cons (pe_op op_mod (pv 7) (pv 2)) pa_nil)))))))
      (pss_one (ps_ret (pv 3))))))), ?_⟩
    refine ⟨Nat.zero_le _, fun p np => ?_⟩
    generalize h_H1 : upd H p _ = H1
    have k_H1 : Kp H H1 := by rw [← h_H1]; exact .new np
    have q_H1 := (congrFun h_H1 p).symm.trans upd_same
    clear h_H1
    refine ⟨_, rfl, _, _, rfl, rfl, ⟨by decide, by decide, by decide⟩, _, _, rfl, rfl, _, rfl, iteD (fun c1 => ?_) (fun c1 => ?_)⟩
    · refine ⟨_, rfl, _, _, rfl, rfl, ⟨by decide, by decide, by decide⟩, _, _, rfl, rfl, ?_⟩
      refine ⟨_, rfl, many, rfl, by omega, by omega, ?_⟩
      refine for_range (lo := 0) (n := many.toNat) (fun i σ H' => ∃ (xs : List Int) (r : Int) (y : Option V), σ = [some (.int c), some (.int many), some (.int size), some (.ref p), some (.int r), y, none, none] ∧ Kp H H' ∧ H' p = some (.lst (xs.map V.int)) ∧ xs.length = i ∧ ∀ x ∈ xs, 0 ≤ x ∧ x < size)
        ⟨[], _, none, rfl, k_H1, q_H1, rfl, by simp⟩ ?_ ?_
      · rintro i σ H' hi ⟨xs, r, y, rfl, kp, hp, hl, hb⟩
        refine ⟨_, rfl, .inl ⟨rfl, _, SqL.of hp⟩, _, rfl, _, rfl, _, _, rfl, rfl, hs0, p, _, _, rfl, rfl, hp, szt (by rw [List.length_map]; omega), ?_⟩
        refine ⟨_, rfl, _, rfl, _, _, rfl, rfl, ⟨hs0, hs1⟩, ?_⟩
        refine ⟨xs ++ [r % size], _, _, rfl, kp.mut np, ?_, by rw [List.length_append, hl]; rfl, snoc_in hs0 hb⟩
        rw [upd_same, List.map_append]
        rfl
      · rintro σ H' ⟨xs, r, y, rfl, kp, hp, hl, hb⟩
        exact ⟨_, rfl, k xs p H' np kp hp ⟨by omega, hb⟩⟩
    · refine ⟨_, rfl, _, _, rfl, rfl, (by show (0 : Int) < 2147483647; decide), ?_⟩
      refine ⟨_, rfl, many, rfl, by omega, by omega, ?_⟩
      refine for_range (lo := 0) (n := many.toNat) (fun i σ H' => ∃ (xs : List Int) (r : Int) (y y2 : Option V), σ = [some (.int c), some (.int many), some (.int size), some (.ref p), none, y, some (.int r), y2] ∧ Kp H H' ∧ H' p = some (.lst (xs.map V.int)) ∧ xs.length = i ∧ ∀ x ∈ xs, 0 ≤ x ∧ x < size)
        ⟨[], _, none, none, rfl, k_H1, q_H1, rfl, by simp⟩ ?_ ?_
      · rintro i σ H' hi ⟨xs, r, y, y2, rfl, kp, hp, hl, hb⟩
        refine ⟨_, rfl, _, _, rfl, rfl, .inr ⟨by decide, by decide⟩, _, _, rfl, rfl, _, rfl, _, _, rfl, rfl, _, _, rfl, rfl, (by show (0 : Int) < 2147483647; decide), ?_⟩
        generalize hr2 : (fun (i j : Int) => V.int (i % j)) _ _ = sv
        obtain ⟨r2, rfl⟩ : ∃ r2 : Int, sv = .int r2 := ⟨_, hr2.symm⟩
        clear hr2
        have b0 : 0 ≤ r2 % 65521 := Int.emod_nonneg _ (by decide)
        have b1 : r2 % 65521 < 65521 := Int.emod_lt_of_pos _ (by decide)
        refine ⟨_, rfl, _, rfl, _, _, rfl, rfl, (by show (0 : Int) < 65521; decide), _, _, rfl, rfl, _, _, rfl, rfl, .inr ⟨by omega, by omega⟩, _, _, rfl, rfl, ⟨by decide, by decide⟩, _, _, rfl, rfl, (by show (0 : Int) < 1000003; decide), ?_⟩
        refine ⟨_, rfl, .inl ⟨rfl, _, SqL.of hp⟩, _, rfl, _, rfl, _, _, rfl, rfl, hs0, p, _, _, rfl, rfl, hp, szt (by rw [List.length_map]; omega), ?_⟩
        refine ⟨xs ++ [r2 * (r2 % 65521 + 3) / 1009 % 1000003 % size], r2, _, _, rfl, kp.mut np, ?_, by rw [List.length_append, hl]; rfl, snoc_in hs0 hb⟩
        rw [upd_same, List.map_append]
        rfl
      · rintro σ H' ⟨xs, r, y, y2, rfl, kp, hp, hl, hb⟩
        exact ⟨_, rfl, k xs p H' np kp hp ⟨by omega, hb⟩⟩
/-! ### words -/
def abcW : Str := "abcdefghijklmnopqrstuvwxyz"
def isW (t : Str) : Bool := decide (1 ≤ (t.length : Int)) && (decide ((t.length : Int) ≤ 12) && t.cps.toList.all fun c => decide (c ∈ abcW.cps.toList))
def sp_p_is_word (P : Addr) : Sp := fun vs H Q _ => ∃ t : Str, vs = [.str t] ∧ t.length ≤ 1000 ∧ GxR.TabG H P ∧ ∀ H', Kp H H' → Q (.bl (isW t)) H'
theorem ok_p_is_word (T : Txt K mg) (TB : GxR.TabB base mg T.c_tab T.P_tab) : FnOk P w K mg base CX0 2 T.f_p_is_word T.d_p_is_word ["text"] (sp_p_is_word T.P_tab) := by
  obtain ⟨tl, hu⟩ := T.r_LETTERS
  have hL : mg "LETTERS" = some (.str abcW tl) := by rw [T.c_LETTERS, hu]; rfl
  refine T.W_p_is_word.ok sc_p_is_word (fun vs H Q E h => ?_) (fun A outer s H vs Q E hr h => ?_)
  · obtain ⟨t, rfl, _⟩ := h
    rfl
  · obtain ⟨t, rfl, hl, hT, k⟩ := h
    refine ⟨_, (pss_one (ps_ret (pe_and (pe_chain op_le op_le pe_int (pe_callB call_len_str (by rfl) T.m_len PySem.boot_len (pa_cons (pv 0) pa_nil)) (pe_glob rfl T.c_LONGEST_WORD T.r_LONGEST_WORD)) (pe_one (pe_allG hr (by rfl) T.m_all (by decide +kernel) TB rfl ⟨rfl, rfl, noCell (by decide +kernel), rfl, rfl, noFree (by decide +kernel)⟩ (pv 0) (elt_inG rfl rfl rfl hL) (fun _ => rfl)))))), ?_⟩
    refine ⟨_, rfl, t, rfl, szl (by omega), _, _, rfl, rfl, _, rfl, ?_⟩
    unfold isW at k
    by_cases c1 : 1 ≤ (t.length : Int)
    · rw [decide_eq_true c1] at k
      refine iteTo (decide_eq_true c1) ⟨_, _, rfl, rfl, _, rfl, ?_⟩
      by_cases c2 : (t.length : Int) ≤ 12
      · rw [decide_eq_true c2] at k
        exact iteTo (decide_eq_true c2) ⟨_, rfl, t, rfl, hT, fun H2 t2 => k _ (kp_tabbed hT t2)⟩
      · rw [decide_eq_false c2] at k
        exact iteFo (decide_eq_false c2) (k _ (.refl _))
    · rw [decide_eq_false c1] at k
      exact iteFo (decide_eq_false c1) ⟨_, rfl, iteF (k _ (.refl _))⟩
def sp_p_check_word (P C : Addr) : Sp := fun vs H Q E => ∃ t : Str, vs = [.str t] ∧ t.length ≤ 1000 ∧ GxR.TabG H P ∧ (isW t = true → ∀ H', Kp H H' → Q .non H') ∧ (isW t = false → ∀ H', Kp H H' → E (.ref C) none H')
theorem ok_p_check_word (T : Txt K mg) (TB : GxR.TabB base mg T.c_tab T.P_tab) : FnOk P w K mg base (L2.CX P w) 4 T.f_p_check_word T.d_p_check_word ["text"] (sp_p_check_word T.P_tab T.a_BadWord) := by
  refine T.F_p_check_word.okX sc_p_check_word (fun vs H Q E h => ?_) (fun cdv A outer s H vs Q E hr h => ?_)
  · obtain ⟨t, rfl, _⟩ := h
    rfl
  · obtain ⟨t, rfl, hl, hT, k, kE⟩ := h
    refine ⟨_, (pss_one (ps_if (pt_not (pt_val (pe_call (ok_p_is_word T TB) (hr.mono (by decide)) rfl T.g_p_is_word T.F_p_is_word.kp T.b_p_is_word .nil pass0 (pa_cons (pv 0) pa_nil))))
      (pss_one (ps_raise rfl (takes_of rfl rfl rfl rfl) (pmk_own PySem.F.excBase_ValueError T.x_BadWord T.g_BadWord T.k_BadWord (raises_own T.b_BadWord T.t_BadWord) rfl)))
      pss_nil)), ?_⟩
    refine ⟨_, rfl, t, rfl, hl, hT, fun H' kp => ⟨_, rfl, iteB (fun c => ?_) (fun c => ?_)⟩⟩
    · exact kE (by simpa using c) H' kp
    · exact k (by simpa using c) H' kp
/-! ### a phrasebook, just made -/
def flds (d1 d2 : Addr) : List (Str × V) := putF "place_by_word" (.ref d2) (putF "word_by_place" (.ref d1) [])
theorem flds_place (d1 d2 : Addr) : (flds d1 d2).lookup ("place_by_word" : Str) = some (.ref d2) := by
  unfold flds
  rw [lookup_putF, if_pos rfl]
theorem flds_no (d1 d2 : Addr) {m : Str} (h1 : ¬ m = "place_by_word") (h2 : ¬ m = "word_by_place") : (flds d1 d2).lookup m = none := by
  unfold flds
  rw [lookup_putF, if_neg h1, lookup_putF, if_neg h2]
  rfl
def sp_p_Phrasebook_init (C : Addr) : Sp := fun vs H Q _ => ∃ (p dx : Addr), vs = [.ref p] ∧ H p = some (.ins C dx []) ∧ ∀ (d1 d2 : Addr) (H' : Hp), H' p = some (.ins C dx (flds d1 d2)) → H' d2 = some (.dK []) →
  (∀ b o, isT o = false → b ≠ p → H b = some o → H' b = some o) → (∀ b, GxR.TabG H b → GxR.TabG H' b) → (∀ b, H' b = none → H b = none) → Q .non H'
theorem ok_p_Phrasebook_init (T : Txt K mg) : FnOk P w K mg base CX0 1 T.f_p_Phrasebook_init T.d_p_Phrasebook_init ["self"] (sp_p_Phrasebook_init T.a_Phrasebook) := by
  refine T.F_p_Phrasebook_init.ok sc_p_Phrasebook_init (fun vs H Q E h => ?_) (fun cdv A outer s H vs Q E hr h => ?_)
  · obtain ⟨p, dx, rfl, _⟩ := h
    rfl
  · obtain ⟨p, dx, rfl, hp, k⟩ := h
    refine ⟨_, (pss_cons (ps_fld (pv 0) pe_dnewT rfl)
      (pss_one (ps_fld (pv 0) pe_dnewK rfl))), ?_⟩
    intro d1 h1
    have n1 : p ≠ d1 := ne_of_none hp h1
    refine ⟨_, rfl, p, _, dx, [], rfl, (by rw [upd_ne n1]; exact hp), T.cl_Phrasebook, T.n_Phrasebook_word_by_place, (by show 0 < 1000; decide), ?_⟩
    intro d2 h2
    have n2 : p ≠ d2 := ne_of_none upd_same h2
    refine ⟨_, rfl, p, _, dx, _, rfl, (by rw [upd_ne n2]; exact upd_same), T.cl_Phrasebook, T.n_Phrasebook_place_by_word, (by show 1 < 1000; decide), ?_⟩
    have f2 : H d2 = none := by
      have z := h2
      rw [upd_ne n2.symm] at z
      by_cases e : d2 = d1
      · rw [e, upd_same] at z
        cases z
      · rw [upd_ne e] at z
        exact z
    refine k d1 d2 _ upd_same (by rw [upd_ne n2.symm, upd_same]) (fun b o _ hb e => ?_) (fun b ⟨ps, e, t⟩ => ⟨ps, ?_, t⟩) (fun b e => ?_)
    · rw [upd_ne hb, upd_ne (ne_of_none e f2), upd_ne hb, upd_ne (ne_of_none e h1)]
      exact e
    · have hb : b ≠ p := fun z => by
        rw [z, hp] at e
        cases e
      rw [upd_ne hb, upd_ne (ne_of_none e f2), upd_ne hb, upd_ne (ne_of_none e h1)]
      exact e
    · by_cases c1 : b = p
      · rw [c1, upd_same] at e
        cases e
      · rw [upd_ne c1] at e
        by_cases c2 : b = d2
        · rw [c2]
          exact f2
        · rw [upd_ne c2, upd_ne c1] at e
          by_cases c3 : b = d1
          · rw [c3]
            exact h1
          · rw [upd_ne c3] at e
            exact e
def sp_p_Phrasebook_place_of (P C B : Addr) : Sp := fun vs H Q E => ∃ (p dx d1 d2 : Addr) (kvs : List (Key × V)) (t : Str), vs = [.ref p, .str t] ∧ H p = some (.ins C dx (flds d1 d2)) ∧ H d2 = some (.dK kvs) ∧ t.length ≤ 1000 ∧ GxR.TabG H P ∧
  (isW t = true → ∀ H', Kp H H' → Q ((valV kvs (Sum.inr t)).getD .non) H') ∧ (isW t = false → ∀ H', Kp H H' → E (.ref B) none H')
theorem ok_p_Phrasebook_place_of (T : Txt K mg) (TB : GxR.TabB base mg T.c_tab T.P_tab) : FnOk P w K mg base (L2.CX P w) 5 T.f_p_Phrasebook_place_of T.d_p_Phrasebook_place_of ["self", "word"] (sp_p_Phrasebook_place_of T.P_tab T.a_Phrasebook T.a_BadWord) := by
  refine T.F_p_Phrasebook_place_of.okX sc_p_Phrasebook_place_of (fun vs H Q E h => ?_) (fun cdv A outer s H vs Q E hr h => ?_)
  · obtain ⟨p, dx, d1, d2, kvs, t, rfl, _⟩ := h
    rfl
  · obtain ⟨p, dx, d1, d2, kvs, t, rfl, hp, hd, hl, hT, k, kE⟩ := h
    have hu := hu_of hr
    refine ⟨_, (pss_cons (ps_expr (pe_call (ok_p_check_word T TB) (hr.mono (by decide)) rfl T.g_p_check_word T.F_p_check_word.kp T.b_p_check_word .nil (passes_call (takes_of rfl rfl rfl rfl) (fun _ _ _ _ z => z)) (pa_cons (pv 1) pa_nil)))
      (pss_one (ps_ret (pe_dget1 hu (pe_fld (pv 0) rfl) (pv 1) ⟨rfl, rfl, rfl, rfl⟩)))), ?_⟩
    refine ⟨_, rfl, t, rfl, hl, hT, fun c H1 k1 => ?_, fun c H1 k1 => kE c H1 k1⟩
    have hd1 := k1.same _ _ rfl hd
    exact ⟨_, rfl, p, _, dx, _, _, rfl, k1.same _ _ rfl hp, T.cl_Phrasebook, T.n_Phrasebook_place_by_word, flds_place _ _, d2, rfl, .inl ⟨_, .inl hd1⟩, _, rfl, _, DGet.k (k := Sum.inr t) hd1, k c H1 k1⟩
/-! ### the law's own words -/
def sp_l_is_word : Sp := fun vs H Q _ => ∃ t : Str, vs = [.str t] ∧ t.length ≤ 1000 ∧ ∀ H', Kp H H' → Q (.bl (isW t)) H'
theorem none_out (f : Nat → Bool) (l : List Nat) : decide ((l.filter fun c => !f c).length = 0) = l.all f := by
  induction l with
  | nil => rfl
  | cons c r ih =>
    cases h : f c with
    | true =>
      rw [List.filter_cons, h, List.all_cons, h]
      exact ih
    | false =>
      rw [List.filter_cons, h, List.all_cons, h]
      rfl
theorem out_succ (f : Nat → Bool) {l : List Nat} {i c : Nat} (h : l[i]? = some c) : (l.take (i + 1)).filter (fun c => !f c) = (l.take i).filter (fun c => !f c) ++ (if f c = true then [] else [c]) := by
  rw [List.take_succ, h, List.filter_append]
  congr 1
  cases e : f c with
  | true =>
    show [c].filter _ = _
    rw [List.filter_cons, e]
    rfl
  | false =>
    show [c].filter _ = _
    rw [List.filter_cons, e]
    rfl
def odd (l : List Nat) : List Nat := l.filter fun c => !decide (c ∈ abcW.cps.toList)
theorem odd_all (l : List Nat) : decide ((odd l).length = 0) = l.all fun c => decide (c ∈ abcW.cps.toList) := none_out (fun c => decide (c ∈ abcW.cps.toList)) l
theorem odd_succ {l : List Nat} {i c : Nat} (h : l[i]? = some c) : odd (l.take (i + 1)) = odd (l.take i) ++ (if c ∈ abcW.cps.toList then [] else [c]) := by
  have z := out_succ (fun c => decide (c ∈ abcW.cps.toList)) h
  unfold odd
  rw [z]
  by_cases e : c ∈ abcW.cps.toList
  · rw [if_pos e, if_pos (decide_eq_true e)]
  · rw [if_neg e, if_neg (by rw [decide_eq_false e]; decide)]
theorem ok_l_is_word (T : Txt K mg) : FnOk P w K mg base CX0 1 T.f_l_is_word T.d_l_is_word ["_law_text_here"] sp_l_is_word := by
  refine T.F_l_is_word.ok sc_l_is_word (fun vs H Q E h => ?_) (fun cdv A outer s H vs Q E hr h => ?_)
  · obtain ⟨t, rfl, _⟩ := h
    rfl
  · obtain ⟨t, rfl, hl, k⟩ := h
    refine ⟨_, (pss_cons (ps_if (PW.pt (pw_or (pt_cmpR op_lt (pe_callB call_len_str (by rfl) T.m_len PySem.boot_len (pa_cons (pv 0) pa_nil)) pe_int (nomark _)) (pw_or1 (pt_cmpR op_gt (pe_callB call_len_str (by rfl) T.m_len PySem.boot_len (pa_cons (pv 0) pa_nil)) pe_int (nomark _)))))
      (pss_one (ps_ret pe_bl))
      pss_nil)
      (pss_one (ps_ret (pe_cmpR op_eq (pe_callB call_len_seq (by rfl) T.m_len PySem.boot_len (pa_cons (pe_lc (own := [("_law_sign", 1)]) (g := gName 1) (by rfl) sc_l_is_word.nd (pi_str (pv 0)) (blkOk_by (own := [("_law_sign", 1)]) (N := ["_law_text_here", "_law_sign"]) (sc := defScope s_l_is_word) (by decide +kernel)) (fun _ _ _ _ _ => (pg_name (i := 1) sc_l_is_word.nd rfl (by first | exact Or.inl rfl | exact Or.inr rfl))) (fun _ _ _ _ _ => (pts_one (pt_cmpR op_notIn_sign (pv 1) pe_str rfl))) (fun _ _ _ _ _ => (pv 1))) pa_nil)) pe_int (nomark _))))), ?_⟩
    have hz : t.length ≤ sizeLine := szl (by omega)
    refine ⟨_, rfl, t, rfl, hz, _, _, rfl, rfl, _, rfl, iteD (fun c => ?_) (fun c => ?_)⟩
    · have e : isW t = false := by
        unfold isW
        rw [decide_eq_false (show ¬ 1 ≤ (t.length : Int) by omega)]
        rfl
      rw [e] at k
      exact iteT (k _ (.refl _))
    refine ⟨_, rfl, t, rfl, hz, _, _, rfl, rfl, _, rfl, iteD (fun c2 => ?_) (fun c2 => ?_)⟩
    · have e : isW t = false := by
        unfold isW
        rw [decide_eq_false (show ¬ (t.length : Int) ≤ 12 by omega), Bool.false_and, Bool.and_false]
      rw [e] at k
      exact k _ (.refl _)
    have e : isW t = decide ((odd t.cps.toList).length = 0) := by
      unfold isW
      rw [decide_eq_true (show 1 ≤ (t.length : Int) by omega), decide_eq_true (show (t.length : Int) ≤ 12 by omega), odd_all]
      rfl
    rw [e] at k
    refine ⟨_, rfl, t, rfl, fun D hD => ?_⟩
    have esz : t.cps.size = t.cps.toList.length := by simp
    refine lc_it (walk_str (z := t)) (fun i H' => Kp H H' ∧ ∃ ws : List V, H' D = some (.lst ws) ∧ ws.length = (odd (t.cps.toList.take i)).length) ⟨Kp.new hD, [], upd_same, rfl⟩ (fun _ _ _ _ => trivial) (fun i x H' H'' hi ⟨kp, ws, hl2, hn⟩ ⟨e1, c1, hc, hx⟩ => ?_) (fun H' ⟨kp, ws, hl2, hn⟩ => ?_)
    · subst e1
      subst hx
      have hc2 : t.cps.toList[i]? = some c1 := by rw [Array.getElem?_toList]; exact hc
      have hlen : ws.length ≤ 1000 := by
        rw [hn]
        unfold odd
        refine Nat.le_trans (List.length_filter_le _ _) ?_
        rw [List.length_take]
        have : t.length = t.cps.toList.length := by simp [Str.length]
        omega
      refine ⟨rfl, ?_⟩
      refine ⟨_, rfl, c1, abcW, rfl, rfl, _, rfl, iteN (fun c3 => ?_) (fun c3 => ?_)⟩
      · refine ⟨_, rfl, ws, hl2, szt (by omega), kp.mut hD, _, upd_same, ?_⟩
        rw [odd_succ hc2, if_neg c3, List.length_append, List.length_append, hn]
        rfl
      · refine ⟨kp, ws, hl2, ?_⟩
        rw [odd_succ hc2, if_pos c3, List.append_nil, hn]
    · rw [esz, List.take_length] at hn
      refine ⟨D, ws, rfl, .inl (SqL.of hl2), rfl, ?_⟩
      have z := k H' kp
      have e3 : decide (V.int (ws.length : Int) = V.int 0) = decide ((odd t.cps.toList).length = 0) := by
        rw [dec_int, ← hn]
        by_cases q : ws.length = 0
        · rw [q]
          rfl
        · rw [decide_eq_false q]
          exact beq_eq_false_iff_ne.mpr (by omega)
      rw [e3]
      exact z
/-! ### a drawn text -/
theorem at_mod (z : Str) {m : Int} {n : Nat} (hn : 0 < n) (hl : z.cps.toList.length = n) : ∃ c, atI z.cps.toList (m % (n : Int)) = some c := by
  have h0 : 0 ≤ m % (n : Int) := Int.emod_nonneg _ (by omega)
  have h1 : m % (n : Int) < (n : Int) := Int.emod_lt_of_pos _ (by omega)
  have hj : (m % (n : Int)).toNat < z.cps.toList.length := by omega
  refine ⟨z.cps.toList[(m % (n : Int)).toNat], ?_⟩
  have e := atI_nat (List.getElem?_eq_getElem hj)
  rw [Int.toNat_of_nonneg h0] at e
  exact e
theorem cutV_map {lo hi : Option Int} {ns : List Int} : ∃ ms : List Int, cutV (ns.map V.int) lo hi = ms.map V.int ∧ (∀ m ∈ ms, m ∈ ns) ∧ ms.length ≤ ns.length := by
  unfold cutV
  rw [List.length_map]
  refine ⟨(ns.drop _).take _, by rw [List.map_take, List.map_drop], fun m h => List.mem_of_mem_drop (List.mem_of_mem_take h), ?_⟩
  rw [List.length_take, List.length_drop]
  omega
theorem mem_ints {ns : List Int} {i : Nat} {x : V} (h : (ns.map V.int)[i]? = some x) : ∃ z, z ∈ ns ∧ x = .int z ∧ ns[i]? = some z := by
  rw [List.getElem?_map] at h
  cases e : ns[i]? with
  | none =>
    rw [e] at h
    cases h
  | some z =>
    rw [e] at h
    exact ⟨z, List.mem_of_getElem? e, (Option.some.inj h).symm, rfl⟩
theorem join_len : ∀ ys : List Str, (∀ y ∈ ys, y.length = 1) → (Txt.join "" ys).length = ys.length := by
  intro ys h
  have e : TL.tl (Txt.join "" ys) = TL.joinL (TL.tl "") (ys.map TL.tl) := by rw [TL.join_eq, TL.tl_join]
  have e0 : TL.tl "" = [] := by decide +kernel
  have l1 : ∀ zs : List (List Nat), (∀ z ∈ zs, z.length = 1) → (TL.joinL [] zs).length = zs.length := by
    intro zs
    induction zs with
    | nil => intro _; rfl
    | cons z r ih =>
      intro hz
      cases r with
      | nil =>
        show z.length = 1
        exact hz z List.mem_cons_self
      | cons z2 r2 =>
        show (z ++ ([] ++ TL.joinL [] (z2 :: r2))).length = _
        rw [List.nil_append, List.length_append, ih (fun y hy => hz y (List.mem_cons_of_mem _ hy)), hz z List.mem_cons_self, List.length_cons, List.length_cons, List.length_cons]
        omega
  have e2 : (Txt.join "" ys).length = (TL.tl (Txt.join "" ys)).length := by simp [Str.length, TL.tl]
  rw [e2, e, e0, l1 _ (by
    intro z hz
    obtain ⟨y, hy, rfl⟩ := List.mem_map.mp hz
    have q := h y hy
    simpa [Str.length, TL.tl] using q), List.length_map]
theorem cutS_len (z : Str) (lo hi : Option Int) : (cutS z lo hi).length ≤ z.length := by
  unfold cutS Str.length
  simp only [List.size_toArray, List.length_take, List.length_drop]
  simp only [Array.length_toList]
  omega
def sp_l_text (K : PySem.W.Frag) : Sp := fun vs H Q _ => ∃ (a : Addr) (ns : List Int), vs = [.ref a] ∧ SqL K H a (ns.map V.int) ∧ ∀ (t : Str) (H' : Hp), t.length ≤ 100 → Kp H H' → Q (.str t) H'
theorem ok_l_text (T : Txt K mg) : FnOk P w K mg base CX0 2 T.f_l_text T.d_l_text ["_law_script"] (sp_l_text K) := by
  refine T.F_l_text.ok sc_l_text (fun vs H Q E h => ?_) (fun cdv A outer s H vs Q E hr h => ?_)
  · obtain ⟨a, ns, rfl, _⟩ := h
    rfl
  · obtain ⟨a, ns, rfl, hS, k⟩ := h
    refine ⟨_, (pss_cons (ps_set (i := 1) sc_l_text.nd rfl (by first | exact Or.inl rfl | exact Or.inr rfl) (pe_call (ok_l_row T) (hr.mono (by decide)) rfl T.g_l_row T.F_l_row.kp T.b_l_row .nil pass0 (pa_cons (pe_call (ok_l_cell T) (hr.mono (by decide)) rfl T.g_l_cell T.F_l_cell.kp T.b_l_cell .nil pass0 (pa_cons (pv 0) (pa_cons pe_int pa_nil))) (pa_cons pe_int (pa_cons pe_int pa_nil)))))
      (pss_cons (ps_set (i := 2) sc_l_text.nd rfl (by first | exact Or.inl rfl | exact Or.inr rfl) (pe_join pe_str (pe_lc (own := [("_law_num", 3)]) (g := gName 3) (tt := tYes) (by rfl) sc_l_text.nd (pi_list (pe_slice sl_list (pv 1) (po_some pe_int) (po_some (pe_op op_add pe_int (pe_op op_mod (pe_ix ix_list (pv 1) pe_int (fun _ _ => rfl)) pe_int))))) (blkOk_by (own := [("_law_num", 3)]) (N := ["_law_script", "_law_nums", "_law_text_here", "_law_num", "_law_signs", "_law_at"]) (sc := defScope s_l_text) (by decide +kernel)) (fun _ _ _ _ _ => (pg_name (i := 3) sc_l_text.nd rfl (by first | exact Or.inl rfl | exact Or.inr rfl))) (fun _ _ _ _ _ => pts_nil) (fun _ _ _ _ _ => (pe_ix ix_str pe_str (pe_op op_mod (pv 3) pe_int) (fun _ _ => rfl))))))
      (pss_cons (ps_set (i := 4) sc_l_text.nd rfl (by first | exact Or.inl rfl | exact Or.inr rfl) pe_str)
      (pss_cons (ps_if (PW.pt (pw_and (pt_cmpR op_gt (pe_op op_mod (pe_ix ix_list (pv 1) pe_int (fun _ _ => rfl)) pe_int) pe_int (nomark _)) (pw_and1 (pt_cmpR op_gt (pe_callB call_len_str (by rfl) T.m_len PySem.boot_len (pa_cons (pv 2) pa_nil)) pe_int (nomark _)))))
      (pss_cons (ps_set (i := 5) sc_l_text.nd rfl (by first | exact Or.inl rfl | exact Or.inr rfl) (pe_op op_mod (pe_op op_fdiv (pe_ix ix_list (pv 1) pe_int (fun _ _ => rfl)) pe_int) (pe_callB call_len_str (by rfl) T.m_len PySem.boot_len (pa_cons (pv 2) pa_nil))))
      (pss_one (ps_set (i := 2) sc_l_text.nd rfl (by first | exact Or.inl rfl | exact Or.inr rfl) (pe_op op_add_str (pe_op op_add_str (pe_slice sl_str (pv 2) po_none (po_some (pv 5))) (pe_ix ix_str (pv 4) (pe_op op_mod (pe_call (ok_l_cell T) (hr.mono (by decide)) rfl T.g_l_cell T.F_l_cell.kp T.b_l_cell .nil pass0 (pa_cons (pv 0) (pa_cons pe_int pa_nil))) (pe_callB call_len_str (by rfl) T.m_len PySem.boot_len (pa_cons (pv 4) pa_nil))) (fun _ _ => rfl))) (pe_slice sl_str (pv 2) (po_some (pe_op op_add (pv 5) pe_int)) po_none)))))
      pss_nil)
      (pss_one (ps_ret (pv 2))))))), ?_⟩
    refine ⟨_, rfl, a, ns, 0, rfl, hS, by decide, _, _, _, rfl, by decide, by decide, by decide, by decide, fun nums p1 H1 n1 k1 q1 ⟨hl, hb⟩ => ?_⟩
    have h0 : 0 < nums.length := by omega
    have h1' : 1 < nums.length := by omega
    refine ⟨⟨_, rfl⟩, _, rfl, _, rfl, _, rfl, p1, _, _, _, rfl, rfl, .inl (.inl q1), at_int (j := 0) h0, _, _, rfl, rfl, (by show (0 : Int) < 15; decide), _, _, rfl, rfl, _, rfl, p1, _, rfl, .inl (.inl q1), fun p2 n2 => ?_⟩
    obtain ⟨ms, em, hms, hml⟩ := cutV_map (lo := some 2) (hi := some ((2 : Int) + nums[0] % 15)) (ns := nums)
    generalize h_H2 : upd H1 p2 _ = H2
    have k_H2 : Kp H1 H2 := by rw [← h_H2]; exact .new n2
    have q_H2 := (congrFun h_H2 p2).symm.trans upd_same
    clear h_H2
    have q2 : H2 p2 = some (.lst (ms.map V.int)) := by rw [← em]; exact q_H2
    refine ⟨p2, rfl, ⟨_, .inl (.inl q2)⟩, fun D hD => ?_⟩
    refine lc_list (K := K) (a := p2) (xs := ms.map V.int) (fun i H' => Kp H2 H' ∧ ∃ ss : List Str, H' D = some (.lst (ss.map V.str)) ∧ ss.length = i ∧ ∀ y ∈ ss, y.length = 1) ⟨Kp.new hD, [], upd_same, rfl, by simp⟩ (fun i H' _ ⟨kp, _⟩ => kp.sqL (.inl (.inl q2))) (fun i x H' hi ⟨kp, ss, hs, hn, h1⟩ => ?_) (fun H' ⟨kp, ss, hs, hn, h1⟩ => ?_)
    · have hil : i < ms.length := by
        have z := (List.getElem?_eq_some_iff.mp hi).1
        rw [List.length_map] at z
        exact z
      obtain ⟨z, _, rfl, _⟩ := mem_ints hi
      obtain ⟨c, hc⟩ := at_mod abcW (m := z) (n := 26) (by decide) (by decide +kernel)
      refine ⟨rfl, ?_⟩
      refine ⟨_, rfl, _, _, rfl, rfl, (by show (0 : Int) < 26; decide), abcW, _, c, rfl, rfl, by decide +kernel, hc, ss.map V.str, hs, szt (by rw [List.length_map]; omega), kp.mut hD, ss ++ [⟨#[c]⟩], ?_, by rw [List.length_append, hn]; rfl, fun y hy => ?_⟩
      · rw [upd_same, List.map_append]
        rfl
      · rcases List.mem_append.mp hy with hy | hy
        · exact h1 y hy
        · rw [List.mem_singleton.mp hy]
          rfl
    · rw [List.length_map] at hn
      have hjl := join_len ss h1
      have hsum : (ss.map (·.length)).sum + ss.length * (Str.ofString "").length ≤ 16777216 := by
        have e1 : (ss.map (·.length)).sum = ss.length := by
          clear hs hn hjl
          induction ss with
          | nil => rfl
          | cons y r ih =>
            rw [List.map_cons, List.sum_cons, h1 y List.mem_cons_self, ih (fun z hz => h1 z (List.mem_cons_of_mem _ hz)), List.length_cons]
            omega
        have e2 : (Str.ofString "").length = 0 := by decide +kernel
        rw [e1, e2]
        omega
      refine ⟨_, D, ss, rfl, rfl, .inl (.inl (.inl hs)), hsum, ?_⟩
      have k3 := (k1.trans k_H2).trans kp
      have hp1 : H' p1 = some (.lst (nums.map V.int)) := kp.same _ _ rfl (k_H2.same _ _ rfl q1)
      have hj : (Txt.join "" ss).length ≤ 16 := by omega
      generalize hJ : Txt.join _ ss = J
      have hj : J.length ≤ 16 := by rw [← hJ]; exact hj
      clear hJ
      have last : ∀ t : Str, t.length ≤ 100 → Q (.str t) H' := fun t ht => k t H' ht k3
      refine ⟨_, rfl, p1, _, _, _, rfl, rfl, .inl (.inl hp1), at_int (j := 1) h1', _, _, rfl, rfl, (by show (0 : Int) < 3; decide), _, _, rfl, rfl, _, rfl, iteD (fun c1 => ?_) (fun c1 => iteF ⟨_, rfl, last _ (by omega)⟩)⟩
      refine ⟨_, rfl, J, rfl, szl (by omega), _, _, rfl, rfl, _, rfl, iteD (fun c2 => ?_) (fun c2 => ⟨_, rfl, last _ (by omega)⟩)⟩
      refine ⟨_, rfl, p1, _, _, _, rfl, rfl, .inl (.inl hp1), at_int (j := 1) h1', _, _, rfl, rfl, ⟨by decide, by decide⟩, _, rfl, J, rfl, szl (by omega), _, _, rfl, rfl, c2, ?_⟩
      let SG : Str := " !\"#$&'()*+,-./0123456789:;<=>?@ABCDEFGHIJKLMNOPQRSTUVWXYZ[\\]^_`abcdefghijklmnopqrstuvwxyz{|}~\n"
      have hsg : SG.length = 95 := by decide +kernel
      obtain ⟨ch, hch⟩ := at_mod SG (m := cellV ns 1) (n := 95) (by decide) (by decide +kernel)
      have hsl : SG.length ≤ sizeLine := by rw [hsg]; exact szl (by decide)
      have cl := fun lo hi => cutS_len J lo hi
      refine ⟨_, rfl, _, rfl, _, rfl, J, rfl, szl (by omega), _, rfl, _, rfl, a, ns, 1, rfl, k3.sqL hS, by decide, _, rfl, SG, rfl, hsl, _, _, rfl, rfl, (by show (0 : Int) < (SG.length : Int); rw [hsg]; decide), SG, _, ch, rfl, rfl, hsl, (by rw [hsg]; exact hch), _, _, rfl, rfl, ?_, ?_⟩
      · have z := cl none (some (nums[1] / 3 % (J.length : Int)))
        exact szl (by show (cutS J none _).length + 1 ≤ 100000; omega)
      refine ⟨_, rfl, _, rfl, _, _, rfl, rfl, _, rfl, J, rfl, szl (by omega), _, _, rfl, rfl, ?_, ?_⟩
      · have z := cl none (some (nums[1] / 3 % (J.length : Int)))
        have z2 := cl (some (nums[1] / 3 % (J.length : Int) + 1)) none
        rw [PySem.Str.length_append]
        exact szl (by show (cutS J none _).length + 1 + (cutS J _ none).length ≤ 100000; omega)
      refine ⟨_, rfl, last _ ?_⟩
      have z := cl none (some (nums[1] / 3 % (J.length : Int)))
      have z2 := cl (some (nums[1] / 3 % (J.length : Int) + 1)) none
      rw [PySem.Str.length_append, PySem.Str.length_append]
      show (cutS J none _).length + 1 + (cutS J _ none).length ≤ 100
      omega
/-! ### refused or not -/
def sp_l_refused (P : Addr) : Sp := fun vs H Q _ => ∃ t : Str, vs = [.str t] ∧ t.length ≤ 1000 ∧ GxR.TabG H P ∧ ∀ H', Kp H H' → Q (.str (if isW t then "no" else "word")) H'
theorem ok_l_refused (T : Txt K mg) (TB : GxR.TabB base mg T.c_tab T.P_tab) : FnOk P w K mg base CX0 7 T.f_l_refused T.d_l_refused ["_law_text_here"] (sp_l_refused T.P_tab) := by
  refine T.F_l_refused.ok sc_l_refused (fun vs H Q E h => ?_) (fun cdv A outer s H vs Q E hr h => ?_)
  · obtain ⟨t, rfl, _⟩ := h
    rfl
  · obtain ⟨t, rfl, hl, hT, k⟩ := h
    refine ⟨_, (pss_cons (ps_set (i := 1) sc_l_refused.nd rfl (by first | exact Or.inl rfl | exact Or.inr rfl) pe_str)
      (pss_cons (ps_try_as (i := 2) rfl rfl sc_l_refused.nd rfl rfl ⟨rfl, by decide, Or.inl T.g_MastError⟩ takes0
      (fun W pn xe tk _ => (pss_one (ps_expr (pe_methE (pe_make0 T.K_Phrasebook (ok_p_Phrasebook_init T) (hr.mono (by decide)) rfl T.g_Phrasebook T.b_p_Phrasebook_init .nil pass0) T.cl_Phrasebook T.M_p_Phrasebook_place_of (ok_p_Phrasebook_place_of T TB) (hr.mono (by decide)) T.b_p_Phrasebook_place_of (fun σ => passAt tk σ) (pa_cons (pv 0) pa_nil) (ht := mcall_of (abase_call rfl) (fun _ => rfl))))))
      (fun a oe cls d pn hz hf => (pss_cons (ps_set (i := 1) sc_l_refused.nd rfl (by first | exact Or.inl rfl | exact Or.inr rfl) pe_str)
      (pss_one (ps_if (pt_val (pe_callB (call_isX K rfl hz hf) (by rfl) T.m_isinstance (by decide +kernel) (pa_cons (pv 2) (pa_cons (pe_glob (v := .ref T.a_BadWord) rfl T.g_BadWord rfl) pa_nil))))
      (pss_one (ps_set (i := 1) sc_l_refused.nd rfl (by first | exact Or.inl rfl | exact Or.inr rfl) pe_str))
      pss_nil)))))
      (pss_one (ps_ret (pv 1))))), ?_⟩
    intro x dx nx ndx ne
    have hT0 : GxR.TabG (upd (upd H dx (.own x)) x (.ins T.a_Phrasebook dx [])) T.P_tab := (((Kp.new ndx).trans (.new (by rw [upd_ne ne.symm]; exact nx)))).tab _ hT
    refine ⟨x, dx, rfl, upd_same, fun d1 d2 H1 hx hd ks kt kf => ⟨rfl, ?_⟩⟩
    have kp : Kp H H1 := by
      refine ⟨fun b o n e => ks b o n (ne_of_none e nx) (by rw [upd_ne (ne_of_none e nx), upd_ne (ne_of_none e ndx)]; exact e), fun b hb => kt b ((((Kp.new ndx).trans (.new (by rw [upd_ne ne.symm]; exact nx)))).tab _ hb), fun b e => ?_⟩
      exact (((Kp.new ndx).trans (.new (by rw [upd_ne ne.symm]; exact nx)))).free _ (kf b e)
    refine ⟨x, dx, _, rfl, hx, flds_no _ _ (by decide +kernel) (by decide +kernel), _, rfl, x, dx, d1, d2, [], t, rfl, hx, hd, hl, kt _ hT0, fun c H2 k2 => ?_, fun c H2 k2 => ?_⟩
    · refine ⟨_, rfl, ?_⟩
      have z := k _ (kp.trans k2)
      rw [c] at z
      exact z
    · have xc : ExcC K T.a_BadWord := ⟨T.ga_BadWord, T.gg_BadWord, T.b_BadWord, T.h_BadWord, T.cl_BadWord, T.oc_get, T.oc_tak, T.mo_BadWord⟩
      have z := k _ (kp.trans k2)
      rw [c] at z
      refine ⟨true, PySem.W.exm_ref T.b_MastError T.h_MastError T.t_MastError T.s_BadWord_MastError, fun _ e ne => ?_, fun q => Bool.noConfusion q⟩
      refine ⟨_, rfl, _, _, _, true, rfl, .inl rfl, xc, rfl, .own _, kit_sub T.i_BadWord T.t_BadWord T.s_BadWord_BadWord, _, rfl, iteTo rfl ?_⟩
      exact ⟨_, rfl, z⟩
/-! ### law -/
def sp_law (K : PySem.W.Frag) (P : Addr) : Sp := fun vs H Q _ => ∃ (a : Addr) (ns : List Int), vs = [.ref a] ∧ SqL K H a (ns.map V.int) ∧ ns.length ≤ 63 ∧ GxR.TabG H P ∧ ∀ H', Q (.bl true) H'
theorem ok_law (T : Txt K mg) (TB : GxR.TabB base mg T.c_tab T.P_tab) {f : Addr} {fd : FuncData} (F : Fun K "law" "law" s_law f fd) : FnOk P w K mg base CX0 9 f fd ["_law_script"] (sp_law K T.P_tab) := by
  refine F.ok sc_law (fun vs H Q E h => ?_) (fun cdv A outer s H vs Q E hr h => ?_)
  · obtain ⟨a, ns, rfl, _⟩ := h
    rfl
  · obtain ⟨a, ns, rfl, hS, hlen, hT, k⟩ := h
    refine ⟨_, (pss_cons (ps_set (i := 1) sc_law.nd rfl (by first | exact Or.inl rfl | exact Or.inr rfl) (pe_call (ok_l_text T) (hr.mono (by decide)) rfl T.g_l_text T.F_l_text.kp T.b_l_text .nil pass0 (pa_cons (pv 0) pa_nil)))
      (pss_cons (ps_set (i := 2) sc_law.nd rfl (by first | exact Or.inl rfl | exact Or.inr rfl) (pe_call (ok_l_is_word T) (hr.mono (by decide)) rfl T.g_l_is_word T.F_l_is_word.kp T.b_l_is_word .nil pass0 (pa_cons (pv 1) pa_nil)))
      (pss_cons (ps_if (PW.pt (pw_or (pt_not (pt_val (pe_call (ok_l_like T 4) (hr.mono (by decide)) rfl T.g_l_like T.F_l_like.kp T.b_l_like .nil pass0 (pa_cons (pe_call (ok_p_is_word T TB) (hr.mono (by decide)) rfl T.g_p_is_word T.F_p_is_word.kp T.b_p_is_word .nil pass0 (pa_cons (pv 1) pa_nil)) (pa_cons (pv 2) pa_nil))))) (pw_or1 (pt_not (pt_val (pe_call (ok_l_like T 4) (hr.mono (by decide)) rfl T.g_l_like T.F_l_like.kp T.b_l_like .nil pass0 (pa_cons (pe_call (ok_p_is_word T TB) (hr.mono (by decide)) rfl T.g_p_is_word T.F_p_is_word.kp T.b_p_is_word .nil pass0 (pa_cons (pe_slice sl_str (pv 1) po_none (po_some pe_int)) pa_nil)) (pa_cons (pe_call (ok_l_is_word T) (hr.mono (by decide)) rfl T.g_l_is_word T.F_l_is_word.kp T.b_l_is_word .nil pass0 (pa_cons (pe_slice sl_str (pv 1) po_none (po_some pe_int)) pa_nil)) pa_nil))))))))
      (pss_one (ps_ret pe_bl))
      pss_nil)
      (pss_cons (ps_if (PW.pt (pw_or (pt_cmpR op_eq (pe_cmpR op_eq (pe_call (ok_l_refused T TB) (hr.mono (by decide)) rfl T.g_l_refused T.F_l_refused.kp T.b_l_refused .nil pass0 (pa_cons (pv 1) pa_nil)) pe_str (nomark _)) (pv 2) (nomark _)) (pw_or1 (pt_cmpR op_eq (pe_call (ok_l_refused T TB) (hr.mono (by decide)) rfl T.g_l_refused T.F_l_refused.kp T.b_l_refused .nil pass0 (pa_cons (pv 1) pa_nil)) pe_str (nomark _)))))
      (pss_one (ps_ret pe_bl))
      pss_nil)
      (pss_one (ps_ret (pe_and (pe_call (ok_l_like T 4) (hr.mono (by decide)) rfl T.g_l_like T.F_l_like.kp T.b_l_like .nil pass0 (pa_cons (pe_call (ok_p_is_word T TB) (hr.mono (by decide)) rfl T.g_p_is_word T.F_p_is_word.kp T.b_p_is_word .nil pass0 (pa_cons pe_str pa_nil)) (pa_cons pe_bl pa_nil))) (pe_one (pe_call (ok_l_like T 4) (hr.mono (by decide)) rfl T.g_l_like T.F_l_like.kp T.b_l_like .nil pass0 (pa_cons (pe_call (ok_p_is_word T TB) (hr.mono (by decide)) rfl T.g_p_is_word T.F_p_is_word.kp T.b_p_is_word .nil pass0 (pa_cons (pv 1) pa_nil)) (pa_cons (pv 2) pa_nil))))))))))), ?_⟩
    refine ⟨_, rfl, a, ns, rfl, hS, fun t H1 hl k1 => ?_⟩
    refine ⟨_, rfl, t, rfl, by omega, fun H2 k2 => ?_⟩
    have T2 := k2.tab _ (k1.tab _ hT)
    refine ⟨_, rfl, t, rfl, by omega, T2, fun H3 k3 => ⟨_, rfl, _, _, .bool _, rfl, .bl _, .bl _, .bl 3 _, fun H4 k4 => ⟨_, rfl, iteFo rfl ?_⟩⟩⟩
    have T4 := k4.tab _ (k3.tab _ T2)
    have c12 := cutS_len t none (some 12)
    refine ⟨_, rfl, 12, rfl, t, rfl, szl (by omega), _, rfl, by omega, T4, fun H5 k5 => ⟨_, rfl, 12, rfl, t, rfl, szl (by omega), _, rfl, by omega, fun H6 k6 => ⟨_, _, .bool _, rfl, .bl _, .bl _, .bl 3 _, fun H7 k7 => ⟨_, rfl, iteFo rfl ?_⟩⟩⟩⟩
    have T7 := k7.tab _ (k6.tab _ (k5.tab _ T4))
    refine ⟨_, rfl, t, rfl, by omega, T7, fun H8 k8 => ⟨rfl, ?_⟩⟩
    have T8 := k8.tab _ T7
    have e1 : decide (V.bl (decide (V.str (if isW t = true then "no" else "word") = V.str "word")) = V.bl (isW t)) = false := by
      cases isW t <;> decide +kernel
    have e2 : decide (V.str (if isW t = true then "no" else "word") = V.str "other") = false := by
      cases isW t <;> decide +kernel
    refine ⟨_, rfl, rfl, _, rfl, iteFo e1 ?_⟩
    refine ⟨_, rfl, t, rfl, by omega, T8, fun H9 k9 => ⟨rfl, _, rfl, iteFo e2 ?_⟩⟩
    have T9 := k9.tab _ T8
    have ew : isW (Str.ofString "") = false := by decide +kernel
    refine ⟨_, rfl, by decide +kernel, T9, fun Ha ka => ⟨_, _, .bool _, rfl, .bl _, (by rw [ew]; exact .bl _), .bl 3 _, fun Hb kb => ⟨_, rfl, iteT ?_⟩⟩⟩
    refine ⟨_, rfl, t, rfl, by omega, kb.tab _ (ka.tab _ T9), fun Hc kc => ⟨_, rfl, _, _, .bool _, rfl, .bl _, .bl _, .bl 3 _, fun Hd kd => k Hd⟩⟩
end
theorem all_mk {l : PySem.W.OpenLaw} {w : World} {K : PySem.W.Frag} {h : Heap} {mg : Str → Option Value} {fa : Addr} (X : K.In h) (G : h.Ns mainGlobals mg) (hfa : mg "law" = some (.ref fa)) (own : ∀ y ∈ (["is_word"] : List Str), ∀ f, mg y = some (.ref f) → LamX.OwnTab K f h)
    {C_MastError : Addr}
    {C_BadWord : Addr}
    {C_Phrasebook : Addr}
    {f1 : Addr} {od1 an1 : Option Addr} {sl1 : Array (Option Value)} {oc1 kV1 dc1 pm1 ct1 : Value}
    {c_tab P_tab : Addr} {dd_tab : Option Addr} {vs_tab : Array Value} {sl_tab : Array (Option Value)} {fl_tab : Str} {tf_tab tg_tab tt_tab : Tok} {fg_tab tx_tab : Int} {b_tab : Bool}
    {f2 : Addr} {od2 an2 : Option Addr} {sl2 : Array (Option Value)} {oc2 kV2 dc2 pm2 cd2 ct2 : Value}
    {f3 : Addr} {od3 an3 : Option Addr} {sl3 : Array (Option Value)} {oc3 kV3 dc3 pm3 cd3 ct3 : Value}
    {f4 : Addr} {od4 an4 : Option Addr} {sl4 : Array (Option Value)} {oc4 kV4 dc4 pm4 cd4 ct4 : Value}
    {f5 : Addr} {od5 an5 : Option Addr} {sl5 : Array (Option Value)} {oc5 kV5 dc5 pm5 cd5 ct5 : Value}
    {f6 : Addr} {od6 an6 : Option Addr} {sl6 : Array (Option Value)} {oc6 kV6 dc6 pm6 cd6 ct6 : Value}
    {f7 : Addr} {od7 an7 : Option Addr} {sl7 : Array (Option Value)} {oc7 kV7 dc7 pm7 cd7 ct7 : Value}
    {f8 : Addr} {od8 an8 : Option Addr} {sl8 : Array (Option Value)} {oc8 kV8 dc8 pm8 cd8 ct8 : Value}
    {f9 : Addr} {od9 an9 : Option Addr} {sl9 : Array (Option Value)} {oc9 kV9 dc9 pm9 cd9 ct9 : Value}
    {f10 : Addr} {od10 an10 : Option Addr} {sl10 : Array (Option Value)} {oc10 kV10 dc10 pm10 cd10 ct10 : Value}
    {f11 : Addr} {od11 an11 : Option Addr} {sl11 : Array (Option Value)} {oc11 kV11 dc11 pm11 cd11 ct11 : Value}
    {tk_LETTERS : Tok}
    {tk_LONGEST_WORD : Tok}
    (e_MastError : PySem.W.nsIn K mainGlobals "MastError" = some (some (.ref C_MastError)))
    (x_MastError : PySem.W.excIn K C_MastError [.type "ValueError", .type "Exception", .type "BaseException", .type "object"] "ValueError.__new__" = true)
    (k_MastError : PySem.W.keepIn K (.ref C_MastError) = true)
    (b_MastError : PySem.W.subIn K (.ref C_MastError) (.type "BaseException") = some true)
    (t_MastError : PySem.W.typeIn K (.ref C_MastError) = some (.type "type"))
    (i_MastError : PySem.W.isClsIn K C_MastError = true)
    (h_MastError : PySem.W.hasDictIn K C_MastError = true)
    (ga_MastError : PySem.W.findIn K (.ref C_MastError) "__getattribute__" = some (some (.builtin "BaseException.__getattribute__")))
    (gg_MastError : PySem.W.findIn K (.ref C_MastError) "__getattr__" = some none)
    (cl_MastError : PySem.W.findIn K (.ref C_MastError) "__class__" = some (some (.builtin "object.__class__")))
    (mo_MastError : PySem.W.mroIn K C_MastError (.type "object") = some true)
    (v_MastError : PySem.W.subIn K (.ref C_MastError) (.type "ValueError") = some true)
    (e_BadWord : PySem.W.nsIn K mainGlobals "BadWord" = some (some (.ref C_BadWord)))
    (x_BadWord : PySem.W.excIn K C_BadWord [.type "ValueError", .type "Exception", .type "BaseException", .type "object"] "ValueError.__new__" = true)
    (k_BadWord : PySem.W.keepIn K (.ref C_BadWord) = true)
    (b_BadWord : PySem.W.subIn K (.ref C_BadWord) (.type "BaseException") = some true)
    (t_BadWord : PySem.W.typeIn K (.ref C_BadWord) = some (.type "type"))
    (i_BadWord : PySem.W.isClsIn K C_BadWord = true)
    (h_BadWord : PySem.W.hasDictIn K C_BadWord = true)
    (ga_BadWord : PySem.W.findIn K (.ref C_BadWord) "__getattribute__" = some (some (.builtin "BaseException.__getattribute__")))
    (gg_BadWord : PySem.W.findIn K (.ref C_BadWord) "__getattr__" = some none)
    (cl_BadWord : PySem.W.findIn K (.ref C_BadWord) "__class__" = some (some (.builtin "object.__class__")))
    (mo_BadWord : PySem.W.mroIn K C_BadWord (.type "object") = some true)
    (v_BadWord : PySem.W.subIn K (.ref C_BadWord) (.type "ValueError") = some true)
    (s_MastError_MastError : PySem.W.subIn K (.ref C_MastError) (.ref C_MastError) = some true)
    (s_BadWord_MastError : PySem.W.subIn K (.ref C_BadWord) (.ref C_MastError) = some true)
    (s_BadWord_BadWord : PySem.W.subIn K (.ref C_BadWord) (.ref C_BadWord) = some true)
    (e_Phrasebook : PySem.W.nsIn K mainGlobals "Phrasebook" = some (some (.ref C_Phrasebook)))
    (pg_Phrasebook : PySem.W.plainGet K C_Phrasebook Str.empty = true)
    (hd_Phrasebook : PySem.W.hasDictIn K C_Phrasebook = true)
    (po_Phrasebook : PySem.W.plainOver K C_Phrasebook = true)
    (sa_Phrasebook : PySem.W.findIn K (.ref C_Phrasebook) "__setattr__" = some (some (.builtin "object.__setattr__")))
    (mk_Phrasebook : PySem.W.makesIn K C_Phrasebook = true)
    (kc_Phrasebook : PySem.W.keepIn K (.ref C_Phrasebook) = true)
    (n_Phrasebook_word_by_place : PySem.W.findIn K (.ref C_Phrasebook) "word_by_place" = some none)
    (n_Phrasebook_place_by_word : PySem.W.findIn K (.ref C_Phrasebook) "place_by_word" = some none)
    (a1 : PySem.W.nsIn K mainGlobals "is_word" = some (some (.ref f1)))
    (l1 : K.lookup f1 = some ⟨oc1, od1, .func (PySem.W.fnOf "is_word" "is_word" (defArgs s_p_is_word) (defBody s_p_is_word) (defScope s_p_is_word) .none kV1 dc1 pm1 an1 (.ref c_tab) ct1), sl1⟩)
    (c1 : PySem.W.codeIn K (.ref c_tab) "is_word" = true)
    (y_l : K.lookup c_tab = some ⟨.type "code", dd_tab, .fields vs_tab, sl_tab⟩)
    (y_11 : vs_tab[11]? = some (.ref P_tab))
    (y_18 : vs_tab.getD 18 .none = .str fl_tab tf_tab)
    (y_7 : vs_tab.getD 7 .none = .int fg_tab tg_tab)
    (y_9 : vs_tab.getD 9 .none = .bool b_tab)
    (y_10 : vs_tab.getD 10 .none = .int tx_tab tt_tab)
    (y_ne : c_tab ≠ P_tab)
    (y_P : K.lookup P_tab = none)
    (k1 : PySem.W.keepIn K (.ref f1) = true)
    (a2 : PySem.W.nsIn K mainGlobals "check_word" = some (some (.ref f2)))
    (l2 : K.lookup f2 = some ⟨oc2, od2, .func (PySem.W.fnOf "check_word" "check_word" (defArgs s_p_check_word) (defBody s_p_check_word) (defScope s_p_check_word) .none kV2 dc2 pm2 an2 cd2 ct2), sl2⟩)
    (c2 : PySem.W.codeIn K cd2 "check_word" = true)
    (k2 : PySem.W.keepIn K (.ref f2) = true)
    (a3 : PySem.W.findIn K (.ref C_Phrasebook) "__init__" = some (some (.ref f3)))
    (i3 : PySem.W.isFn K (.ref f3) = true)
    (l3 : K.lookup f3 = some ⟨oc3, od3, .func (PySem.W.fnOf "__init__" "Phrasebook.__init__" (defArgs s_p_Phrasebook_init) (defBody s_p_Phrasebook_init) (defScope s_p_Phrasebook_init) .none kV3 dc3 pm3 an3 cd3 ct3), sl3⟩)
    (c3 : PySem.W.codeIn K cd3 "Phrasebook.__init__" = true)
    (k3 : PySem.W.keepIn K (.ref f3) = true)
    (a4 : PySem.W.findIn K (.ref C_Phrasebook) "place_of" = some (some (.ref f4)))
    (i4 : PySem.W.isFn K (.ref f4) = true)
    (l4 : K.lookup f4 = some ⟨oc4, od4, .func (PySem.W.fnOf "place_of" "Phrasebook.place_of" (defArgs s_p_Phrasebook_place_of) (defBody s_p_Phrasebook_place_of) (defScope s_p_Phrasebook_place_of) .none kV4 dc4 pm4 an4 cd4 ct4), sl4⟩)
    (c4 : PySem.W.codeIn K cd4 "Phrasebook.place_of" = true)
    (k4 : PySem.W.keepIn K (.ref f4) = true)
    (a5 : PySem.W.nsIn K mainGlobals "_law_cell" = some (some (.ref f5)))
    (l5 : K.lookup f5 = some ⟨oc5, od5, .func (PySem.W.fnOf "_law_cell" "_law_cell" (defArgs s_l_cell) (defBody s_l_cell) (defScope s_l_cell) .none kV5 dc5 pm5 an5 cd5 ct5), sl5⟩)
    (c5 : PySem.W.codeIn K cd5 "_law_cell" = true)
    (k5 : PySem.W.keepIn K (.ref f5) = true)
    (a6 : PySem.W.nsIn K mainGlobals "_law_row" = some (some (.ref f6)))
    (l6 : K.lookup f6 = some ⟨oc6, od6, .func (PySem.W.fnOf "_law_row" "_law_row" (defArgs s_l_row) (defBody s_l_row) (defScope s_l_row) .none kV6 dc6 pm6 an6 cd6 ct6), sl6⟩)
    (c6 : PySem.W.codeIn K cd6 "_law_row" = true)
    (k6 : PySem.W.keepIn K (.ref f6) = true)
    (a7 : PySem.W.nsIn K mainGlobals "_law_like" = some (some (.ref f7)))
    (l7 : K.lookup f7 = some ⟨oc7, od7, .func (PySem.W.fnOf "_law_like" "_law_like" (defArgs s_l_like) (defBody s_l_like) (defScope s_l_like) .none kV7 dc7 pm7 an7 cd7 ct7), sl7⟩)
    (c7 : PySem.W.codeIn K cd7 "_law_like" = true)
    (k7 : PySem.W.keepIn K (.ref f7) = true)
    (a8 : PySem.W.nsIn K mainGlobals "_law_is_word" = some (some (.ref f8)))
    (l8 : K.lookup f8 = some ⟨oc8, od8, .func (PySem.W.fnOf "_law_is_word" "_law_is_word" (defArgs s_l_is_word) (defBody s_l_is_word) (defScope s_l_is_word) .none kV8 dc8 pm8 an8 cd8 ct8), sl8⟩)
    (c8 : PySem.W.codeIn K cd8 "_law_is_word" = true)
    (k8 : PySem.W.keepIn K (.ref f8) = true)
    (a9 : PySem.W.nsIn K mainGlobals "_law_text" = some (some (.ref f9)))
    (l9 : K.lookup f9 = some ⟨oc9, od9, .func (PySem.W.fnOf "_law_text" "_law_text" (defArgs s_l_text) (defBody s_l_text) (defScope s_l_text) .none kV9 dc9 pm9 an9 cd9 ct9), sl9⟩)
    (c9 : PySem.W.codeIn K cd9 "_law_text" = true)
    (k9 : PySem.W.keepIn K (.ref f9) = true)
    (a10 : PySem.W.nsIn K mainGlobals "_law_refused" = some (some (.ref f10)))
    (l10 : K.lookup f10 = some ⟨oc10, od10, .func (PySem.W.fnOf "_law_refused" "_law_refused" (defArgs s_l_refused) (defBody s_l_refused) (defScope s_l_refused) .none kV10 dc10 pm10 an10 cd10 ct10), sl10⟩)
    (c10 : PySem.W.codeIn K cd10 "_law_refused" = true)
    (k10 : PySem.W.keepIn K (.ref f10) = true)
    (a11 : PySem.W.nsIn K mainGlobals "law" = some (some (.ref f11)))
    (l11 : K.lookup f11 = some ⟨oc11, od11, .func (PySem.W.fnOf "law" "law" (defArgs s_law) (defBody s_law) (defScope s_law) .none kV11 dc11 pm11 an11 cd11 ct11), sl11⟩)
    (c11 : PySem.W.codeIn K cd11 "law" = true)
    (k11 : PySem.W.keepIn K (.ref f11) = true)
    (q_LETTERS : PySem.W.nsIn K mainGlobals "LETTERS" = some (some (.str "abcdefghijklmnopqrstuvwxyz" tk_LETTERS)))
    (q_LONGEST_WORD : PySem.W.nsIn K mainGlobals "LONGEST_WORD" = some (some (.int 12 tk_LONGEST_WORD)))
    (z_all : PySem.W.nsIn K mainGlobals "all" = some none)
    (z_len : PySem.W.nsIn K mainGlobals "len" = some none)
    (z_range : PySem.W.nsIn K mainGlobals "range" = some none)
    (z_isinstance : PySem.W.nsIn K mainGlobals "isinstance" = some none)
    (z_bool : PySem.W.nsIn K mainGlobals "bool" = some none)
    (z_int : PySem.W.nsIn K mainGlobals "int" = some none)
    (z_str : PySem.W.nsIn K mainGlobals "str" = some none)
    (z_list : PySem.W.nsIn K mainGlobals "list" = some none)
    (z_tuple : PySem.W.nsIn K mainGlobals "tuple" = some none)
    (oc_get : PySem.W.specialIn K (.builtin "object.__class__") "__get__" = some (some (.builtin "getset_descriptor.__get__")))
    (oc_tak : PySem.W.takesIn K (.builtin "object.__class__") = some true) :
    LamX.LawAtS l w K CX0 9 63 "_law_script" mg fa h := by
  have e := hfa.symm.trans (PySem.W.mg_of X G a11)
  cases e
  let T : Txt K mg :=
    { a_MastError := C_MastError,
      g_MastError := PySem.W.mg_of X G e_MastError,
      x_MastError := x_MastError,
      k_MastError := k_MastError,
      b_MastError := b_MastError,
      t_MastError := t_MastError,
      i_MastError := i_MastError,
      h_MastError := h_MastError,
      ga_MastError := ga_MastError,
      gg_MastError := gg_MastError,
      cl_MastError := cl_MastError,
      mo_MastError := mo_MastError,
      v_MastError := v_MastError,
      a_BadWord := C_BadWord,
      g_BadWord := PySem.W.mg_of X G e_BadWord,
      x_BadWord := x_BadWord,
      k_BadWord := k_BadWord,
      b_BadWord := b_BadWord,
      t_BadWord := t_BadWord,
      i_BadWord := i_BadWord,
      h_BadWord := h_BadWord,
      ga_BadWord := ga_BadWord,
      gg_BadWord := gg_BadWord,
      cl_BadWord := cl_BadWord,
      mo_BadWord := mo_BadWord,
      v_BadWord := v_BadWord,
      s_MastError_MastError := s_MastError_MastError,
      s_BadWord_MastError := s_BadWord_MastError,
      s_BadWord_BadWord := s_BadWord_BadWord,
      a_Phrasebook := C_Phrasebook,
      g_Phrasebook := PySem.W.mg_of X G e_Phrasebook,
      cl_Phrasebook := ⟨pg_Phrasebook, hd_Phrasebook, po_Phrasebook, sa_Phrasebook⟩,
      n_Phrasebook_word_by_place := n_Phrasebook_word_by_place,
      n_Phrasebook_place_by_word := n_Phrasebook_place_by_word,
      c_tab := c_tab,
      P_tab := P_tab,
      W_p_is_word := ⟨_, _, _, _, _, _, _, _, rfl, l1, c1⟩,
      f_p_is_word := f1,
      d_p_is_word := _,
      F_p_is_word := fun_mk (st := s_p_is_word) l1 c1 k1,
      b_p_is_word := (fun_mk (st := s_p_is_word) l1 c1 k1).binds (ps := ["text"]) fun _ _ _ _ _ _ us hl => match us, hl with | [_], _ => rfl,
      g_p_is_word := PySem.W.mg_of X G a1,
      f_p_check_word := f2,
      d_p_check_word := _,
      F_p_check_word := fun_mk (st := s_p_check_word) l2 c2 k2,
      b_p_check_word := (fun_mk (st := s_p_check_word) l2 c2 k2).binds (ps := ["text"]) fun _ _ _ _ _ _ us hl => match us, hl with | [_], _ => rfl,
      g_p_check_word := PySem.W.mg_of X G a2,
      f_p_Phrasebook_init := f3,
      d_p_Phrasebook_init := _,
      F_p_Phrasebook_init := fun_mk (st := s_p_Phrasebook_init) l3 c3 k3,
      b_p_Phrasebook_init := (fun_mk (st := s_p_Phrasebook_init) l3 c3 k3).binds (ps := ["self"]) fun _ _ _ _ _ _ us hl => match us, hl with | [_], _ => rfl,
      M_p_Phrasebook_init := ⟨a3, i3, k3⟩,
      K_Phrasebook := ⟨mk_Phrasebook, a3, i3, kc_Phrasebook⟩,
      f_p_Phrasebook_place_of := f4,
      d_p_Phrasebook_place_of := _,
      F_p_Phrasebook_place_of := fun_mk (st := s_p_Phrasebook_place_of) l4 c4 k4,
      b_p_Phrasebook_place_of := (fun_mk (st := s_p_Phrasebook_place_of) l4 c4 k4).binds (ps := ["self", "word"]) fun _ _ _ _ _ _ us hl => match us, hl with | [_, _], _ => rfl,
      M_p_Phrasebook_place_of := ⟨a4, i4, k4⟩,
      f_l_cell := f5,
      d_l_cell := _,
      F_l_cell := fun_mk (st := s_l_cell) l5 c5 k5,
      b_l_cell := (fun_mk (st := s_l_cell) l5 c5 k5).binds (ps := ["_law_script", "_law_at"]) fun _ _ _ _ _ _ us hl => match us, hl with | [_, _], _ => rfl,
      g_l_cell := PySem.W.mg_of X G a5,
      f_l_row := f6,
      d_l_row := _,
      F_l_row := fun_mk (st := s_l_row) l6 c6 k6,
      b_l_row := (fun_mk (st := s_l_row) l6 c6 k6).binds (ps := ["_law_cell_here", "_law_many", "_law_size"]) fun _ _ _ _ _ _ us hl => match us, hl with | [_, _, _], _ => rfl,
      g_l_row := PySem.W.mg_of X G a6,
      f_l_like := f7,
      d_l_like := _,
      F_l_like := fun_mk (st := s_l_like) l7 c7 k7,
      b_l_like := (fun_mk (st := s_l_like) l7 c7 k7).binds (ps := ["_law_found", "_law_due"]) fun _ _ _ _ _ _ us hl => match us, hl with | [_, _], _ => rfl,
      g_l_like := PySem.W.mg_of X G a7,
      f_l_is_word := f8,
      d_l_is_word := _,
      F_l_is_word := fun_mk (st := s_l_is_word) l8 c8 k8,
      b_l_is_word := (fun_mk (st := s_l_is_word) l8 c8 k8).binds (ps := ["_law_text_here"]) fun _ _ _ _ _ _ us hl => match us, hl with | [_], _ => rfl,
      g_l_is_word := PySem.W.mg_of X G a8,
      f_l_text := f9,
      d_l_text := _,
      F_l_text := fun_mk (st := s_l_text) l9 c9 k9,
      b_l_text := (fun_mk (st := s_l_text) l9 c9 k9).binds (ps := ["_law_script"]) fun _ _ _ _ _ _ us hl => match us, hl with | [_], _ => rfl,
      g_l_text := PySem.W.mg_of X G a9,
      f_l_refused := f10,
      d_l_refused := _,
      F_l_refused := fun_mk (st := s_l_refused) l10 c10 k10,
      b_l_refused := (fun_mk (st := s_l_refused) l10 c10 k10).binds (ps := ["_law_text_here"]) fun _ _ _ _ _ _ us hl => match us, hl with | [_], _ => rfl,
      g_l_refused := PySem.W.mg_of X G a10,
      u_LETTERS := _,
      c_LETTERS := PySem.W.mg_of X G q_LETTERS,
      r_LETTERS := ⟨_, rfl⟩,
      u_LONGEST_WORD := _,
      c_LONGEST_WORD := PySem.W.mg_of X G q_LONGEST_WORD,
      r_LONGEST_WORD := ⟨_, rfl⟩,
      m_all := PySem.W.mg_none_of X G z_all,
      m_len := PySem.W.mg_none_of X G z_len,
      m_range := PySem.W.mg_none_of X G z_range,
      m_isinstance := PySem.W.mg_none_of X G z_isinstance,
      m_bool := PySem.W.mg_none_of X G z_bool,
      m_int := PySem.W.mg_none_of X G z_int,
      m_str := PySem.W.mg_none_of X G z_str,
      m_list := PySem.W.mg_none_of X G z_list,
      m_tuple := PySem.W.mg_none_of X G z_tuple,
      oc_get := oc_get,
      oc_tak := oc_tak }
  have hP : h.get? P_tab = some { cls := .none, data := .fields #[] } := own "is_word" List.mem_cons_self f1 (PySem.W.mg_of X G a1) c_tab P_tab _ _ _ _ _ _ l1 rfl rfl y_l y_11
  have hc : PySem.W.CodeHd h c_tab P_tab := codeHd_mk X y_l y_11 y_18 y_7 y_9 y_10 y_ne
  refine ⟨PySem.W.fnOf "law" "law" (defArgs s_law) (defBody s_law) (defScope s_law) .none kV11 dc11 pm11 an11 cd11 ct11, [(c_tab, P_tab)], sp_law K P_tab, ?_, ?_, ?_, fun s v => .of_eq rfl, fun H a ns hl _ hT hS => ⟨a, ns, rfl, hS, hl, ⟨#[], hT _ List.mem_cons_self, trivial⟩, fun _ => rfl⟩, fun base _ _ TB => ok_law T (let tb := TB (c_tab, P_tab) List.mem_cons_self; ⟨tb.code, tb.bm, tb.gP⟩) (fun_mk (st := s_law) l11 c11 k11)⟩
  all_goals (intro p hp; cases List.mem_singleton.mp hp)
  · exact hP
  · exact y_P
  · exact hc
end Mw
open PySem PySem.W PyProof.Rows
set_option maxRecDepth 100000 in
set_option maxHeartbeats 0 in
theorem PySem.Challenge.cw_mastword_k04_words_known_holds : PySem.Challenge.rw_mastword_k04_words_known.Holds := by
  w_on; o_law; k_head; (case hw => w_witness2)
  k_fill
  refine Mw.walk_tab (l := PySem.Challenge.rw_mastword_k04_words_known) (n := 63) (k := 9) (x := "_law_script") (CX := fun _ => L2.CX0) ["is_word"] rfl (by decide) rfl ⟨rfl, by decide, by decide⟩ (by decide +kernel) (fun w h Y => PySem.W.kIn_of Y) ?F (fun _ _ _ _ _ h => h)
  case F =>
    intro w mg fa h KX G hmg own
    refine' Mw.all_mk KX G hmg own ?e_MastError ?x_MastError ?k_MastError ?b_MastError ?t_MastError ?i_MastError ?h_MastError ?ga_MastError ?gg_MastError ?cl_MastError ?mo_MastError ?v_MastError ?e_BadWord ?x_BadWord ?k_BadWord ?b_BadWord ?t_BadWord ?i_BadWord ?h_BadWord ?ga_BadWord ?gg_BadWord ?cl_BadWord ?mo_BadWord ?v_BadWord ?s_MastError_MastError ?s_BadWord_MastError ?s_BadWord_BadWord ?e_Phrasebook ?pg_Phrasebook ?hd_Phrasebook ?po_Phrasebook ?sa_Phrasebook ?mk_Phrasebook ?kc_Phrasebook ?n_Phrasebook_word_by_place ?n_Phrasebook_place_by_word ?a1 ?l1 ?c1 ?y_l ?y_11 ?y_18 ?y_7 ?y_9 ?y_10 ?y_ne ?y_P ?k1 ?a2 ?l2 ?c2 ?k2 ?a3 ?i3 ?l3 ?c3 ?k3 ?a4 ?i4 ?l4 ?c4 ?k4 ?a5 ?l5 ?c5 ?k5 ?a6 ?l6 ?c6 ?k6 ?a7 ?l7 ?c7 ?k7 ?a8 ?l8 ?c8 ?k8 ?a9 ?l9 ?c9 ?k9 ?a10 ?l10 ?c10 ?k10 ?a11 ?l11 ?c11 ?k11 ?q_LETTERS ?q_LONGEST_WORD ?z_all ?z_len ?z_range ?z_isinstance ?z_bool ?z_int ?z_str ?z_list ?z_tuple ?oc_get ?oc_tak
    (case e_MastError => k_is)
    (case x_MastError => k_exc)
    (case k_MastError => k_is)
    (case b_MastError => k_is)
    (case t_MastError => k_is)
    (case i_MastError => k_is)
    (case h_MastError => k_is)
    (case ga_MastError => k_is)
    (case gg_MastError => k_is)
    (case cl_MastError => k_is)
    (case mo_MastError => k_is)
    (case v_MastError => k_is)
    (case e_BadWord => k_is)
    (case x_BadWord => k_exc)
    (case k_BadWord => k_is)
    (case b_BadWord => k_is)
    (case t_BadWord => k_is)
    (case i_BadWord => k_is)
    (case h_BadWord => k_is)
    (case ga_BadWord => k_is)
    (case gg_BadWord => k_is)
    (case cl_BadWord => k_is)
    (case mo_BadWord => k_is)
    (case v_BadWord => k_is)
    (case s_MastError_MastError => (first | rfl | k_is))
    (case s_BadWord_MastError => (first | rfl | k_is))
    (case s_BadWord_BadWord => (first | rfl | k_is))
    (case e_Phrasebook => k_is)
    (case pg_Phrasebook => k_is)
    (case hd_Phrasebook => k_is)
    (case po_Phrasebook => k_is)
    (case sa_Phrasebook => k_is)
    (case mk_Phrasebook => k_is)
    (case kc_Phrasebook => k_is)
    (case n_Phrasebook_word_by_place => k_is)
    (case n_Phrasebook_place_by_word => k_is)
    (case a1 => k_is)
    (case l1 => k_is)
    (case c1 => k_is)
    (case y_l => k_is)
    (case y_11 => rfl)
    (case y_18 => rfl)
    (case y_7 => rfl)
    (case y_9 => rfl)
    (case y_10 => rfl)
    (case y_ne => (intro z; cases z))
    (case y_P => rfl)
    (case k1 => k_is)
    (case a2 => k_is)
    (case l2 => k_is)
    (case c2 => k_is)
    (case k2 => k_is)
    (case a3 => k_is)
    (case i3 => k_is)
    (case l3 => k_is)
    (case c3 => k_is)
    (case k3 => k_is)
    (case a4 => k_is)
    (case i4 => k_is)
    (case l4 => k_is)
    (case c4 => k_is)
    (case k4 => k_is)
    (case a5 => k_is)
    (case l5 => k_is)
    (case c5 => k_is)
    (case k5 => k_is)
    (case a6 => k_is)
    (case l6 => k_is)
    (case c6 => k_is)
    (case k6 => k_is)
    (case a7 => k_is)
    (case l7 => k_is)
    (case c7 => k_is)
    (case k7 => k_is)
    (case a8 => k_is)
    (case l8 => k_is)
    (case c8 => k_is)
    (case k8 => k_is)
    (case a9 => k_is)
    (case l9 => k_is)
    (case c9 => k_is)
    (case k9 => k_is)
    (case a10 => k_is)
    (case l10 => k_is)
    (case c10 => k_is)
    (case k10 => k_is)
    (case a11 => k_is)
    (case l11 => k_is)
    (case c11 => k_is)
    (case k11 => k_is)
    (case q_LETTERS => k_is)
    (case q_LONGEST_WORD => k_is)
    (case z_all => k_is)
    (case z_len => k_is)
    (case z_range => k_is)
    (case z_isinstance => k_is)
    (case z_bool => k_is)
    (case z_int => k_is)
    (case z_str => k_is)
    (case z_list => k_is)
    (case z_tuple => k_is)
    (case oc_get => k_is)
    (case oc_tak => k_is)
