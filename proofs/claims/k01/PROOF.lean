import PyProof.Rows.All
import Wide.All
import OpenK.AllK
import Wide.FinOn
import HandS.ForMost
import HandS.ForExc
import HandS.AnyAll
import HandS.EndTab
import HandS.ExcIs
import HandS.ExcField
import HandS.ExcInit
import HandS.IsInst
import HandS.Conv
import HandS.Replace
import HandS.Flow
import HandS.Walk
import HandS.Evl
import KE.KExcIs
import HandS.EndOwn
import HandS.CallRecv
import PySem.Challenge.RW_mastword_k01_signs_known
set_option Elab.async false
set_option linter.all false
set_option maxRecDepth 100000
set_option maxHeartbeats 2000000
namespace Mw
open PySem PySem.Spec PyProof.Rows L2
/-! ### what is kept: every tracked thing but the tables of code objects, which stay tables -/
def isT : HO → Bool
  | .tbl _ => true
  | _ => false
structure Kp (H H' : Hp) : Prop where
  same : ∀ a o, isT o = false → H a = some o → H' a = some o
  tab : ∀ a, GxR.TabG H a → GxR.TabG H' a
  free : ∀ a, H' a = none → H a = none
theorem Kp.refl (H : Hp) : Kp H H := ⟨fun _ _ _ h => h, fun _ h => h, fun _ h => h⟩
theorem Kp.trans {H H1 H2 : Hp} (a : Kp H H1) (b : Kp H1 H2) : Kp H H2 :=
  ⟨fun x o t h => b.same x o t (a.same x o t h), fun x h => b.tab x (a.tab x h), fun x h => a.free x (b.free x h)⟩
theorem Kp.mut {H H' : Hp} {p : Addr} {o : HO} (e : Kp H H') (h : H p = none) : Kp H (upd H' p o) := by
  refine ⟨fun a u t ha => ?_, fun a ⟨ps, ha, ht⟩ => ?_, fun a ha => ?_⟩
  · rw [upd_ne (ne_of_none ha h)]
    exact e.same a u t ha
  · obtain ⟨ps', h1, h2⟩ := e.tab a ⟨ps, ha, ht⟩
    exact ⟨ps', by rw [upd_ne (ne_of_none ha h)]; exact h1, h2⟩
  · by_cases q : a = p
    · rw [q]
      exact h
    · rw [upd_ne q] at ha
      exact e.free a ha
theorem Kp.new {H : Hp} {p : Addr} {o : HO} (h : H p = none) : Kp H (upd H p o) := (Kp.refl H).mut h
theorem Kp.rd {H H' : Hp} {a : Addr} {u : HO} (e : Kp H H') (t : isT u = false) (h : Rd H a u) : Rd H' a u := by
  rcases h with h | ⟨o, h⟩
  · exact Or.inl (e.same a _ t h)
  · exact Or.inr ⟨o, e.same a _ rfl h⟩
theorem Kp.sqL {K : PySem.W.Frag} {H H' : Hp} {a : Addr} {xs : List V} (e : Kp H H') (h : SqL K H a xs) : SqL K H' a xs := by
  rcases h with h | h
  · exact Or.inl (e.rd rfl h)
  · exact Or.inr h
theorem Kp.sqT {K : PySem.W.Frag} {H H' : Hp} {a : Addr} {xs : List V} (e : Kp H H') (h : SqT K H a xs) : SqT K H' a xs := by
  rcases h with h | h
  · exact Or.inl (e.rd rfl h)
  · exact Or.inr h
mutual
theorem Kp.dp {K : PySem.W.Frag} {H H' : Hp} (e : Kp H H') : ∀ {d : PyData} {v : V}, Dp K H v d → Dp K H' v d
  | _, _, .non => .non
  | _, _, .bl b => .bl b
  | _, _, .int i => .int i
  | _, _, .str x => .str x
  | _, _, .lst h a => .lst (e.sqL h) (Kp.dpAll e a)
  | _, _, .tup h a => .tup (e.sqT h) (Kp.dpAll e a)
theorem Kp.dpAll {K : PySem.W.Frag} {H H' : Hp} (e : Kp H H') : ∀ {ds : List PyData} {vs : List V}, DpAll K H vs ds → DpAll K H' vs ds
  | _, _, .nil => .nil
  | _, _, .cons h t => .cons (Kp.dp e h) (Kp.dpAll e t)
end
theorem DpAll.len {K : PySem.W.Frag} {H : Hp} : ∀ {vs : List V} {ds : List PyData}, DpAll K H vs ds → vs.length = ds.length
  | _, _, .nil => rfl
  | _, _, .cons _ t => congrArg (· + 1) (DpAll.len t)
theorem DpAll.get {K : PySem.W.Frag} {H : Hp} : ∀ {vs : List V} {ds : List PyData} {i : Nat} {d : PyData}, DpAll K H vs ds → ds[i]? = some d → ∃ v, vs[i]? = some v ∧ Dp K H v d
  | _, _, i, d, .nil, h => by simp at h
  | _, _, 0, d, .cons a _, h => by
    have e := Option.some.inj h
    subst e
    exact ⟨_, rfl, a⟩
  | _, _, i + 1, d, .cons _ t, h => DpAll.get (i := i) t h
theorem DpAll.app {K : PySem.W.Frag} {H : Hp} : ∀ {vs ws : List V} {ds es : List PyData}, DpAll K H vs ds → DpAll K H ws es → DpAll K H (vs ++ ws) (ds ++ es)
  | _, _, _, _, .nil, b => b
  | _, _, _, _, .cons a t, b => .cons a (DpAll.app t b)
/-- data without lists -/
inductive Nl : PyData → Prop
  | non : Nl .none
  | bl (b : Bool) : Nl (.bool b)
  | int (i : Int) : Nl (.int i)
  | str (x : Str) : Nl (.str x)
  | tup {ds : List PyData} : (∀ d ∈ ds, Nl d) → Nl (.tuple ds)
/-! a list may change: what has no list in it stays -/
mutual
theorem Dp.mut {K : PySem.W.Frag} {H : Hp} {p : Addr} {o : HO} {zs : List V} (hp : H p = some (.lst zs)) : ∀ {d : PyData} {v : V}, Nl d → Dp K H v d → Dp K (upd H p o) v d
  | _, _, _, .non => .non
  | _, _, _, .bl b => .bl b
  | _, _, _, .int i => .int i
  | _, _, _, .str x => .str x
  | _, _, n, .lst _ _ => nomatch n
  | _, _, n, .tup h a => by
    cases n with
    | tup n =>
      refine .tup ?_ (DpAll.mut hp n a)
      rcases h with (h | ⟨ob, h⟩) | h
      · exact .inl (.inl (by rw [upd_ne (ne_of h hp (by intro z; cases z))]; exact h))
      · exact .inl (.inr ⟨ob, by rw [upd_ne (ne_of h hp (by intro z; cases z))]; exact h⟩)
      · exact .inr h
theorem DpAll.mut {K : PySem.W.Frag} {H : Hp} {p : Addr} {o : HO} {zs : List V} (hp : H p = some (.lst zs)) : ∀ {ds : List PyData} {vs : List V}, (∀ d ∈ ds, Nl d) → DpAll K H vs ds → DpAll K (upd H p o) vs ds
  | _, _, _, .nil => .nil
  | _, _, n, .cons h t => .cons (Dp.mut hp (n _ List.mem_cons_self) h) (DpAll.mut hp (fun d hd => n d (List.mem_cons_of_mem _ hd)) t)
end
theorem DpAll.snoc {K : PySem.W.Frag} {H : Hp} {vs : List V} {ds : List PyData} {v : V} {d : PyData} (a : DpAll K H vs ds) (h : Dp K H v d) : DpAll K H (vs ++ [v]) (ds ++ [d]) := DpAll.app a (.cons h .nil)
theorem DpAll.dropLast {K : PySem.W.Frag} {H : Hp} : ∀ {vs : List V} {ds : List PyData}, DpAll K H vs ds → DpAll K H vs.dropLast ds.dropLast
  | _, _, .nil => .nil
  | _, _, .cons _ .nil => .nil
  | _, _, .cons h (.cons h2 t) => .cons h (DpAll.dropLast (.cons h2 t))
theorem dp_ints {K : PySem.W.Frag} {H : Hp} : ∀ ns : List Int, DpAll K H (ns.map V.int) (ns.map PyData.int)
  | [] => .nil
  | n :: r => .cons (.int n) (dp_ints r)
theorem dp_strs {K : PySem.W.Frag} {H : Hp} : ∀ ns : List Str, DpAll K H (ns.map V.str) (ns.map PyData.str)
  | [] => .nil
  | n :: r => .cons (.str n) (dp_strs r)
/-- a list of ints, a list of texts as data -/
def dI (ns : List Int) : PyData := .list (ns.map PyData.int)
def dS (ns : List Str) : PyData := .list (ns.map PyData.str)
theorem dp_dI {K : PySem.W.Frag} {H : Hp} {a : Addr} {ns : List Int} (h : SqL K H a (ns.map V.int)) : Dp K H (.ref a) (dI ns) := .lst h (dp_ints ns)
theorem dpAll_ints {K : PySem.W.Frag} {H : Hp} : ∀ {ns : List Int} {vs : List V}, DpAll K H vs (ns.map PyData.int) → vs = ns.map V.int
  | [], _, .nil => rfl
  | n :: r, _, .cons h t => by
    cases h
    rw [dpAll_ints t]
    rfl
theorem dp_of_dI {K : PySem.W.Frag} {H : Hp} {v : V} {ns : List Int} (h : Dp K H v (dI ns)) : ∃ a, v = .ref a ∧ SqL K H a (ns.map V.int) := by
  cases h with
  | lst h t =>
    rw [dpAll_ints t] at h
    exact ⟨_, rfl, h⟩
/-! ### small words -/
theorem at_int {ns : List Int} {j : Nat} (h : j < ns.length) : atI (ns.map V.int) (j : Int) = some (.int ns[j]) := atI_nat (by rw [List.getElem?_map, List.getElem?_eq_getElem h]; rfl)
theorem at_intZ {ns : List Int} {z : Int} (h0 : 0 ≤ z) (h : z.toNat < ns.length) : atI (ns.map V.int) z = some (.int ns[z.toNat]) := by
  have e := at_int h
  rw [Int.toNat_of_nonneg h0] at e
  exact e
theorem szl {n : Nat} (h : n ≤ 100000) : n ≤ sizeLine := Nat.le_trans h (by decide)
theorem szt {n : Nat} (h : n < 100000) : n < sizeLine := Nat.lt_of_lt_of_le h (by decide)
theorem iteB {b : Bool} {A B : Prop} (h1 : b = true → A) (h2 : b = false → B) : if b = true then A else B := by
  cases b with
  | true => rw [if_pos rfl]; exact h1 rfl
  | false => rw [if_neg Bool.false_ne_true]; exact h2 rfl
theorem iteD {c : Prop} [Decidable c] {A B : Prop} (h1 : c → A) (h2 : ¬ c → B) : if decide c = true then A else B :=
  iteB (fun h => h1 (of_decide_eq_true h)) (fun h => h2 (of_decide_eq_false h))
theorem iteN {c : Prop} [Decidable c] {A B : Prop} (h1 : ¬ c → A) (h2 : c → B) : if (!decide c) = true then A else B :=
  iteB (fun h => h1 (fun z => by rw [decide_eq_true z] at h; cases h)) (fun h => h2 (by
    by_cases z : c
    · exact z
    · rw [decide_eq_false z] at h; cases h))
theorem iteTo {b : Bool} {A B : Prop} (e : b = true) (h : A) : if b = true then A else B := by rw [if_pos e]; exact h
theorem iteFo {b : Bool} {A B : Prop} (e : b = false) (h : B) : if b = true then A else B := by rw [e, if_neg Bool.false_ne_true]; exact h
/-! ### rules with the written part by its own name (inside a comprehension) -/
section
variable {X : Cx} (K : PySem.W.Frag)
theorem ix_listK (h : X.K = K) : IxR X (rIxL K) := h ▸ ix_list
theorem ix_tupK (h : X.K = K) : IxR X (rIxT K) := h ▸ ix_tup
theorem ix_seqK (h : X.K = K) : IxR X (rIx K) := h ▸ ix_seq
def rLenSq : List V → Hp → VK → Prop := fun xs H Q => ∃ p ys, xs = [.ref p] ∧ (SqL K H p ys ∨ SqT K H p ys) ∧ Q (.int ys.length) H
theorem call_lenSK (h : X.K = K) : CallR X (.builtin "len") (rLenSq K) := h ▸ call_len_seq
def rLenV : List V → Hp → VK → Prop := fun xs H Q => ∃ x n, xs = [x] ∧ LenV K x H n ∧ Q (.int n) H
theorem call_lenK (h : X.K = K) : CallR X (.builtin "len") (rLenV K) := h ▸ call_len
theorem op_inK (h : X.K = K) : OpR X (compareOp .In) (rIn K false) := h ▸ op_in_seq
theorem op_notInK (h : X.K = K) : OpR X (compareOp .NotIn) (rIn K true) := h ▸ op_notIn_seq
theorem op_eqDK (h : X.K = K) (hu : X.A.units + 64 < cLine) : OpR X (compareOp .Eq) (rEqD K) := h ▸ op_eqD hu
theorem op_neDK (h : X.K = K) (hu : X.A.units + 64 < cLine) : OpR X (compareOp .NotEq) (rNeD K) := h ▸ op_neD hu
theorem call_isiKK (h : X.K = K) : CallR X (.builtin "isinstance") (rIsi K) := h ▸ call_isi
end
section
variable {X : Cx} (K : PySem.W.Frag)
theorem pgK {e : Expr} {n : Nat} {t : TGs} (h : X.K = K) (p : PG X e (gTup X.K n t)) : PG X e (gTup K n t) := h ▸ p
/-- isinstance(e, C), e what the suite has caught (without or with a dict of its own) -/
def rIsX (cls : Value) (d : Option Addr) (a : Addr) : List V → Hp → VK → Prop := fun xs H Q => ∃ (D : Addr) (c : V) (cv : Value) (b : Bool), cls = .ref D ∧ (d = none ∨ ∃ dd fs, d = some dd ∧ H dd = some (.xd fs)) ∧ ExcC K D ∧ xs = [.ref a, c] ∧ ClsV c cv ∧ PySem.W.kitOne K (.ref D) cv = some b ∧ Q (.bl b) H
theorem call_isX {a : Addr} {oe : Obj} {pn : List (Addr × Obj)} {cls : Value} {d : Option Addr} (h : X.K = K) (hz : Zc cls d oe) (hf : ∃ vs, oe.data = .fields vs) : CallR (X.suite a ((a, oe) :: pn)) (.builtin "isinstance") (rIsX K cls d a) := by
  subst h
  intro pins s σ H xs us Q I r h'
  obtain ⟨D, c, cv, b, rfl, hd, C, rfl, hc, hk, q⟩ := h'
  cases r with | cons rx rr =>
  cases rr with | cons rt rr =>
  cases rr
  cases rx
  have ec := hc.eq rt
  subst ec
  obtain ⟨hget, _⟩ := I.pin (a, oe) (List.mem_append_left _ List.mem_cons_self)
  obtain ⟨vs, hv⟩ := hf
  have hcl : (PySem.W.clsIn X.K D).isSome = true := by
    obtain ⟨cd, hc, _⟩ := PySem.W.any_some C.hd
    rw [hc]
    first | rfl | done
  have nc : PySem.W.notCls oe = true := by
    unfold PySem.W.notCls
    rw [hv]
  rcases hd with rfl | ⟨dd, fs, rfl, hdd⟩
  · have J : PySem.W.InstAt s.heap a oe D none := ⟨hget, hz.1, nc, by rw [hz.2]; trivial⟩
    exact PySem.W.kia_one (PySem.W.kitx_exc hcl C.hg C.hk C.hs C.ha C.hn C.ht C.hm) I.kIn J hk (fun z => nomatch z) fun tk => ⟨.bl b, H, I.kept (t' := tk) fun _ _ z => z, rfl, q⟩
  · obtain ⟨mA, hns, hr⟩ := I.hok dd _ hdd
    obtain ⟨od, ho, hl⟩ := lookIn_ns hns
    have J : PySem.W.InstAt s.heap a oe D (some od) := ⟨hget, hz.1, nc, by rw [hz.2]; exact ho⟩
    exact PySem.W.kia_one (PySem.W.kitx_exc hcl C.hg C.hk C.hs C.ha C.hn C.ht C.hm) I.kIn J hk (fun z => nomatch z) fun tk => ⟨.bl b, H, I.kept (t' := tk) fun _ _ z => z, rfl, q⟩
end
/-! ### isinstance of an own error, by what the written part says of its class -/
theorem kit_sub {K : PySem.W.Frag} {t : Value} {C : Addr} (ic : PySem.W.isClsIn K C = true) (tC : PySem.W.typeIn K (.ref C) = some (.type "type")) (h : PySem.W.subIn K t (.ref C) = some true) : PySem.W.kitOne K t (.ref C) = some true := by
  unfold PySem.W.kitOne
  by_cases e : (t == .ref C) = true
  · rw [if_pos e]
  · rw [if_neg e]
    have h2 : ((PySem.W.clsIn K C).isSome && PySem.W.typeIn K (.ref C) == some (.type "type")) = true := by
      have q : (PySem.W.clsIn K C).isSome = true := ic
      rw [q, tC]
      rfl
    show (if ((PySem.W.clsIn K C).isSome && PySem.W.typeIn K (.ref C) == some (.type "type")) = true then PySem.W.subIn K t (.ref C) else none) = some true
    rw [if_pos h2]
    exact h
theorem kit_not {K : PySem.W.Frag} {t : Value} {C : Addr} (ic : PySem.W.isClsIn K C = true) (tC : PySem.W.typeIn K (.ref C) = some (.type "type")) (h : PySem.W.subIn K t (.ref C) = some false) (hs : PySem.W.subIn K t t = some true) : PySem.W.kitOne K t (.ref C) = some false := by
  unfold PySem.W.kitOne
  have e : ¬ (t == .ref C) = true := fun e => by
    have z : t = .ref C := by simpa using e
    rw [z] at h hs
    rw [h] at hs
    cases hs
  rw [if_neg e]
  have h2 : ((PySem.W.clsIn K C).isSome && PySem.W.typeIn K (.ref C) == some (.type "type")) = true := by
    have q : (PySem.W.clsIn K C).isSome = true := ic
    rw [q, tC]
    rfl
  show (if ((PySem.W.clsIn K C).isSome && PySem.W.typeIn K (.ref C) == some (.type "type")) = true then PySem.W.subIn K t (.ref C) else none) = some false
  rw [if_pos h2]
  exact h
theorem meta_ve : PySem.W.kitMeta "ValueError" = true := by decide +kernel
theorem kit_ve {K : PySem.W.Frag} {C : Addr} (h : PySem.W.subIn K (.ref C) (.type "ValueError") = some true) : PySem.W.kitOne K (.ref C) (.type "ValueError") = some true := by
  unfold PySem.W.kitOne
  rw [if_neg (by intro z; cases z)]
  show (if PySem.W.kitMeta "ValueError" = true then PySem.W.subIn K (.ref C) (.type "ValueError") else none) = some true
  rw [if_pos meta_ve]
  exact h
theorem at_mod (z : Str) {m : Int} {n : Nat} (hn : 0 < n) (hl : z.cps.toList.length = n) : ∃ c, atI z.cps.toList (m % (n : Int)) = some c := by
  have h0 : 0 ≤ m % (n : Int) := Int.emod_nonneg _ (by omega)
  have h1 : m % (n : Int) < (n : Int) := Int.emod_lt_of_pos _ (by omega)
  have hj : (m % (n : Int)).toNat < z.cps.toList.length := by omega
  refine ⟨z.cps.toList[(m % (n : Int)).toNat], ?_⟩
  have e := atI_nat (List.getElem?_eq_getElem hj)
  rw [Int.toNat_of_nonneg h0] at e
  exact e
theorem cutV_map {lo hi : Option Int} {ns : List Int} : ∃ ms : List Int, cutV (ns.map V.int) lo hi = ms.map V.int ∧ (∀ m ∈ ms, m ∈ ns) ∧ ms.length ≤ ns.length := by
  unfold cutV
  rw [List.length_map]
  refine ⟨(ns.drop _).take _, by rw [List.map_take, List.map_drop], fun m h => List.mem_of_mem_drop (List.mem_of_mem_take h), ?_⟩
  rw [List.length_take, List.length_drop]
  omega
theorem mem_ints {ns : List Int} {i : Nat} {x : V} (h : (ns.map V.int)[i]? = some x) : ∃ z, z ∈ ns ∧ x = .int z ∧ ns[i]? = some z := by
  rw [List.getElem?_map] at h
  cases e : ns[i]? with
  | none =>
    rw [e] at h
    cases h
  | some z =>
    rw [e] at h
    exact ⟨z, List.mem_of_getElem? e, (Option.some.inj h).symm, rfl⟩
theorem mem_strs {ns : List Str} {i : Nat} {x : V} (h : (ns.map V.str)[i]? = some x) : ∃ z, z ∈ ns ∧ x = .str z ∧ ns[i]? = some z := by
  rw [List.getElem?_map] at h
  cases e : ns[i]? with
  | none =>
    rw [e] at h
    cases h
  | some z =>
    rw [e] at h
    exact ⟨z, List.mem_of_getElem? e, (Option.some.inj h).symm, rfl⟩
theorem take_snoc {α : Type} {l : List α} {i : Nat} {z : α} (h : l[i]? = some z) : l.take (i + 1) = l.take i ++ [z] := by
  rw [List.take_succ, h]
  rfl
/-! ### all(test for x in a list of ints): the test may read the module's names -/
section
open GxR
variable {X : Cx} {pins : List (Addr × Obj)} {σ : L2.St} {H : Hp} {s : Shared}
/-- the test of one int, the module's names being mg -/
def EltI (prog : Program) (w : World) (mg : Str → Option Value) (sco : Scope) (x : Str) (elt : Expr) (pb : Int → Bool) : Prop :=
  ∀ (en : Env) (B : Around) (F : Value → Shared → Prop) (c : Int) (t : Tok) (z : Shared) (m : Str → Option Value),
    en.scope = sco → en.globals = mainGlobals → z.heap.Ns mainGlobals mg → z.heap.Ns en.locals m → m x = some (.int c t) →
    wpAny (model prog w) B (eval elt en) (fun y z' => y = .bool (pb c) ∧ Keeps z z') F z
theorem keeps_tok {z : Shared} (k : Nat) : Keeps z { z with toks := k } := ⟨z.heap, k, rfl, fun _ _ e => e⟩
/-- 1 <= x <= G, G a module's int -/
theorem elt_chain {prog : Program} {w : World} {mg : Str → Option Value} {sco : Scope} {x g : Str} {lo hi : Int} {tl : Tok} {p0 p1 p2 p3 : Pos} {kk : Nat} (kf : sco.kind = .function) (lx : sco.names.lookup x = some .local) (lg : sco.names.lookup g = some .globalImplicit)
    (hL : mg g = some (.int hi tl)) (dx : (x == ("__debug__" : Str)) = false := by decide) (dg : (g == ("__debug__" : Str)) = false := by decide) :
    EltI prog w mg sco x (.Compare (.Constant (.int lo) kk p0) [.LtE, .LtE] [.Name x p1, .Name g p2] p3) (fun c => decide (lo ≤ c) && decide (c ≤ hi)) := by
  intro en B F c t z m es eg ng nl hm
  have kf' : en.scope.kind = .function := by rw [es]; exact kf
  refine Compare_chain (wpAny_Constant_int (chain_link ?_)) (by with_unfolding_all rfl)
  refine wpAny_Name (wpAny_loadName_local kf' (show en.scope.names.lookup x = some .local by rw [es]; exact lx) nl hm ?_) dx
  refine le_int (wpAny_truthy_bool ?_)
  by_cases h1 : lo ≤ c
  · rw [decide_eq_true h1]
    refine ite_tt (chain_last ?_)
    refine Calls.Name_function_global kf' (show en.scope.names.lookup g = some .globalImplicit by rw [es]; exact lg) (Calls.loadGlobal_global (mg := mg) (by rw [eg]; exact ng) hL ?_) dg
    refine le_int ⟨?_, keeps_tok _⟩
    show Value.bool (decide (c ≤ hi)) = Value.bool (decide (lo ≤ c) && decide (c ≤ hi))
    rw [decide_eq_true h1, Bool.true_and]
  · rw [decide_eq_false h1]
    refine ite_ff ⟨?_, keeps_tok _⟩
    show Value.bool false = Value.bool (decide (lo ≤ c) && decide (c ≤ hi))
    rw [decide_eq_false h1, Bool.false_and]
def trI (pb : Int → Bool) (l : List Int) (j : Nat) : Bool := match l[j]? with
  | some b => pb b
  | none => false
theorem trI_some {pb : Int → Bool} {l : List Int} {j : Nat} {b : Int} (h : l[j]? = some b) : trI pb l j = pb b := by
  unfold trI
  rw [h]
theorem all_trI (l : List Int) (pb : Int → Bool) : (List.range l.length).all (trI pb l) = l.all pb := by
  rw [Bool.eq_iff_iff, List.all_eq_true, List.all_eq_true]
  constructor
  · intro h b hb
    obtain ⟨j, hj, e⟩ := List.mem_iff_getElem.mp hb
    have z := h j (List.mem_range.mpr hj)
    rw [trI_some (List.getElem?_eq_getElem hj), e] at z
    exact z
  · intro h j hj
    have hj' := List.mem_range.mp hj
    rw [trI_some (List.getElem?_eq_getElem hj')]
    exact h _ (List.getElem_mem hj')
def ReadyI (X : Cx) (pins : List (Addr × Obj)) (σ : L2.St) (H1 : Hp) (P : Addr) (a : List Int) (pb : Int → Bool) (g : Addr) (s5 : Shared) : Prop :=
  ∃ (fp wr : List Addr) (G : Array GenState → Array GenState → Prop) (F : Nat → Value → Prop) (St : Nat → Shared → Prop),
    WalksS X.prog X.w X.A.in1 g fp wr G a.length F St ∧ St 0 s5 ∧
    TruthOf X.prog X.w X.A.in1 F (trI pb a) ∧
    ∀ s', Moved wr G s5 s' → ∃ H2, Tabbed P H1 H2 ∧ Inv X pins σ H2 s'
theorem gen_ints {c P : Addr} {elt src : Expr} {x : Str} {px gp : Pos} {sco : Scope} {pb : Int → Bool} {te : TE} {k : Nat} {Z : Value → Shared → Prop} {R : List Int → Hp → Prop}
    (hr : Room k X.A) (TB : TabB X.base X.mg c P) (hco : X.env.code = .ref c) (S : GenS X.env sco x) (hi : PE X src te) (hel : EltI X.prog X.w X.mg sco x elt pb)
    (hs : ∀ v, genFold src X.env v = pure v) (I : Inv X pins σ H s) (h : te σ H fun v H1 => ∃ (yl : Addr) (a : List Int), v = .ref yl ∧ SqL X.K H1 yl (a.map V.int) ∧ TabG H1 P ∧ R a H1)
    (hZ : ∀ a H1 g z, R a H1 → ReadyI X pins σ H1 P a pb g z → Z (.ref g) z) :
    wpAny (model X.prog X.w) X.A (eval (.GeneratorExp elt [⟨.Name x px, src, [], 0⟩] sco gp) X.env) Z X.xe s := by
  refine wpAny_GeneratorExp_walksQ hr.hd S.co (closure_ok S.free) S.cell S.dot S.loc S.kind (by have d := hr.dp; omega) ?_ hs
  refine thn (hi.run pins s σ H _ I h) fun xv z1 ⟨v, H1, J, r1, q⟩ => ?_
  obtain ⟨yl, a, rfl, hyl, ⟨ps, hP, ht⟩, q⟩ := q
  obtain rfl : xv = Value.ref yl := r1
  obtain ⟨its, rv, hl, hz⟩ := J.list hyl
  have hIL := hl.isList
  have hlen : its.length = a.length := by rw [← rv.length, List.length_map]
  have hat : ∀ (i : Nat) (v : Value), its.toArray[i]? = some v → ∃ (n : Int) (u : Tok), a[i]? = some n ∧ v = .int n u := fun i v hv => by
    have hv2 : its[i]? = some v := by simpa using hv
    have hi2 : i < its.length := (List.getElem?_eq_some_iff.mp hv2).1
    obtain ⟨n, ha⟩ : ∃ n, a[i]? = some n := ⟨a[i]'(by omega), List.getElem?_eq_getElem _⟩
    have hb : (a.map V.int)[i]? = some (V.int n) := by rw [List.getElem?_map, ha] <;> rfl
    obtain ⟨u, hu, ru⟩ := rv.get hb
    rw [hv2] at hu
    cases hu
    obtain ⟨t, e⟩ := (show ∃ t, v = Value.int n t from ru)
    exact ⟨n, t, ha, e⟩
  refine wpAny_pyIter_list hIL ?_
  generalize ho : ({ cls := .type "list_iterator", data := .fields #[.ref yl, .int 0 0] } : Obj) = it
  have hitr : (z1.heap.push it).IsListIter z1.heap.objs.size yl 0 := by
    subst ho
    exact ⟨_, Heap.get?_push_size _ rfl, rfl, rfl⟩
  have hylt : yl < z1.heap.objs.size := by
    obtain ⟨_, e, _⟩ := _root_.id hIL
    exact Heap.lt_size e
  have gP : z1.heap.get? P = some { cls := .none, data := .fields ps } := J.hok P _ hP
  have gP2 : (z1.heap.push it).get? P = some { cls := .none, data := .fields ps } := Heap.get?_push_of_some _ gP
  have ltP : P < z1.heap.objs.size := Heap.lt_size gP
  have hd2 : PySem.W.CodeHd (z1.heap.push it) c P := TB.code.keeps fun b u e => Heap.get?_push_of_some _ (J.bk b u e)
  have nl2 : (z1.heap.push it).NoLimit := J.nolimit.push it
  have go : ∀ (code : Value) (hh : Heap) (tk : Nat) (qs : Array Value), Heap.ExtBut P (z1.heap.push it) hh → (z1.heap.push it).objs.size ≤ hh.objs.size →
      hh.get? P = some { cls := .none, data := .fields qs } → (∃ more, qs = ps ++ more) → TriplesOk qs.toList →
      wpAny (model X.prog X.w) X.A (builtinsFor X.env.globals X.env.builtins) (fun bi s₄ =>
        ∃ Ia fp wr n₀ Pf St₀ pz F, Value.ref z1.heap.objs.size = .ref Ia ∧ (∀ A' : Around, A'.handled = none → Walks X.prog X.w A' Ia fp wr n₀ Pf St₀) ∧
          St₀ 0 s₄.heap ∧ (∀ b ∈ fp, b < s₄.heap.objs.size) ∧ s₄.heap.NoLimit ∧ cStatics ∉ wr ∧
          (∀ hf : Heap, (∀ b o, s₄.heap.get? b = some o → hf.get? b = some o) →
            QuietGen X.prog X.w (genEnv sco (cloFrom X.env.cells sco.names []) s₄.heap.objs.size code bi X.env) x [] elt (List.range s₄.heap.objs.size) wr Pf pz F hf) ∧
          (∀ a h₅ tk gs, gs.bare = true → s₄.heap.objs.size < a → h₅.objs.size = a + 1 → (∀ b o, s₄.heap.get? b = some o → h₅.get? b = some o) →
            WalksS X.prog X.w X.A.in4 a (a :: s₄.heap.objs.size :: List.range s₄.heap.objs.size) (s₄.heap.objs.size :: wr) (GenOnlyQ s₄.gens.size)
              (passing pz n₀ 0).length (fun j y => ∃ i, (passing pz n₀ 0)[j]? = some i ∧ F i y)
              (GenAt X.prog X.w X.A.in4 a s₄.gens.size s₄.heap.objs.size (List.range s₄.heap.objs.size) wr pz n₀ F) →
            GenAt X.prog X.w X.A.in4 a s₄.gens.size s₄.heap.objs.size (List.range s₄.heap.objs.size) wr pz n₀ F 0 { s₄ with gens := s₄.gens.push gs, toks := tk, heap := h₅ } →
            Z (.ref a) { s₄ with gens := s₄.gens.push gs, toks := tk, heap := h₅ })) X.xe { z1 with heap := hh, toks := tk } := by
    intro code hh tk qs ex sz gq mr tq
    obtain ⟨bm, ob, b1, b2, b3, b4, b5, b6, b7, b8⟩ := TB.bm
    have neS : cStatics ≠ P := fun e => by
      obtain ⟨_, ns, _⟩ := J.nolimit
      obtain ⟨oo, es, ep, go1, gd, _⟩ := ns
      rw [e, gP] at go1
      cases go1
      cases gd
    have ltS : cStatics < z1.heap.objs.size := let ⟨_, ns, _⟩ := J.nolimit; ns.lt
    have szp : (z1.heap.push it).objs.size = z1.heap.objs.size + 1 := Heap.size_push ..
    have kp : ∀ b u, b ≠ P → z1.heap.get? b = some u → hh.get? b = some u := fun b u hb e => ex b u hb (Heap.get?_push_of_some _ e)
    have gl1 : z1.heap.Ns mainGlobals X.mg := J.mod.glob.keeps J.bk
    have glh : hh.Ns mainGlobals X.mg := (gl1.push it).extBut ex TB.gP
    refine wpAny_builtinsFor (m := X.mg) (by rw [J.ok.glob]; exact glh) b1 b2 (kp _ _ b4 (J.bk _ _ b5)) b6 b7 b8 ?_
    have hylP : yl ≠ P := fun z => by
      obtain ⟨_, e, hc1, _, hd1⟩ := _root_.id hIL
      rw [z, gP] at e
      cases e
      cases hd1
    have hIL3 : hh.IsList yl its.toArray := by
      obtain ⟨ob, e, r⟩ := _root_.id hIL
      exact ⟨ob, kp _ _ hylP e, r⟩
    have hItr3 : hh.IsListIter z1.heap.objs.size yl 0 := hitr.at fun u e => ex _ u (Nat.ne_of_gt ltP) e
    refine ⟨z1.heap.objs.size, [z1.heap.objs.size, yl], [z1.heap.objs.size], its.toArray.size, (fun i v => its.toArray[i]? = some v), (fun i h => h.IsListIter z1.heap.objs.size yl i ∧ h.IsList yl its.toArray), (fun _ => true),
      (fun i y => ∃ n : Int, a[i]? = some n ∧ y = .bool (pb n)), rfl, (fun A' hA => Walks.list hA _ _ (Nat.ne_of_lt hylt) _), ⟨hItr3, hIL3⟩, ?_, nl2.extBut ex neS, ?_, ?_, ?_⟩
    · intro b hb
      rcases List.mem_cons.mp hb with z | z
      · rw [z]
        show z1.heap.objs.size < hh.objs.size
        omega
      · rw [List.mem_singleton.mp z]
        have e9 : z1.heap.objs.size ≤ hh.objs.size := by omega
        exact Nat.lt_of_lt_of_le hylt e9
    · exact fun m => Nat.ne_of_lt ltS (List.mem_singleton.mp m)
    · intro hf keep
      refine ⟨fun A' E' i v z2 m2 _ _ _ _ _ => ?_, fun A' E' i v z2 m2 _ hv _ hn hm hk => ?_⟩
      · simp only [List.forIn_nil]
        exact wpAny_pure ⟨rfl, keeps_refl _⟩
      · obtain ⟨cc, u, hcc, rfl⟩ := hat i v hv
        have ngl : z2.heap.Ns mainGlobals X.mg := by
          have lt1 : mainGlobals < z1.heap.objs.size := gl1.lt
          obtain ⟨og, es, ep, e1, er⟩ := glh
          exact ⟨og, es, ep, hk mainGlobals (List.mem_range.mpr (Heap.lt_size e1)) (fun m => Nat.ne_of_lt lt1 (List.mem_singleton.mp m)) og (keep _ _ e1), er⟩
        exact wpAny_mono (hel _ A' E' cc u z2 m2 rfl J.ok.glob ngl hn hm) (fun y z3 r => ⟨⟨cc, hcc, r.1⟩, r.2⟩) fun _ _ e => e
    · intro g h5 tk5 gs bare lt5 sz5 k5 W5 at5
      simp only [GxR.passing_true, List.length_range] at W5
      have hn5 : its.toArray.size = a.length := by rw [List.size_toArray, hlen]
      rw [hn5] at W5 at5
      refine hZ a H1 g _ q ⟨_, _, _, _, _, W5.in4_1, at5, ?_, fun z' mv => ?_⟩
      · intro j y sj Qj Ej hy hQj
        obtain ⟨i, hij, cc, hcc, rfl⟩ := hy
        obtain ⟨lj, ej⟩ := List.getElem?_eq_some_iff.mp hij
        rw [List.getElem_range] at ej
        subst ej
        have hQ2 : Qj (trI pb a j) sj := hQj
        rw [trI_some hcc] at hQ2
        exact wpAny_truthy_bool hQ2
      · obtain ⟨more, em⟩ := mr
        have out : ∀ b u, z1.heap.get? b = some u → b ∉ hh.objs.size :: [z1.heap.objs.size] := fun b u e hb => by
          have lt := Heap.lt_size e
          rcases List.mem_cons.mp hb with y | y
          · rw [y] at lt
            have lt' : (hh.objs.size : Nat) < z1.heap.objs.size := lt
            omega
          · rw [List.mem_singleton.mp y] at lt
            exact Nat.lt_irrefl _ lt
        have J2 := inv_tab (more := more) (h' := z'.heap) (g' := z'.gens) (d' := z'.drawn) (t' := z'.toks) J hP
          (fun b u hb e => mv.heap b u (out b u e) (k5 b u (kp b u hb e)))
          (by rw [← em]; exact mv.heap P _ (out P _ gP) (k5 P _ gq))
          (AllBare.movedS (J.bare.push bare) mv)
        rw [sh_eta z1 z' mv.os] at J2
        exact ⟨upd H1 P (.tbl (ps ++ more)), ⟨⟨ps ++ more, upd_same, by rw [← em]; exact tq⟩, fun b hb => upd_ne hb⟩, J2⟩
  refine ⟨nl2, ?_⟩
  cases hf : codeAmong gp ps.toList with
  | none =>
    refine wpAny_genexprCodeX hco (hd2.code gP2 ht) (hd2.tab gP2) hf fun c' h' tk ex ge lt hc' _ tab' _ => ?_
    obtain ⟨_, _, _, _, _, _, _, _, _, _, _, _, _, _, _, _, _, _, _, tr, _⟩ := hc'
    exact go _ h' tk _ ex (Nat.le_trans ge (Nat.le_of_lt lt)) tab'.2 ⟨_, rfl⟩ tr
  | some cv =>
    refine wpAny_genexprCode_hit hco (hd2.code gP2 ht) hf ?_
    exact go cv (z1.heap.push it) z1.toks ps (Heap.ExtBut.refl _ _) (Nat.le_refl _) gP2 ⟨#[], by simp⟩ ht
def tAllI (K : PySem.W.Frag) (P : Addr) (pb : Int → Bool) (te : TE) : TE := fun σ H Q => te σ H fun v H1 => ∃ (yl : Addr) (a : List Int), v = .ref yl ∧ SqL K H1 yl (a.map V.int) ∧ TabG H1 P ∧ ∀ H2, Tabbed P H1 H2 → Q (.bl (a.all pb)) H2
theorem pe_allI {c P : Addr} {elt src : Expr} {x : Str} {px p pos gp : Pos} {sco : Scope} {pb : Int → Bool} {te : TE} {k : Nat}
    (hr : Room k X.A) (hg : Gl X "all") (hm : X.mg "all" = none) (hb : bootBuiltins "all" = some (.builtin "all")) (TB : TabB X.base X.mg c P) (hco : X.env.code = .ref c) (S : GenS X.env sco x) (hi : PE X src te) (hel : EltI X.prog X.w X.mg sco x elt pb)
    (hs : ∀ v, genFold src X.env v = pure v)
    (he : starEach [.GeneratorExp elt [⟨.Name x px, src, [], 0⟩] sco gp] X.env = (false, eval (.GeneratorExp elt [⟨.Name x px, src, [], 0⟩] sco gp) X.env) :: starEach [] X.env := by rfl) :
    PE X (.Call (.Name "all" p) [.GeneratorExp elt [⟨.Name x px, src, [], 0⟩] sco gp] [] pos) (tAllI X.K P pb te) := by
  refine ⟨fun pins z σ H Q I h => ?_⟩
  refine wpAny_Call_Name_kw (ld_blt I hg hm hb (PyProof.Rows.callWith_builtin1 ?_ he (by rfl)))
  rw [he]
  show wpAny _ _ (spliced ((false, eval (.GeneratorExp elt [⟨.Name x px, src, [], 0⟩] sco gp) X.env) :: backTo pos (starEach [] X.env))) _ _ z
  refine Calls.spliced_cons (gen_ints (R := fun a H1 => ∀ H2, Tabbed P H1 H2 → Q (.bl (a.all pb)) H2) hr TB hco S hi hel hs I h fun a H1 g z5 hR hG => ?_)
  obtain ⟨fp, wr, G, F, St, W, st0, tru, fin⟩ := hG
  refine Calls.spliced_nil (call_all_walkS (W.self 0 _ _ _ st0 ⟨g, fp, wr, G, _, F, St, _, rfl, W, st0, tru, fun z' mv => ?_⟩))
  obtain ⟨H2, tb, J⟩ := fin z' mv
  refine ⟨.bl _, H2, J, rfl, ?_⟩
  rw [all_trI a pb]
  exact hR H2 tb
/-- a table may grow -/
theorem kp_tabbed {P : Addr} {H H' : Hp} (h : TabG H P) (t : Tabbed P H H') : Kp H H' := by
  obtain ⟨ps, hP, _⟩ := h
  obtain ⟨⟨qs, hQ, tq⟩, e⟩ := t
  refine ⟨fun b o n hb => ?_, fun b hb => ?_, fun b hb => ?_⟩
  · have ne : b ≠ P := fun z => by
      rw [z, hP] at hb
      cases hb
      cases n
    rw [e b ne]
    exact hb
  · by_cases z : b = P
    · rw [z]
      exact ⟨qs, hQ, tq⟩
    · obtain ⟨rs, h1, h2⟩ := hb
      exact ⟨rs, by rw [e b z]; exact h1, h2⟩
  · by_cases z : b = P
    · rw [z, hQ] at hb
      cases hb
    · rw [e b z] at hb
      exact hb
end

/-! ### all(f(x) for x in a list of ints): f a def whose body is one return -/
section
open GxR
variable {X : Cx} {pins : List (Addr × Obj)} {σ : L2.St} {H : Hp} {s : Shared}
def EltD (prog : Program) (w : World) (K : PySem.W.Frag) (mg : Str → Option Value) (sco : Scope) (x : Str) (elt : Expr) (pb : Int → Bool) (D : Nat) : Prop :=
  ∀ (en : Env) (B : Around) (F : Value → Shared → Prop) (c : Int) (t : Tok) (z : Shared) (m : Str → Option Value),
    B.handled = none → B.depth ≤ D → en.scope = sco → en.globals = mainGlobals → z.heap.Ns mainGlobals mg → K.In z.heap → z.heap.NoLimit → z.heap.Ns en.locals m → m x = some (.int c t) →
    wpAny (model prog w) B (eval elt en) (fun y z' => y = .bool (pb c) ∧ Keeps z z') F z
theorem elt_call {prog : Program} {w : World} {K : PySem.W.Frag} {mg : Str → Option Value} {sco : Scope} {x fn y : Str} {f : Addr} {fd : FuncData} {st : Stmt} {e : Expr} {pb : Int → Bool} {N : List Str} {p p1 pos p4 : Pos} {D : Nat}
    (Fn : Fun K fn fn st f fd) (hg : mg fn = some (.ref f)) (hb : Binds K fd [y] []) (S : FnScope N [y] (defScope st)) (nc : ∀ q ∈ (defScope st).names, q.2 ≠ .cell) (hbd : defBody st = [.Return (some e) p4]) (hel : EltI prog w mg (defScope st) y e pb)
    (kf : sco.kind = .function) (lx : sco.names.lookup x = some .local) (lf : sco.names.lookup fn = some .globalImplicit) (ly : (defScope st).names.lookup y = some .local) (hD : D < recursionLimit)
    (dx : (x == ("__debug__" : Str)) = false := by decide) (df : (fn == ("__debug__" : Str)) = false := by decide) :
    EltD prog w K mg sco x (.Call (.Name fn p) [.Name x p1] [] pos) pb D := by
  intro en B F c t z m hh hd es eg ng kin nl nlc hm
  have kf' : en.scope.kind = .function := by rw [es]; exact kf
  refine wpAny_Call_Name_kw (Calls.Name_function_global kf' (show en.scope.names.lookup fn = some .globalImplicit by rw [es]; exact lf) (Calls.loadGlobal_global (mg := mg) (by rw [eg]; exact ng) hg ?_) df)
  refine PySem.W.callWith_K (K := K) (first := []) kin Fn.kp ?_ (by rfl) (by rfl)
  refine Calls.spliced_cons (wpAny_Name (wpAny_loadName_local kf' (show en.scope.names.lookup x = some .local by rw [es]; exact lx) nlc hm (Calls.spliced_nil ⟨kin, ?_⟩)) dx)
  refine wpAny_call ?_
  obtain ⟨oc, od, kV, doc, pm, an, cdv, ct, osl, rfl, lk, cd⟩ := Fn.ex
  refine codeAny_call_function (Nat.lt_of_le_of_lt hd hD) (kin _ _ lk) rfl S.co S.gen rfl (PySem.W.codeRec_of kin cd) (hb _ _ kin rfl _ _ _ _ ?_)
  refine wpAny_newFunctionEnv nc (fun q hq => ?_) (fun h0 hns hsb => ⟨nl.fresh _ hsb, codeAny_func ?_⟩) S.kind
  · rw [List.mem_singleton.mp hq]
    exact ly
  · have ext : ∀ b o, z.heap.get? b = some o → h0.get? b = some o := fun b o e => hsb.extBut b o (Nat.ne_of_lt (Heap.lt_size e)) (Heap.get?_push_of_some _ e)
    rw [hbd]
    refine wpAny_execs_cons (wpAny_Return_some ?_)
    refine wpAny_mono (hel _ _ _ c t _ _ rfl rfl (ng.keeps ext) hns (by simp [List.lookup])) (fun v z' r => ?_) fun _ _ q => q
    obtain ⟨rv, h1, k1, rfl, ex1⟩ := r
    exact ⟨rv, h1, k1, rfl, fun b o e => ex1 b o (ext b o e)⟩
theorem gen_intsD {c P : Addr} {elt src : Expr} {x : Str} {px gp : Pos} {sco : Scope} {pb : Int → Bool} {te : TE} {k : Nat} {Z : Value → Shared → Prop} {R : List Int → Hp → Prop}
    (hr : Room k X.A) (TB : TabB X.base X.mg c P) (hco : X.env.code = .ref c) (S : GenS X.env sco x) (hi : PE X src te) (hel : EltD X.prog X.w X.K X.mg sco x elt pb (X.A.depth + 1))
    (hs : ∀ v, genFold src X.env v = pure v) (I : Inv X pins σ H s) (h : te σ H fun v H1 => ∃ (yl : Addr) (a : List Int), v = .ref yl ∧ SqL X.K H1 yl (a.map V.int) ∧ TabG H1 P ∧ R a H1)
    (hZ : ∀ a H1 g z, R a H1 → ReadyI X pins σ H1 P a pb g z → Z (.ref g) z) :
    wpAny (model X.prog X.w) X.A (eval (.GeneratorExp elt [⟨.Name x px, src, [], 0⟩] sco gp) X.env) Z X.xe s := by
  refine wpAny_GeneratorExp_walksQD hr.hd S.co (closure_ok S.free) S.cell S.dot S.loc S.kind (by have d := hr.dp; omega) ?_ hs
  refine thn (hi.run pins s σ H _ I h) fun xv z1 ⟨v, H1, J, r1, q⟩ => ?_
  obtain ⟨yl, a, rfl, hyl, ⟨ps, hP, ht⟩, q⟩ := q
  obtain rfl : xv = Value.ref yl := r1
  obtain ⟨its, rv, hl, hz⟩ := J.list hyl
  have hIL := hl.isList
  have hlen : its.length = a.length := by rw [← rv.length, List.length_map]
  have hat : ∀ (i : Nat) (v : Value), its.toArray[i]? = some v → ∃ (n : Int) (u : Tok), a[i]? = some n ∧ v = .int n u := fun i v hv => by
    have hv2 : its[i]? = some v := by simpa using hv
    have hi2 : i < its.length := (List.getElem?_eq_some_iff.mp hv2).1
    obtain ⟨n, ha⟩ : ∃ n, a[i]? = some n := ⟨a[i]'(by omega), List.getElem?_eq_getElem _⟩
    have hb : (a.map V.int)[i]? = some (V.int n) := by rw [List.getElem?_map, ha] <;> rfl
    obtain ⟨u, hu, ru⟩ := rv.get hb
    rw [hv2] at hu
    cases hu
    obtain ⟨t, e⟩ := (show ∃ t, v = Value.int n t from ru)
    exact ⟨n, t, ha, e⟩
  refine wpAny_pyIter_list hIL ?_
  generalize ho : ({ cls := .type "list_iterator", data := .fields #[.ref yl, .int 0 0] } : Obj) = it
  have hitr : (z1.heap.push it).IsListIter z1.heap.objs.size yl 0 := by
    subst ho
    exact ⟨_, Heap.get?_push_size _ rfl, rfl, rfl⟩
  have hylt : yl < z1.heap.objs.size := by
    obtain ⟨_, e, _⟩ := _root_.id hIL
    exact Heap.lt_size e
  have gP : z1.heap.get? P = some { cls := .none, data := .fields ps } := J.hok P _ hP
  have gP2 : (z1.heap.push it).get? P = some { cls := .none, data := .fields ps } := Heap.get?_push_of_some _ gP
  have ltP : P < z1.heap.objs.size := Heap.lt_size gP
  have hd2 : PySem.W.CodeHd (z1.heap.push it) c P := TB.code.keeps fun b u e => Heap.get?_push_of_some _ (J.bk b u e)
  have nl2 : (z1.heap.push it).NoLimit := J.nolimit.push it
  have go : ∀ (code : Value) (hh : Heap) (tk : Nat) (qs : Array Value), Heap.ExtBut P (z1.heap.push it) hh → (z1.heap.push it).objs.size ≤ hh.objs.size →
      hh.get? P = some { cls := .none, data := .fields qs } → (∃ more, qs = ps ++ more) → TriplesOk qs.toList →
      wpAny (model X.prog X.w) X.A (builtinsFor X.env.globals X.env.builtins) (fun bi s₄ =>
        ∃ Ia fp wr n₀ Pf St₀ pz F, Value.ref z1.heap.objs.size = .ref Ia ∧ (∀ A' : Around, A'.handled = none → Walks X.prog X.w A' Ia fp wr n₀ Pf St₀) ∧
          St₀ 0 s₄.heap ∧ (∀ b ∈ fp, b < s₄.heap.objs.size) ∧ s₄.heap.NoLimit ∧ cStatics ∉ wr ∧
          (∀ hf : Heap, (∀ b o, s₄.heap.get? b = some o → hf.get? b = some o) →
            QuietGenD X.prog X.w (genEnv sco (cloFrom X.env.cells sco.names []) s₄.heap.objs.size code bi X.env) x [] elt (List.range s₄.heap.objs.size) wr Pf pz F hf (X.A.depth + 1) (X.A.units + 8)) ∧
          (∀ a h₅ tk gs, gs.bare = true → s₄.heap.objs.size < a → h₅.objs.size = a + 1 → (∀ b o, s₄.heap.get? b = some o → h₅.get? b = some o) →
            WalksS X.prog X.w X.A.in4 a (a :: s₄.heap.objs.size :: List.range s₄.heap.objs.size) (s₄.heap.objs.size :: wr) (GenOnlyQ s₄.gens.size)
              (passing pz n₀ 0).length (fun j y => ∃ i, (passing pz n₀ 0)[j]? = some i ∧ F i y)
              (GenAt X.prog X.w X.A.in4 a s₄.gens.size s₄.heap.objs.size (List.range s₄.heap.objs.size) wr pz n₀ F) →
            GenAt X.prog X.w X.A.in4 a s₄.gens.size s₄.heap.objs.size (List.range s₄.heap.objs.size) wr pz n₀ F 0 { s₄ with gens := s₄.gens.push gs, toks := tk, heap := h₅ } →
            Z (.ref a) { s₄ with gens := s₄.gens.push gs, toks := tk, heap := h₅ })) X.xe { z1 with heap := hh, toks := tk } := by
    intro code hh tk qs ex sz gq mr tq
    obtain ⟨bm, ob, b1, b2, b3, b4, b5, b6, b7, b8⟩ := TB.bm
    have neS : cStatics ≠ P := fun e => by
      obtain ⟨_, ns, _⟩ := J.nolimit
      obtain ⟨oo, es, ep, go1, gd, _⟩ := ns
      rw [e, gP] at go1
      cases go1
      cases gd
    have ltS : cStatics < z1.heap.objs.size := let ⟨_, ns, _⟩ := J.nolimit; ns.lt
    have szp : (z1.heap.push it).objs.size = z1.heap.objs.size + 1 := Heap.size_push ..
    have kp : ∀ b u, b ≠ P → z1.heap.get? b = some u → hh.get? b = some u := fun b u hb e => ex b u hb (Heap.get?_push_of_some _ e)
    have gl1 : z1.heap.Ns mainGlobals X.mg := J.mod.glob.keeps J.bk
    have glh : hh.Ns mainGlobals X.mg := (gl1.push it).extBut ex TB.gP
    refine wpAny_builtinsFor (m := X.mg) (by rw [J.ok.glob]; exact glh) b1 b2 (kp _ _ b4 (J.bk _ _ b5)) b6 b7 b8 ?_
    have hylP : yl ≠ P := fun z => by
      obtain ⟨_, e, hc1, _, hd1⟩ := _root_.id hIL
      rw [z, gP] at e
      cases e
      cases hd1
    have hIL3 : hh.IsList yl its.toArray := by
      obtain ⟨ob, e, r⟩ := _root_.id hIL
      exact ⟨ob, kp _ _ hylP e, r⟩
    have hItr3 : hh.IsListIter z1.heap.objs.size yl 0 := hitr.at fun u e => ex _ u (Nat.ne_of_gt ltP) e
    refine ⟨z1.heap.objs.size, [z1.heap.objs.size, yl], [z1.heap.objs.size], its.toArray.size, (fun i v => its.toArray[i]? = some v), (fun i h => h.IsListIter z1.heap.objs.size yl i ∧ h.IsList yl its.toArray), (fun _ => true),
      (fun i y => ∃ n : Int, a[i]? = some n ∧ y = .bool (pb n)), rfl, (fun A' hA => Walks.list hA _ _ (Nat.ne_of_lt hylt) _), ⟨hItr3, hIL3⟩, ?_, nl2.extBut ex neS, ?_, ?_, ?_⟩
    · intro b hb
      rcases List.mem_cons.mp hb with z | z
      · rw [z]
        show z1.heap.objs.size < hh.objs.size
        omega
      · rw [List.mem_singleton.mp z]
        have e9 : z1.heap.objs.size ≤ hh.objs.size := by omega
        exact Nat.lt_of_lt_of_le hylt e9
    · exact fun m => Nat.ne_of_lt ltS (List.mem_singleton.mp m)
    · intro hf keep
      refine ⟨fun A' E' i v z2 m2 _ _ _ _ _ _ _ => ?_, fun A' E' i v z2 m2 hhd hdp _ hv _ hn hm hk => ?_⟩
      · simp only [List.forIn_nil]
        exact wpAny_pure ⟨rfl, keeps_refl _⟩
      · obtain ⟨cc, u, hcc, rfl⟩ := hat i v hv
        have ngl : z2.heap.Ns mainGlobals X.mg := by
          have lt1 : mainGlobals < z1.heap.objs.size := gl1.lt
          obtain ⟨og, es, ep, e1, er⟩ := glh
          exact ⟨og, es, ep, hk mainGlobals (List.mem_range.mpr (Heap.lt_size e1)) (fun m => Nat.ne_of_lt lt1 (List.mem_singleton.mp m)) og (keep _ _ e1), er⟩
        have up2 : ∀ b o, b ≠ P → b < z1.heap.objs.size → z1.heap.get? b = some o → z2.heap.get? b = some o := fun b o hb hlt e =>
          hk b (List.mem_range.mpr (Heap.lt_size (kp b o hb e))) (fun m => Nat.ne_of_lt hlt (List.mem_singleton.mp m)) o (keep _ _ (kp b o hb e))
        have kin2 : X.K.In z2.heap := fun b o e => by
          have e1 := J.kIn b o e
          refine up2 b o (fun q => ?_) (Heap.lt_size e1) e1
          have bs1 := (J.bs b o (J.ok.mod.kin b o e)).2
          rw [q, hP] at bs1
          cases bs1
        have nl3 : z2.heap.NoLimit := by
          obtain ⟨mc, hns, hnn⟩ := J.nolimit
          exact ⟨mc, hns.at' fun o e => up2 cStatics o neS ltS e, hnn⟩
        exact wpAny_mono (hel _ A' E' cc u z2 m2 hhd hdp rfl J.ok.glob ngl kin2 nl3 hn hm) (fun y z3 r => ⟨⟨cc, hcc, r.1⟩, r.2⟩) fun _ _ e => e
    · intro g h5 tk5 gs bare lt5 sz5 k5 W5 at5
      simp only [GxR.passing_true, List.length_range] at W5
      have hn5 : its.toArray.size = a.length := by rw [List.size_toArray, hlen]
      rw [hn5] at W5 at5
      refine hZ a H1 g _ q ⟨_, _, _, _, _, W5.in4_1, at5, ?_, fun z' mv => ?_⟩
      · intro j y sj Qj Ej hy hQj
        obtain ⟨i, hij, cc, hcc, rfl⟩ := hy
        obtain ⟨lj, ej⟩ := List.getElem?_eq_some_iff.mp hij
        rw [List.getElem_range] at ej
        subst ej
        have hQ2 : Qj (trI pb a j) sj := hQj
        rw [trI_some hcc] at hQ2
        exact wpAny_truthy_bool hQ2
      · obtain ⟨more, em⟩ := mr
        have out : ∀ b u, z1.heap.get? b = some u → b ∉ hh.objs.size :: [z1.heap.objs.size] := fun b u e hb => by
          have lt := Heap.lt_size e
          rcases List.mem_cons.mp hb with y | y
          · rw [y] at lt
            have lt' : (hh.objs.size : Nat) < z1.heap.objs.size := lt
            omega
          · rw [List.mem_singleton.mp y] at lt
            exact Nat.lt_irrefl _ lt
        have J2 := inv_tab (more := more) (h' := z'.heap) (g' := z'.gens) (d' := z'.drawn) (t' := z'.toks) J hP
          (fun b u hb e => mv.heap b u (out b u e) (k5 b u (kp b u hb e)))
          (by rw [← em]; exact mv.heap P _ (out P _ gP) (k5 P _ gq))
          (AllBare.movedS (J.bare.push bare) mv)
        rw [sh_eta z1 z' mv.os] at J2
        exact ⟨upd H1 P (.tbl (ps ++ more)), ⟨⟨ps ++ more, upd_same, by rw [← em]; exact tq⟩, fun b hb => upd_ne hb⟩, J2⟩
  refine ⟨nl2, ?_⟩
  cases hf : codeAmong gp ps.toList with
  | none =>
    refine wpAny_genexprCodeX hco (hd2.code gP2 ht) (hd2.tab gP2) hf fun c' h' tk ex ge lt hc' _ tab' _ => ?_
    obtain ⟨_, _, _, _, _, _, _, _, _, _, _, _, _, _, _, _, _, _, _, tr, _⟩ := hc'
    exact go _ h' tk _ ex (Nat.le_trans ge (Nat.le_of_lt lt)) tab'.2 ⟨_, rfl⟩ tr
  | some cv =>
    refine wpAny_genexprCode_hit hco (hd2.code gP2 ht) hf ?_
    exact go cv (z1.heap.push it) z1.toks ps (Heap.ExtBut.refl _ _) (Nat.le_refl _) gP2 ⟨#[], by simp⟩ ht
theorem pe_allD {c P : Addr} {elt src : Expr} {x : Str} {px p pos gp : Pos} {sco : Scope} {pb : Int → Bool} {te : TE} {k : Nat}
    (hr : Room k X.A) (hg : Gl X "all") (hm : X.mg "all" = none) (hb : bootBuiltins "all" = some (.builtin "all")) (TB : TabB X.base X.mg c P) (hco : X.env.code = .ref c) (S : GenS X.env sco x) (hi : PE X src te) (hel : EltD X.prog X.w X.K X.mg sco x elt pb (X.A.depth + 1))
    (hs : ∀ v, genFold src X.env v = pure v)
    (he : starEach [.GeneratorExp elt [⟨.Name x px, src, [], 0⟩] sco gp] X.env = (false, eval (.GeneratorExp elt [⟨.Name x px, src, [], 0⟩] sco gp) X.env) :: starEach [] X.env := by rfl) :
    PE X (.Call (.Name "all" p) [.GeneratorExp elt [⟨.Name x px, src, [], 0⟩] sco gp] [] pos) (tAllI X.K P pb te) := by
  refine ⟨fun pins z σ H Q I h => ?_⟩
  refine wpAny_Call_Name_kw (ld_blt I hg hm hb (PyProof.Rows.callWith_builtin1 ?_ he (by rfl)))
  rw [he]
  show wpAny _ _ (spliced ((false, eval (.GeneratorExp elt [⟨.Name x px, src, [], 0⟩] sco gp) X.env) :: backTo pos (starEach [] X.env))) _ _ z
  refine Calls.spliced_cons (gen_intsD (R := fun a H1 => ∀ H2, Tabbed P H1 H2 → Q (.bl (a.all pb)) H2) hr TB hco S hi hel hs I h fun a H1 g z5 hR hG => ?_)
  obtain ⟨fp, wr, G, F, St, W, st0, tru, fin⟩ := hG
  refine Calls.spliced_nil (call_all_walkS (W.self 0 _ _ _ st0 ⟨g, fp, wr, G, _, F, St, _, rfl, W, st0, tru, fun z' mv => ?_⟩))
  obtain ⟨H2, tb, J⟩ := fin z' mv
  refine ⟨.bl _, H2, J, rfl, ?_⟩
  rw [all_trI a pb]
  exact hR H2 tb
end

/-! ### a def whose code object is known, a method that may raise in a try, the end with a table -/
structure FunC (K : PySem.W.Frag) (x qual : Str) (st : Stmt) (f : Addr) (fd : FuncData) (c : Addr) : Prop where
  ex : ∃ (oc : Value) (od : Option Addr) (kV doc pm : Value) (an : Option Addr) (ct : Value) (osl : Array (Option Value)),
    fd = PySem.W.fnOf x qual (defArgs st) (defBody st) (defScope st) .none kV doc pm an (.ref c) ct ∧ K.lookup f = some ⟨oc, od, .func fd, osl⟩ ∧ PySem.W.codeIn K (.ref c) qual = true
theorem FunC.ok {P : Program} {w : World} {K : PySem.W.Frag} {mg : Str → Option Value} {base : Heap} {x qual : Str} {st : Stmt} {f c : Addr} {fd : FuncData} {N ps : List Str} {k : Nat} {sp : Sp} (F : FunC K x qual st f fd c) (S : FnScope N ps (defScope st)) (len : ∀ vs H Q E, sp vs H Q E → vs.length = ps.length)
    (body : ∀ (A : Around) (outer : List Env) (s : Shared) (H : Hp) (vs : List V) (Q : VK) (E : XK), Room k (A.deeper (envOfC qual (defScope st) s.heap.objs.size f (.ref c))) → sp vs H Q E →
      ∃ t, PSs (cxOf CX0 P w K mg base N qual (defScope st) f (.ref c) A outer s H E).nox (defBody st) t ∧ t { nx := fun _ H' => Q .non H', rt := Q } (start N vs) H) : FnOk P w K mg base CX0 (k + 1) f fd ps sp := by
  obtain ⟨oc, od, kV, doc, pm, an, ct, osl, rfl, lk, cd⟩ := F.ex
  refine fn_of lk cd S len fun A outer s H vs Q E hr hs => ?_
  obtain ⟨t, h, q⟩ := body A outer s H vs Q E hr hs
  exact ⟨t, h.nox, q⟩
theorem noFree {names : List (Str × NameKind)} {cells : List (Str × Addr)} (h : names.all (fun y => decide (y.2 ≠ .free)) = true) : ∀ y ∈ names, y.2 = .free → ∃ c, cells.lookup y.1 = some c := fun y hy e =>
  absurd e (of_decide_eq_true (List.all_eq_true.mp h y hy))
theorem noCell {names : List (Str × NameKind)} (h : names.all (fun y => decide (y.2 ≠ .cell)) = true) : ∀ y ∈ names, y.2 ≠ .cell := fun y hy => of_decide_eq_true (List.all_eq_true.mp h y hy)
section
variable {X : Cx} {CX : CXT} {k : Nat} {C f : Addr} {fd : FuncData} {ps : List Str} {sp : Sp} {m : Str} {o e : Expr} {es : List Expr} {ta : TE} {t : TA} {E : L2.St → XK} {apos pos : Pos}
def tMethE (C : Addr) (m : Str) (sp : Sp) (E : L2.St → XK) (ta : TE) (t : TA) : TE := fun σ H Q => ta σ H fun x H1 => ∃ a dx fs, x = .ref a ∧ H1 a = some (.ins C dx fs) ∧ fs.lookup m = none ∧ t σ H1 fun vs H2 => sp (.ref a :: vs) H2 Q (E σ)
theorem pe_methE {pl : Sem Bool} (he : PE X o ta) (c : Cls X.K C) (hm : Meth X.K C m f) (F : FnOk X.prog X.w X.K X.mg X.base CX k f fd ps sp) (hr : Room k X.A) (hb : Binds X.K fd ps []) (hx : ∀ σ, PassesAt CX X σ (E σ)) (ha : PA X (e :: es) t)
    (s1 : starEach (e :: es) X.env = (false, eval e X.env) :: starEach es X.env := by rfl) (s2 : (backTo pos (starEach es X.env)).any (·.1) = false := by rfl)
    (ht : eval (.Call (.Attribute o m apos) (e :: es) [] pos) X.env = (do
      let v ← eval o X.env
      standAt apos.atName
      let (g, fst) ← holding [v] (getMethod v m pl)
      callWith pos g fst (backTo pos (starEach (e :: es) X.env)) (backToKw pos (keywordEach [] X.env))) := by rfl) :
    PE X (.Call (.Attribute o m apos) (e :: es) [] pos) (tMethE C m sp E ta t) := by
  refine ⟨fun pins z σ H Q I h => ?_⟩
  refine PySem.W.methodCall_KW (pl := pl) (thn (he.run pins z σ H _ I h) fun u z1 ⟨x, H1, J, rx, a, dx, fs, ex, ea, l, q⟩ => ?_) ht
  subst ex
  obtain rfl : u = Value.ref a := rx
  refine getmeth_ok J ea c hm l ?_
  refine PySem.W.callWith_K (first := [.ref a]) (h₀ := X.base) I.ok.mod.kin hm.kp (thn (ha.run pos pins z1 σ H1 _ J q) fun us z2 ⟨vs, H2, J2, r, q2⟩ => ⟨J2.kIn, ?_⟩) s1 s2
  exact run_fnS (us := .ref a :: us) (vs := .ref a :: vs) F hr hb (hx σ) J2 (.cons rfl r) q2
end
theorem walk_tab {l : PySem.W.OpenLaw} {n k : Nat} {q : Program} {loose : List Str} {XP : (Str → Option Value) → Heap → Prop} {YP : World → Heap → Prop} {d : DefRec} {K : Params → PySem.W.Frag} {CX : World → CXT} {x : Str} (nms : List Str)
    (hn : l.most = some n) (hz : n ≤ sizeLine) (hdf : d.params.defaults = []) (hr : Room k callerA) (hrec : nms.all (fun y => (recsOf q).any fun e => e.name == y) = true) (hY : ∀ (w : World) (h : Heap), YP w h → (K w.params).In h)
    (F : ∀ (w : World) (mg : Str → Option Value) (fa : Addr) (h : Heap), (K w.params).In h → h.Ns mainGlobals mg → mg d.name = some (.ref fa) → (∀ y ∈ nms, ∀ f, mg y = some (.ref f) → LamX.OwnTab (K w.params) f h) → LamX.LawAtS l w (K w.params) (CX w) k n x mg fa h)
    (hCX : ∀ (w : World) (H : Hp) (s : Shared) (e : Value) (s' : Shared), CX w [] H s (fun _ _ _ => False) e s' → False) :
    PySem.W.WalkO q loose XP YP l.row.toRowW d [] (fun f vs => PySem.call f vs) := by
  refine Att.attach_callB hn hdf fun w s0 s1 mg mb fa o pm cd doc a vs ns G Y ho hd hcd hmg hob hin hlen hbits hg => ?_
  have KX := hY w _ Y
  have own : ∀ y ∈ nms, ∀ f, mg y = some (.ref f) → LamX.OwnTab (K w.params) f s1.heap := fun y hy f hf c P o1 fd1 e dd us sl k1 k2 k3 k4 k5 => by
    obtain ⟨dl, hm, he⟩ := List.any_eq_true.mp (List.all_eq_true.mp hrec y hy)
    have en : dl.name = y := beq_iff_eq.mp he
    obtain ⟨a', o', fd', c', P', t1, t2, t3, t4, t5, t6⟩ := G.T.tab dl hm
    rw [en, hf] at t1
    cases t1
    rw [KX _ _ k1] at t2
    cases t2
    rw [k2] at t3
    cases t3
    rw [k3] at t4
    cases t4
    obtain ⟨⟨oc, vc, u1, _, u3, u4⟩, hP⟩ := t6
    rw [KX _ _ k4] at u1
    cases u1
    cases u3
    rw [k5] at u4
    cases u4
    exact hP
  obtain ⟨fd, cs, sp, hT, nT, C, hb, hsp, hF⟩ := F w mg fa _ KX G.T.g hmg own
  exact LamX.law_callTs KX G.T.g G.T.b G.T.builtins G.T.nolimit hg hT nT C G.T.bmain hob hin (Nat.le_trans hlen hz) hr hF hb (fun H hH hS => hsp H a ns hlen hbits hH hS) fun H e s' => hCX w H s1 e s'
theorem codeHd_mk {K : PySem.W.Frag} {h : Heap} {c P : Addr} {dd : Option Addr} {vs : Array Value} {sl : Array (Option Value)} {fl : Str} {tf tg tt : Tok} {fg tx : Int} {b : Bool} (X : K.In h) (l : K.lookup c = some ⟨.type "code", dd, .fields vs, sl⟩) (h11 : vs[11]? = some (.ref P)) (h18 : vs.getD 18 .none = .str fl tf)
    (h7 : vs.getD 7 .none = .int fg tg) (h9 : vs.getD 9 .none = .bool b) (h10 : vs.getD 10 .none = .int tx tt) (ne : c ≠ P) : PySem.W.CodeHd h c P :=
  ⟨_, vs, fl, tf, fg, tg, b, tx, tt, X _ _ l, rfl, rfl, h11, by rw [Array.getD_eq_getD_getElem?, h11]; rfl, h18, h7, h9, h10, ne⟩

theorem FunC.okX {P : Program} {w : World} {K : PySem.W.Frag} {mg : Str → Option Value} {base : Heap} {x qual : Str} {st : Stmt} {f c : Addr} {fd : FuncData} {N ps : List Str} {k : Nat} {sp : Sp} (F : FunC K x qual st f fd c) (S : FnScope N ps (defScope st)) (len : ∀ vs H Q E, sp vs H Q E → vs.length = ps.length)
    (body : ∀ (A : Around) (outer : List Env) (s : Shared) (H : Hp) (vs : List V) (Q : VK) (E : XK), Room k (A.deeper (envOfC qual (defScope st) s.heap.objs.size f (.ref c))) → sp vs H Q E →
      ∃ t, PSs (cxOf (L2.CX P w) P w K mg base N qual (defScope st) f (.ref c) A outer s H E) (defBody st) t ∧ t { nx := fun _ H' => Q .non H', rt := Q } (start N vs) H) : FnOk P w K mg base (L2.CX P w) (k + 1) f fd ps sp := by
  obtain ⟨oc, od, kV, doc, pm, an, ct, osl, rfl, lk, cd⟩ := F.ex
  exact fn_of lk cd S len fun A outer s H vs Q E hr hs => body A outer s H vs Q E hr hs

def top (i : Nat) : Stmt := PySem.Challenge.pw_mastword_k01_signs_known.main.body.getD i (.Pass ⟨0, 0, 0, 0⟩)
abbrev s_p_is_sign : Stmt := top 9
theorem sc_p_is_sign : FnScope ["number"] ["number"] (defScope s_p_is_sign) := ⟨rfl, rfl, rfl, by decide +kernel, rfl, by decide +kernel, by decide +kernel⟩
abbrev s_p_check_signs : Stmt := top 10
theorem sc_p_check_signs : FnScope ["numbers", "number"] ["numbers"] (defScope s_p_check_signs) := ⟨rfl, rfl, rfl, by decide +kernel, rfl, by decide +kernel, by decide +kernel⟩
abbrev s_p_kind_of : Stmt := top 11
theorem sc_p_kind_of : FnScope ["sign"] ["sign"] (defScope s_p_kind_of) := ⟨rfl, rfl, rfl, by decide +kernel, rfl, by decide +kernel, by decide +kernel⟩
abbrev s_l_cell : Stmt := top 13
theorem sc_l_cell : FnScope ["_law_script", "_law_at"] ["_law_script", "_law_at"] (defScope s_l_cell) := ⟨rfl, rfl, rfl, by decide +kernel, rfl, by decide +kernel, by decide +kernel⟩
abbrev s_l_like : Stmt := top 14
theorem sc_l_like : FnScope ["_law_found", "_law_due_here", "_law_k"] ["_law_found", "_law_due_here"] (defScope s_l_like) := ⟨rfl, rfl, rfl, by decide +kernel, rfl, by decide +kernel, by decide +kernel⟩
abbrev s_l_due : Stmt := top 15
theorem sc_l_due : FnScope ["_law_number", "_law_edges", "_law_name", "_law_last"] ["_law_number"] (defScope s_l_due) := ⟨rfl, rfl, rfl, by decide +kernel, rfl, by decide +kernel, by decide +kernel⟩
abbrev s_l_kind_told : Stmt := top 16
theorem sc_l_kind_told : FnScope ["_law_number", "_law_told", "e"] ["_law_number"] (defScope s_l_kind_told) := ⟨rfl, rfl, rfl, by decide +kernel, rfl, by decide +kernel, by decide +kernel⟩
abbrev s_law : Stmt := top 17
theorem sc_law : FnScope ["_law_script", "_law_pick", "_law_edges", "_law_far", "_law_number"] ["_law_script"] (defScope s_law) := ⟨rfl, rfl, rfl, by decide +kernel, rfl, by decide +kernel, by decide +kernel⟩
structure Txt (K : PySem.W.Frag) (mg : Str → Option Value) where
  a_MastError : Addr
  a_BadSign : Addr
  g_MastError : mg "MastError" = some (.ref a_MastError)
  x_MastError : PySem.W.excIn K a_MastError [.type "ValueError", .type "Exception", .type "BaseException", .type "object"] "ValueError.__new__" = true
  k_MastError : PySem.W.keepIn K (.ref a_MastError) = true
  b_MastError : PySem.W.subIn K (.ref a_MastError) (.type "BaseException") = some true
  t_MastError : PySem.W.typeIn K (.ref a_MastError) = some (.type "type")
  i_MastError : PySem.W.isClsIn K a_MastError = true
  h_MastError : PySem.W.hasDictIn K a_MastError = true
  ga_MastError : PySem.W.findIn K (.ref a_MastError) "__getattribute__" = some (some (.builtin "BaseException.__getattribute__"))
  gg_MastError : PySem.W.findIn K (.ref a_MastError) "__getattr__" = some none
  cl_MastError : PySem.W.findIn K (.ref a_MastError) "__class__" = some (some (.builtin "object.__class__"))
  mo_MastError : PySem.W.mroIn K a_MastError (.type "object") = some true
  v_MastError : PySem.W.subIn K (.ref a_MastError) (.type "ValueError") = some true
  s_MastError_MastError : PySem.W.subIn K (.ref a_MastError) (.ref a_MastError) = some true
  g_BadSign : mg "BadSign" = some (.ref a_BadSign)
  x_BadSign : PySem.W.excIn K a_BadSign [.type "ValueError", .type "Exception", .type "BaseException", .type "object"] "ValueError.__new__" = true
  k_BadSign : PySem.W.keepIn K (.ref a_BadSign) = true
  b_BadSign : PySem.W.subIn K (.ref a_BadSign) (.type "BaseException") = some true
  t_BadSign : PySem.W.typeIn K (.ref a_BadSign) = some (.type "type")
  i_BadSign : PySem.W.isClsIn K a_BadSign = true
  h_BadSign : PySem.W.hasDictIn K a_BadSign = true
  ga_BadSign : PySem.W.findIn K (.ref a_BadSign) "__getattribute__" = some (some (.builtin "BaseException.__getattribute__"))
  gg_BadSign : PySem.W.findIn K (.ref a_BadSign) "__getattr__" = some none
  cl_BadSign : PySem.W.findIn K (.ref a_BadSign) "__class__" = some (some (.builtin "object.__class__"))
  mo_BadSign : PySem.W.mroIn K a_BadSign (.type "object") = some true
  v_BadSign : PySem.W.subIn K (.ref a_BadSign) (.type "ValueError") = some true
  s_BadSign_MastError : PySem.W.subIn K (.ref a_BadSign) (.ref a_MastError) = some true
  s_BadSign_BadSign : PySem.W.subIn K (.ref a_BadSign) (.ref a_BadSign) = some true
  f_p_is_sign : Addr
  d_p_is_sign : FuncData
  F_p_is_sign : Fun K "is_sign" "is_sign" s_p_is_sign f_p_is_sign d_p_is_sign
  b_p_is_sign : Binds K d_p_is_sign ["number"] []
  g_p_is_sign : mg "is_sign" = some (.ref f_p_is_sign)
  f_p_check_signs : Addr
  d_p_check_signs : FuncData
  c_tab : Addr
  P_tab : Addr
  W_p_check_signs : FunC K "check_signs" "check_signs" s_p_check_signs f_p_check_signs d_p_check_signs c_tab
  F_p_check_signs : Fun K "check_signs" "check_signs" s_p_check_signs f_p_check_signs d_p_check_signs
  b_p_check_signs : Binds K d_p_check_signs ["numbers"] []
  g_p_check_signs : mg "check_signs" = some (.ref f_p_check_signs)
  f_p_kind_of : Addr
  d_p_kind_of : FuncData
  F_p_kind_of : Fun K "kind_of" "kind_of" s_p_kind_of f_p_kind_of d_p_kind_of
  b_p_kind_of : Binds K d_p_kind_of ["sign"] []
  g_p_kind_of : mg "kind_of" = some (.ref f_p_kind_of)
  f_l_cell : Addr
  d_l_cell : FuncData
  F_l_cell : Fun K "_law_cell" "_law_cell" s_l_cell f_l_cell d_l_cell
  b_l_cell : Binds K d_l_cell ["_law_script", "_law_at"] []
  g_l_cell : mg "_law_cell" = some (.ref f_l_cell)
  f_l_like : Addr
  d_l_like : FuncData
  F_l_like : Fun K "_law_like" "_law_like" s_l_like f_l_like d_l_like
  b_l_like : Binds K d_l_like ["_law_found", "_law_due_here"] []
  g_l_like : mg "_law_like" = some (.ref f_l_like)
  f_l_due : Addr
  d_l_due : FuncData
  F_l_due : Fun K "_law_due" "_law_due" s_l_due f_l_due d_l_due
  b_l_due : Binds K d_l_due ["_law_number"] []
  g_l_due : mg "_law_due" = some (.ref f_l_due)
  f_l_kind_told : Addr
  d_l_kind_told : FuncData
  F_l_kind_told : Fun K "_law_kind_told" "_law_kind_told" s_l_kind_told f_l_kind_told d_l_kind_told
  b_l_kind_told : Binds K d_l_kind_told ["_law_number"] []
  g_l_kind_told : mg "_law_kind_told" = some (.ref f_l_kind_told)
  u_LAST_PAGE : Value
  c_LAST_PAGE : mg "LAST_PAGE" = some u_LAST_PAGE
  r_LAST_PAGE : RelV (.int 40) u_LAST_PAGE
  u_LAST_LETTER : Value
  c_LAST_LETTER : mg "LAST_LETTER" = some u_LAST_LETTER
  r_LAST_LETTER : RelV (.int 66) u_LAST_LETTER
  u_END : Value
  c_END : mg "END" = some u_END
  r_END : RelV (.int 67) u_END
  u_STRIKE : Value
  c_STRIKE : mg "STRIKE" = some u_STRIKE
  r_STRIKE : RelV (.int 68) u_STRIKE
  u_LAST_SIGN : Value
  c_LAST_SIGN : mg "LAST_SIGN" = some u_LAST_SIGN
  r_LAST_SIGN : RelV (.int 94) u_LAST_SIGN
  m_all : mg "all" = none
  m_len : mg "len" = none
  m_isinstance : mg "isinstance" = none
  m_bool : mg "bool" = none
  m_int : mg "int" = none
  m_str : mg "str" = none
  m_list : mg "list" = none
  m_tuple : mg "tuple" = none
  m_range : mg "range" = none
  m_ValueError : mg "ValueError" = none
  oc_get : PySem.W.specialIn K (.builtin "object.__class__") "__get__" = some (some (.builtin "getset_descriptor.__get__"))
  oc_tak : PySem.W.takesIn K (.builtin "object.__class__") = some true
section
variable {P : Program} {w : World} {K : PySem.W.Frag} {mg : Str → Option Value} {base : Heap}
/-! ### _law_cell: an int of the script -/
def cellV (ns : List Int) (j : Nat) : Int :=
  if j < ns.length then ns.getD j 0 else if ns.length = 0 then 29 * (j : Int) + 5 else ns.getD (j % ns.length) 0 % 1000003 + 103 * (j : Int)
def sp_l_cell (K : PySem.W.Frag) : Sp := fun vs H Q _ => ∃ (l : Addr) (ns : List Int) (j : Nat), vs = [.ref l, .int j] ∧ SqL K H l (ns.map V.int) ∧ j ≤ 100000 ∧ Q (.int (cellV ns j)) H
theorem getD_at {ns : List Int} {j : Nat} (h : j < ns.length) : atI (ns.map V.int) (j : Int) = some (.int (ns.getD j 0)) := by
  rw [at_int h, List.getD_eq_getElem?_getD, List.getElem?_eq_getElem h]
  rfl
theorem ok_l_cell (T : Txt K mg) : FnOk P w K mg base CX0 1 T.f_l_cell T.d_l_cell ["_law_script", "_law_at"] (sp_l_cell K) := by
  refine T.F_l_cell.ok sc_l_cell (fun vs H Q E h => ?_) (fun cdv A outer s H vs Q E hr h => ?_)
  · obtain ⟨l, ns, j, rfl, _⟩ := h
    rfl
  · obtain ⟨l, ns, j, rfl, hS, hj, k⟩ := h
    have hlen : ((ns.map V.int).length : Int) = (ns.length : Int) := by rw [List.length_map]
    refine ⟨_, (pss_cons (ps_if (pt_cmpR op_lt (pv 1) (pe_callB call_len_seq (by rfl) T.m_len PySem.boot_len (pa_cons (pv 0) pa_nil)) (nomark _))
      (pss_one (ps_ret (pe_ix ix_list (pv 0) (pv 1) (fun _ _ => rfl))))
      pss_nil)
      (pss_cons (ps_if (pt_cmpR op_eq (pe_callB call_len_seq (by rfl) T.m_len PySem.boot_len (pa_cons (pv 0) pa_nil)) pe_int (nomark _))
      (pss_one (ps_ret (pe_op op_add (pe_op op_mul pe_int (pv 1)) pe_int)))
      pss_nil)
      (pss_one (ps_ret (pe_op op_add (pe_op op_mod (pe_ix ix_list (pv 0) (pe_op op_mod (pv 1) (pe_callB call_len_seq (by rfl) T.m_len PySem.boot_len (pa_cons (pv 0) pa_nil))) (fun _ _ => rfl)) pe_int) (pe_op op_mul pe_int (pv 1))))))), ?_⟩
    refine ⟨_, rfl, _, rfl, l, _, rfl, .inl hS, _, _, rfl, rfl, _, rfl, iteD (fun c => ?_) (fun c => ?_)⟩
    · rw [hlen] at c
      refine ⟨_, rfl, _, rfl, l, _, _, _, rfl, rfl, hS, getD_at (show j < ns.length by omega), ?_⟩
      have e : cellV ns j = ns.getD j 0 := if_pos (by omega)
      rw [e] at k
      exact k
    · rw [hlen] at c
      refine ⟨_, rfl, l, _, rfl, .inl hS, rfl, _, rfl, iteD (fun c2 => ?_) (fun c2 => ?_)⟩
      · have c3 : (ns.length : Int) = 0 := by
          have z := V.int.inj c2
          rw [hlen] at z
          exact z
        have e : cellV ns j = 29 * (j : Int) + 5 := by
          unfold cellV
          rw [if_neg (by omega), if_pos (by omega)]
        rw [e] at k
        exact ⟨_, rfl, _, _, rfl, rfl, .inl ⟨by decide, by decide⟩, _, _, rfl, rfl, k⟩
      · have c3 : ns.length ≠ 0 := fun z => c2 (by rw [hlen, z]; rfl)
        have hm : j % ns.length < ns.length := Nat.mod_lt _ (by omega)
        have e : cellV ns j = ns.getD (j % ns.length) 0 % 1000003 + 103 * (j : Int) := by
          unfold cellV
          rw [if_neg (by omega), if_neg c3]
        rw [e] at k
        have ea : atI (ns.map V.int) ((j : Int) % ((ns.map V.int).length : Int)) = some (.int (ns.getD (j % ns.length) 0)) := by
          rw [hlen, ← Int.natCast_emod]
          exact getD_at hm
        exact ⟨_, rfl, _, rfl, _, rfl, l, _, rfl, .inl hS, _, _, rfl, rfl, (by show (0 : Int) < ((ns.map V.int).length : Int); rw [hlen]; omega), l, _, _, _, rfl, rfl, hS, ea, _, _, rfl, rfl, (by show (0 : Int) < 1000003; decide), _, rfl, _, _, rfl, rfl, .inl ⟨by decide, by decide⟩, _, _, rfl, rfl, k⟩
/-! ### _law_like of one datum with itself -/
inductive Dn : Nat → PyData → Prop
  | non (n : Nat) : Dn (n + 1) .none
  | bl (n : Nat) (b : Bool) : Dn (n + 1) (.bool b)
  | int (n : Nat) (i : Int) : Dn (n + 1) (.int i)
  | str (n : Nat) (x : Str) : Dn (n + 1) (.str x)
  | lst {n : Nat} {ds : List PyData} : (∀ d ∈ ds, Dn n d) → ds.length ≤ 10000 → Dn (n + 1) (.list ds)
  | tup {n : Nat} {ds : List PyData} : (∀ d ∈ ds, Dn n d) → ds.length ≤ 10000 → Dn (n + 1) (.tuple ds)
def tyN : PyData → String
  | .none => "NoneType" | .bool _ => "bool" | .int _ => "int" | .str _ => "str" | .list _ => "list" | .tuple _ => "tuple" | .dict _ => "dict"
theorem ty_of {K : PySem.W.Frag} {H : Hp} {v : V} {d : PyData} (h : Dp K H v d) : TyX K H v (.type (tyN d)) := by
  cases h with
  | non => exact .base .non
  | bl b => exact .base (.bl b)
  | int i => exact .base (.int i)
  | str x => exact .base (.str x)
  | lst h _ =>
    rcases h with (h | ⟨o, h⟩) | ⟨o, its, n, e, c, _⟩
    · exact .base (.lst h)
    · exact .base (.frz h)
    · exact .kList e c
  | tup h _ =>
    rcases h with (h | ⟨o, h⟩) | ⟨o, its, n, e, c, _⟩
    · exact .base (.tup h)
    · exact .fTuple h
    · exact .kTuple e c
def sp_l_like (K : PySem.W.Frag) (n : Nat) : Sp := fun vs H Q _ => ∃ (u v : V) (d : PyData), vs = [u, v] ∧ Dp K H u d ∧ Dp K H v d ∧ Dn n d ∧ ∀ H', Kp H H' → Q (.bl true) H'
theorem fn_none {P : Program} {w : World} {K : PySem.W.Frag} {mg : Str → Option Value} {base : Heap} {f : Addr} {fd : FuncData} {ps : List Str} {sp : Sp} {k : Nat} (h : ∀ vs H Q E, ¬ sp vs H Q E) : FnOk P w K mg base CX0 k f fd ps sp :=
  ⟨fun vs H Q E q => (h vs H Q E q).elim, fun _ _ _ H _ _ vs Q E _ _ _ _ q => (h vs H Q E q).elim⟩
theorem bl_all {n : Nat} : ((List.replicate n true).map V.bl) = List.replicate n (V.bl true) := List.map_replicate
theorem all_rep (n : Nat) : (List.replicate n true).all id = true := by
  rw [List.all_eq_true]
  intro x hx
  rw [List.eq_of_mem_replicate hx]
  rfl
theorem k_bb : kitB "bool" "bool" = some true := by decide +kernel
theorem k_bi : kitB "bool" "int" = some true := by decide +kernel
theorem k_bs : kitB "bool" "str" = some false := by decide +kernel
theorem k_bl : kitB "bool" "list" = some false := by decide +kernel
theorem k_bt : kitB "bool" "tuple" = some false := by decide +kernel
theorem k_ib : kitB "int" "bool" = some false := by decide +kernel
theorem k_ii : kitB "int" "int" = some true := by decide +kernel
theorem k_is : kitB "int" "str" = some false := by decide +kernel
theorem k_il : kitB "int" "list" = some false := by decide +kernel
theorem k_it : kitB "int" "tuple" = some false := by decide +kernel
theorem k_sb : kitB "str" "bool" = some false := by decide +kernel
theorem k_si : kitB "str" "int" = some false := by decide +kernel
theorem k_ss : kitB "str" "str" = some true := by decide +kernel
theorem k_sl : kitB "str" "list" = some false := by decide +kernel
theorem k_st : kitB "str" "tuple" = some false := by decide +kernel
theorem k_lb : kitB "list" "bool" = some false := by decide +kernel
theorem k_li : kitB "list" "int" = some false := by decide +kernel
theorem k_ls : kitB "list" "str" = some false := by decide +kernel
theorem k_ll : kitB "list" "list" = some true := by decide +kernel
theorem k_lt : kitB "list" "tuple" = some false := by decide +kernel
theorem k_tb : kitB "tuple" "bool" = some false := by decide +kernel
theorem k_ti : kitB "tuple" "int" = some false := by decide +kernel
theorem k_ts : kitB "tuple" "str" = some false := by decide +kernel
theorem k_tl : kitB "tuple" "list" = some false := by decide +kernel
theorem k_tt : kitB "tuple" "tuple" = some true := by decide +kernel
theorem dec_self {x : V} : decide (x = x) = true := decide_eq_true rfl
theorem ok_l_like (T : Txt K mg) : ∀ n : Nat, FnOk P w K mg base CX0 n T.f_l_like T.d_l_like ["_law_found", "_law_due_here"] (sp_l_like K n)
  | 0 => fn_none fun vs H Q E ⟨u, v, d, _, _, _, h, _⟩ => nomatch h
  | n + 1 => by
    have IH := ok_l_like T n
    refine T.F_l_like.ok sc_l_like (fun vs H Q E h => ?_) (fun cdv A outer s H vs Q E hr h => ?_)
    · obtain ⟨u, v, d, rfl, _⟩ := h
      rfl
    · obtain ⟨u, v, d, rfl, hu, hv, hn, k⟩ := h
      have tu := ty_of hu
      have tv := ty_of hv
      refine ⟨_, (pss_cons (ps_if (pt_cmpR op_isN (pv 1) pe_non (nomark _))
      (pss_one (ps_ret (pe_cmpR op_isN (pv 0) pe_non (nomark _))))
      pss_nil)
      (pss_cons (ps_if (pt_val (pe_callB call_isi (by rfl) T.m_isinstance (by decide +kernel) (pa_cons (pv 1) (pa_cons (pe_bltn (v := .ty "bool") (by rfl) T.m_bool (by decide +kernel) rfl) pa_nil))))
      (pss_one (ps_ret (pe_and (pe_callB call_isi (by rfl) T.m_isinstance (by decide +kernel) (pa_cons (pv 0) (pa_cons (pe_bltn (v := .ty "bool") (by rfl) T.m_bool (by decide +kernel) rfl) pa_nil))) (pe_one (pe_cmpR op_eq (pv 0) (pv 1) (nomark _))))))
      pss_nil)
      (pss_cons (ps_if (pt_val (pe_callB call_isi (by rfl) T.m_isinstance (by decide +kernel) (pa_cons (pv 1) (pa_cons (pe_bltn (v := .ty "int") (by rfl) T.m_int (by decide +kernel) rfl) pa_nil))))
      (pss_one (ps_ret (pe_and (pe_callB call_isi (by rfl) T.m_isinstance (by decide +kernel) (pa_cons (pv 0) (pa_cons (pe_bltn (v := .ty "int") (by rfl) T.m_int (by decide +kernel) rfl) pa_nil))) (pe_and (pe_not (pe_callB call_isi (by rfl) T.m_isinstance (by decide +kernel) (pa_cons (pv 0) (pa_cons (pe_bltn (v := .ty "bool") (by rfl) T.m_bool (by decide +kernel) rfl) pa_nil)))) (pe_one (pe_cmpR op_eq (pv 0) (pv 1) (nomark _)))))))
      pss_nil)
      (pss_cons (ps_if (pt_val (pe_callB call_isi (by rfl) T.m_isinstance (by decide +kernel) (pa_cons (pv 1) (pa_cons (pe_bltn (v := .ty "str") (by rfl) T.m_str (by decide +kernel) rfl) pa_nil))))
      (pss_one (ps_ret (pe_and (pe_callB call_isi (by rfl) T.m_isinstance (by decide +kernel) (pa_cons (pv 0) (pa_cons (pe_bltn (v := .ty "str") (by rfl) T.m_str (by decide +kernel) rfl) pa_nil))) (pe_one (pe_cmpR op_eq (pv 0) (pv 1) (nomark _))))))
      pss_nil)
      (pss_cons (ps_if (PW.pt (pw_or (pt_cmpR op_ne (pe_callB call_isi (by rfl) T.m_isinstance (by decide +kernel) (pa_cons (pv 1) (pa_cons (pe_bltn (v := .ty "list") (by rfl) T.m_list (by decide +kernel) rfl) pa_nil))) (pe_callB call_isi (by rfl) T.m_isinstance (by decide +kernel) (pa_cons (pv 0) (pa_cons (pe_bltn (v := .ty "list") (by rfl) T.m_list (by decide +kernel) rfl) pa_nil))) (nomark _)) (pw_or1 (pt_cmpR op_ne (pe_callB call_isi (by rfl) T.m_isinstance (by decide +kernel) (pa_cons (pv 1) (pa_cons (pe_bltn (v := .ty "tuple") (by rfl) T.m_tuple (by decide +kernel) rfl) pa_nil))) (pe_callB call_isi (by rfl) T.m_isinstance (by decide +kernel) (pa_cons (pv 0) (pa_cons (pe_bltn (v := .ty "tuple") (by rfl) T.m_tuple (by decide +kernel) rfl) pa_nil))) (nomark _)))))
      (pss_one (ps_ret pe_bl))
      pss_nil)
      (pss_one (ps_ret (pe_and (pe_cmpR op_eq (pe_callB call_len (by rfl) T.m_len PySem.boot_len (pa_cons (pv 0) pa_nil)) (pe_callB call_len (by rfl) T.m_len PySem.boot_len (pa_cons (pv 1) pa_nil)) (nomark _)) (pe_one (pe_callB (cr_all rfl) (by rfl) T.m_all (by decide +kernel) (pa_cons (pe_lc (own := [("_law_k", 2)]) (g := gName 2) (tt := tYes) (by rfl) sc_l_like.nd (pi_range1 (by rfl) T.m_range (pa_cons (pe_callB call_len (by rfl) T.m_len PySem.boot_len (pa_cons (pv 1) pa_nil)) pa_nil)) (blkOk_by (own := [("_law_k", 2)]) (N := ["_law_found", "_law_due_here", "_law_k"]) (sc := defScope s_l_like) (by decide +kernel)) (fun _ _ _ _ _ => (pg_name (i := 2) sc_l_like.nd rfl (by first | exact Or.inl rfl | exact Or.inr rfl))) (fun _ _ _ _ _ => pts_nil) (fun _ _ _ _ _ => (pe_call IH hr rfl T.g_l_like T.F_l_like.kp T.b_l_like .nil pass0 (pa_cons (pe_ix (ix_seqK K rfl) (pv 0) (pv 2) (fun _ _ => rfl)) (pa_cons (pe_ix (ix_seqK K rfl) (pv 1) (pv 2) (fun _ _ => rfl)) pa_nil))))) pa_nil))))))))))), ?_⟩
      cases hn with
      | non n =>
        cases hu
        cases hv
        refine ⟨_, rfl, rfl, _, rfl, iteTo dec_self ?_⟩
        exact ⟨_, rfl, rfl, k _ (.refl _)⟩
      | bl n b =>
        cases hu
        cases hv
        refine ⟨_, rfl, rfl, _, rfl, iteFo rfl ?_⟩
        refine ⟨_, rfl, _, _, _, _, true, rfl, .ty _, tv, kit_ty k_bb, _, rfl, iteTo rfl ?_⟩
        refine ⟨_, rfl, _, _, _, _, true, rfl, .ty _, tu, kit_ty k_bb, _, rfl, iteTo rfl ?_⟩
        refine ⟨_, rfl, _, rfl, rfl, ?_⟩
        rw [dec_self]
        exact k _ (.refl _)
      | int n i =>
        cases hu
        cases hv
        refine ⟨_, rfl, rfl, _, rfl, iteFo rfl ?_⟩
        refine ⟨_, rfl, _, _, _, _, false, rfl, .ty _, tv, kit_ty k_ib, _, rfl, iteFo rfl ?_⟩
        refine ⟨_, rfl, _, _, _, _, true, rfl, .ty _, tv, kit_ty k_ii, _, rfl, iteTo rfl ?_⟩
        refine ⟨_, rfl, _, _, _, _, true, rfl, .ty _, tu, kit_ty k_ii, _, rfl, iteTo rfl ?_⟩
        refine ⟨_, rfl, _, _, _, _, false, rfl, .ty _, tu, kit_ty k_ib, _, rfl, _, rfl, iteTo rfl ?_⟩
        refine ⟨_, rfl, _, rfl, rfl, ?_⟩
        rw [dec_self]
        exact k _ (.refl _)
      | str n x =>
        cases hu
        cases hv
        refine ⟨_, rfl, rfl, _, rfl, iteFo rfl ?_⟩
        refine ⟨_, rfl, _, _, _, _, false, rfl, .ty _, tv, kit_ty k_sb, _, rfl, iteFo rfl ?_⟩
        refine ⟨_, rfl, _, _, _, _, false, rfl, .ty _, tv, kit_ty k_si, _, rfl, iteFo rfl ?_⟩
        refine ⟨_, rfl, _, _, _, _, true, rfl, .ty _, tv, kit_ty k_ss, _, rfl, iteTo rfl ?_⟩
        refine ⟨_, rfl, _, _, _, _, true, rfl, .ty _, tu, kit_ty k_ss, _, rfl, iteTo rfl ?_⟩
        refine ⟨_, rfl, _, rfl, rfl, ?_⟩
        rw [dec_self]
        exact k _ (.refl _)
      | lst hd hl =>
        rename_i ds
        cases hu with | lst hsu hau =>
        cases hv with | lst hsv hav =>
        rename_i a xs b ys
        have lx := DpAll.len hau
        have ly := DpAll.len hav
        refine ⟨_, rfl, rfl, _, rfl, iteFo rfl ?_⟩
        refine ⟨_, rfl, _, _, _, _, false, rfl, .ty _, tv, kit_ty k_lb, _, rfl, iteFo rfl ?_⟩
        refine ⟨_, rfl, _, _, _, _, false, rfl, .ty _, tv, kit_ty k_li, _, rfl, iteFo rfl ?_⟩
        refine ⟨_, rfl, _, _, _, _, false, rfl, .ty _, tv, kit_ty k_ls, _, rfl, iteFo rfl ?_⟩
        refine ⟨_, rfl, _, _, _, _, true, rfl, .ty _, tv, kit_ty k_ll, _, rfl, _, _, _, _, true, rfl, .ty _, tu, kit_ty k_ll, rfl, _, rfl, iteFo rfl ?_⟩
        refine ⟨_, rfl, _, _, _, _, false, rfl, .ty _, tv, kit_ty k_lt, _, rfl, _, _, _, _, false, rfl, .ty _, tu, kit_ty k_lt, rfl, _, rfl, iteFo rfl ?_⟩
        refine ⟨_, rfl, _, _, rfl, .inl ⟨_, hsu, rfl⟩, _, rfl, _, _, rfl, .inl ⟨_, hsv, rfl⟩, rfl, _, rfl, iteTo (decide_eq_true (congrArg (fun z : Nat => V.int (z : Int)) (lx.trans ly.symm))) ?_⟩
        refine ⟨_, rfl, _, _, rfl, .inl ⟨_, hsv, rfl⟩, _, rfl, by omega, by omega, fun D hD => ?_⟩
        rw [Int.toNat_natCast]
        refine lc_range (lo := 0) (n := ys.length) (fun i H' => Kp H H' ∧ H' D = some (.lst (List.replicate i (V.bl true)))) ⟨Kp.new hD, upd_same⟩ (fun i H' hi ⟨kp, hDl⟩ => ?_) (fun H' ⟨kp, hDl⟩ => ?_)
        · have e0 : (0 : Int) + (i : Int) = (i : Int) := Int.zero_add _
          obtain ⟨d, hdi⟩ : ∃ d, ds[i]? = some d := ⟨_, List.getElem?_eq_getElem (by omega)⟩
          obtain ⟨x, hx, dx⟩ := DpAll.get hau hdi
          obtain ⟨y, hy, dy⟩ := DpAll.get hav hdi
          refine ⟨rfl, ?_⟩
          refine ⟨_, rfl, _, rfl, .inl ⟨_, _, _, x, rfl, rfl, kp.sqL hsu, by rw [e0]; exact atI_nat hx, _, rfl, _, rfl, .inl ⟨_, _, _, y, rfl, rfl, kp.sqL hsv, by rw [e0]; exact atI_nat hy, ?_⟩⟩⟩
          refine ⟨x, y, d, rfl, kp.dp dx, kp.dp dy, hd d (List.mem_of_getElem? hdi), fun H2 k2 => ⟨_, k2.same _ _ rfl hDl, szt (by rw [List.length_replicate]; omega), ?_⟩⟩
          exact ⟨(kp.trans k2).mut hD, by rw [upd_same, List.replicate_succ']⟩
        · refine ⟨D, List.replicate ys.length true, rfl, .inl (.inl (by rw [bl_all]; exact hDl)), ?_⟩
          rw [all_rep]
          exact k _ kp
      | tup hd hl =>
        rename_i ds
        cases hu with | tup hsu hau =>
        cases hv with | tup hsv hav =>
        rename_i a xs b ys
        have lx := DpAll.len hau
        have ly := DpAll.len hav
        refine ⟨_, rfl, rfl, _, rfl, iteFo rfl ?_⟩
        refine ⟨_, rfl, _, _, _, _, false, rfl, .ty _, tv, kit_ty k_tb, _, rfl, iteFo rfl ?_⟩
        refine ⟨_, rfl, _, _, _, _, false, rfl, .ty _, tv, kit_ty k_ti, _, rfl, iteFo rfl ?_⟩
        refine ⟨_, rfl, _, _, _, _, false, rfl, .ty _, tv, kit_ty k_ts, _, rfl, iteFo rfl ?_⟩
        refine ⟨_, rfl, _, _, _, _, false, rfl, .ty _, tv, kit_ty k_tl, _, rfl, _, _, _, _, false, rfl, .ty _, tu, kit_ty k_tl, rfl, _, rfl, iteFo rfl ?_⟩
        refine ⟨_, rfl, _, _, _, _, true, rfl, .ty _, tv, kit_ty k_tt, _, rfl, _, _, _, _, true, rfl, .ty _, tu, kit_ty k_tt, rfl, _, rfl, iteFo rfl ?_⟩
        refine ⟨_, rfl, _, _, rfl, .inr ⟨_, hsu, rfl⟩, _, rfl, _, _, rfl, .inr ⟨_, hsv, rfl⟩, rfl, _, rfl, iteTo (decide_eq_true (congrArg (fun z : Nat => V.int (z : Int)) (lx.trans ly.symm))) ?_⟩
        refine ⟨_, rfl, _, _, rfl, .inr ⟨_, hsv, rfl⟩, _, rfl, by omega, by omega, fun D hD => ?_⟩
        rw [Int.toNat_natCast]
        refine lc_range (lo := 0) (n := ys.length) (fun i H' => Kp H H' ∧ H' D = some (.lst (List.replicate i (V.bl true)))) ⟨Kp.new hD, upd_same⟩ (fun i H' hi ⟨kp, hDl⟩ => ?_) (fun H' ⟨kp, hDl⟩ => ?_)
        · have e0 : (0 : Int) + (i : Int) = (i : Int) := Int.zero_add _
          obtain ⟨d, hdi⟩ : ∃ d, ds[i]? = some d := ⟨_, List.getElem?_eq_getElem (by omega)⟩
          obtain ⟨x, hx, dx⟩ := DpAll.get hau hdi
          obtain ⟨y, hy, dy⟩ := DpAll.get hav hdi
          refine ⟨rfl, ?_⟩
          refine ⟨_, rfl, _, rfl, .inr (.inl ⟨_, _, _, x, rfl, rfl, kp.sqT hsu, by rw [e0]; exact atI_nat hx, _, rfl, _, rfl, .inr (.inl ⟨_, _, _, y, rfl, rfl, kp.sqT hsv, by rw [e0]; exact atI_nat hy, ?_⟩)⟩)⟩
          refine ⟨x, y, d, rfl, kp.dp dx, kp.dp dy, hd d (List.mem_of_getElem? hdi), fun H2 k2 => ⟨_, k2.same _ _ rfl hDl, szt (by rw [List.length_replicate]; omega), ?_⟩⟩
          exact ⟨(kp.trans k2).mut hD, by rw [upd_same, List.replicate_succ']⟩
        · refine ⟨D, List.replicate ys.length true, rfl, .inl (.inl (by rw [bl_all]; exact hDl)), ?_⟩
          rw [all_rep]
          exact k _ kp
/-! ### is_sign and kind_of -/
def kindV (n : Int) : Str := if n ≤ 40 then "page" else if n ≤ 66 then "letter" else if n = 67 then "end" else if n = 68 then "strike" else "spare"
def isSg (n : Int) : Bool := decide (1 ≤ n) && decide (n ≤ 94)
def sp_p_is_sign : Sp := fun vs H Q _ => ∃ n : Int, vs = [.int n] ∧ Q (.bl (isSg n)) H
theorem ok_p_is_sign (T : Txt K mg) : FnOk P w K mg base CX0 1 T.f_p_is_sign T.d_p_is_sign ["number"] sp_p_is_sign := by
  refine T.F_p_is_sign.ok sc_p_is_sign (fun vs H Q E h => ?_) (fun cdv A outer s H vs Q E hr h => ?_)
  · obtain ⟨n, rfl, _⟩ := h
    rfl
  · obtain ⟨n, rfl, k⟩ := h
    refine ⟨_, (pss_one (ps_ret (pe_chain op_le op_le pe_int (pv 0) (pe_glob rfl T.c_LAST_SIGN T.r_LAST_SIGN)))), ?_⟩
    refine ⟨_, rfl, _, _, rfl, rfl, _, rfl, ?_⟩
    unfold isSg at k
    by_cases c : 1 ≤ n
    · rw [decide_eq_true c] at k
      refine iteTo (decide_eq_true c) ⟨_, _, rfl, rfl, k⟩
    · rw [decide_eq_false c] at k
      exact iteFo (decide_eq_false c) k
def sp_p_check_signs (K : PySem.W.Frag) (C Pt : Addr) : Sp := fun vs H Q E => ∃ (a : Addr) (ns : List Int), vs = [.ref a] ∧ SqL K H a (ns.map V.int) ∧ GxR.TabG H Pt ∧ (ns.all isSg = true → ∀ H', Kp H H' → Q .non H') ∧ (ns.all isSg = false → ∀ H', Kp H H' → E (.ref C) none H')
theorem ok_p_check_signs (T : Txt K mg) (TB : GxR.TabB base mg T.c_tab T.P_tab) : FnOk P w K mg base (L2.CX P w) 3 T.f_p_check_signs T.d_p_check_signs ["numbers"] (sp_p_check_signs K T.a_BadSign T.P_tab) := by
  obtain ⟨tl, hu⟩ : ∃ tl, T.u_LAST_SIGN = Value.int 94 tl := T.r_LAST_SIGN
  have hL : mg "LAST_SIGN" = some (.int 94 tl) := T.c_LAST_SIGN.trans (congrArg some hu)
  refine T.W_p_check_signs.okX sc_p_check_signs (fun vs H Q E h => ?_) (fun A outer s H vs Q E hr h => ?_)
  · obtain ⟨a, ns, rfl, _⟩ := h
    rfl
  · obtain ⟨a, ns, rfl, hS, tg, k, kE⟩ := h
    have hD : (cxOf (L2.CX P w) P w K mg base ["numbers", "number"] "check_signs" (defScope s_p_check_signs) T.f_p_check_signs (.ref T.c_tab) A outer s H E).A.depth + 1 < recursionLimit := by
      have := hr.dp
      show (A.deeper _).depth + 1 < recursionLimit
      omega
    refine ⟨_, (pss_one (ps_if (pt_not (pt_val (pe_allD hr (by rfl) T.m_all (by decide +kernel) TB rfl ⟨rfl, rfl, noCell (by decide +kernel), rfl, rfl, noFree (by decide +kernel)⟩ (pv 0) (elt_call T.F_p_is_sign T.g_p_is_sign T.b_p_is_sign sc_p_is_sign (noCell (by decide +kernel)) rfl (elt_chain rfl rfl rfl hL) rfl rfl rfl rfl hD) (fun _ => rfl))))
      (pss_one (ps_raise rfl (takes_of rfl rfl rfl rfl) (pmk_own PySem.F.excBase_ValueError T.x_BadSign T.g_BadSign T.k_BadSign (raises_own T.b_BadSign T.t_BadSign) rfl)))
      pss_nil)), ?_⟩
    refine ⟨_, rfl, a, ns, rfl, hS, tg, fun H2 tb => ?_⟩
    have k2 := kp_tabbed tg tb
    refine ⟨_, rfl, iteB (fun c => ?_) (fun c => ?_)⟩
    · exact kE (by simpa [isSg] using c) _ k2
    · exact k (by simpa [isSg] using c) _ k2
def sp_p_kind_of (C Pt : Addr) : Sp := fun vs H Q E => ∃ n : Int, vs = [.int n] ∧ GxR.TabG H Pt ∧ (isSg n = true → ∀ H', Kp H H' → Q (.str (kindV n)) H') ∧ (isSg n = false → ∀ H', Kp H H' → E (.ref C) none H')
theorem ok_p_kind_of (T : Txt K mg) (TB : GxR.TabB base mg T.c_tab T.P_tab) : FnOk P w K mg base (L2.CX P w) 4 T.f_p_kind_of T.d_p_kind_of ["sign"] (sp_p_kind_of T.a_BadSign T.P_tab) := by
  refine T.F_p_kind_of.okX sc_p_kind_of (fun vs H Q E h => ?_) (fun cdv A outer s H vs Q E hr h => ?_)
  · obtain ⟨n, rfl, _⟩ := h
    rfl
  · obtain ⟨n, rfl, tg, k, kE⟩ := h
    refine ⟨_, (pss_cons (ps_expr (pe_call (ok_p_check_signs T TB) (hr.mono (by decide)) rfl T.g_p_check_signs T.F_p_check_signs.kp T.b_p_check_signs .nil (passes_call (takes_of rfl rfl rfl rfl) (fun _ _ _ _ z => z)) (pa_cons (pe_lst (pa_cons (pv 0) pa_nil)) pa_nil)))
      (pss_cons (ps_if (pt_cmpR op_le (pv 0) (pe_glob rfl T.c_LAST_PAGE T.r_LAST_PAGE) (nomark _))
      (pss_one (ps_ret pe_str))
      pss_nil)
      (pss_cons (ps_if (pt_cmpR op_le (pv 0) (pe_glob rfl T.c_LAST_LETTER T.r_LAST_LETTER) (nomark _))
      (pss_one (ps_ret pe_str))
      pss_nil)
      (pss_cons (ps_if (pt_cmpR op_eq (pv 0) (pe_glob rfl T.c_END T.r_END) (nomark _))
      (pss_one (ps_ret pe_str))
      pss_nil)
      (pss_cons (ps_if (pt_cmpR op_eq (pv 0) (pe_glob rfl T.c_STRIKE T.r_STRIKE) (nomark _))
      (pss_one (ps_ret pe_str))
      pss_nil)
      (pss_one (ps_ret pe_str))))))), ?_⟩
    refine ⟨_, rfl, szl (by show 1 ≤ 100000; decide), fun p np => ?_⟩
    generalize h_H1 : upd H p _ = H1
    have k_H1 : Kp H H1 := by rw [← h_H1]; exact .new np
    have q_H1 := (congrFun h_H1 p).symm.trans upd_same
    clear h_H1
    refine ⟨p, [n], rfl, .inl (.inl q_H1), k_H1.tab _ tg, fun c H2 k2 => ?_, fun c H2 k2 => kE (by simpa using c) _ (k_H1.trans k2)⟩
    · have k := k (by simpa using c) _ (k_H1.trans k2)
      unfold kindV at k
      refine ⟨_, rfl, _, _, rfl, rfl, _, rfl, iteD (fun c => ?_) (fun c => ?_)⟩
      · rw [if_pos c] at k
        exact k
      rw [if_neg c] at k
      refine ⟨_, rfl, _, _, rfl, rfl, _, rfl, iteD (fun c => ?_) (fun c => ?_)⟩
      · rw [if_pos c] at k
        exact k
      rw [if_neg c] at k
      refine ⟨_, rfl, rfl, _, rfl, iteD (fun c => ?_) (fun c => ?_)⟩
      · rw [if_pos (V.int.inj c)] at k
        exact k
      rw [if_neg (fun z => c (by rw [z]))] at k
      refine ⟨_, rfl, rfl, _, rfl, iteD (fun c => ?_) (fun c => ?_)⟩
      · rw [if_pos (V.int.inj c)] at k
        exact k
      rw [if_neg (fun z => c (by rw [z]))] at k
      exact k
/-! ### what is due, what is told -/
def edges : List (Str × Int) := [("page", 40), ("letter", 66), ("end", 67), ("strike", 68), ("spare", 94)]
def dueV (n : Int) : Str := if isSg n then kindV n else ""
def named (n : Int) (i : Nat) : List V := ((edges.take i).filter (fun e => decide (n ≤ e.2))).map (fun e => V.str e.1)
theorem named_all {n : Int} (h : isSg n = true) : atI (named n 5) 0 = some (.str (kindV n)) := by
  unfold isSg at h
  simp only [Bool.and_eq_true, decide_eq_true_eq] at h
  obtain ⟨h1, h2⟩ := h
  unfold named edges kindV
  by_cases c1 : n ≤ 40
  · simp [List.filter_cons, c1, atI, ixN]
  by_cases c2 : n ≤ 66
  · simp [List.filter_cons, c1, c2, atI, ixN]
  by_cases c3 : n ≤ 67
  · have e : n = 67 := by omega
    subst e
    simp [List.filter_cons, atI, ixN]
  by_cases c4 : n ≤ 68
  · have e : n = 68 := by omega
    subst e
    simp [List.filter_cons, atI, ixN]
  have e1 : ¬ n = 67 := by omega
  have e2 : ¬ n = 68 := by omega
  simp [List.filter_cons, c1, c2, c3, c4, h2, e1, e2, atI, ixN]
theorem named_succ {n : Int} {i : Nat} {e : Str × Int} (h : edges[i]? = some e) : named n (i + 1) = named n i ++ (if n ≤ e.2 then [V.str e.1] else []) := by
  unfold named
  rw [List.take_succ, h, List.filter_append, List.map_append]
  by_cases c : n ≤ e.2
  · simp [List.filter_cons, c]
  · simp [List.filter_cons, c]
theorem named_len (n : Int) (i : Nat) : (named n i).length ≤ 5 := by
  unfold named
  rw [List.length_map]
  refine Nat.le_trans (List.length_filter_le _ _) ?_
  rw [List.length_take]
  exact Nat.min_le_right _ _
def sp_l_due : Sp := fun vs H Q _ => ∃ n : Int, vs = [.int n] ∧ ∀ H', Kp H H' → Q (.str (dueV n)) H'
theorem ok_l_due (T : Txt K mg) : FnOk P w K mg base CX0 1 T.f_l_due T.d_l_due ["_law_number"] sp_l_due := by
  refine T.F_l_due.ok sc_l_due (fun vs H Q E h => ?_) (fun cdv A outer s H vs Q E hr h => ?_)
  · obtain ⟨n, rfl, _⟩ := h
    rfl
  · obtain ⟨n, rfl, k⟩ := h
    refine ⟨_, (pss_cons (ps_if (PW.pt (pw_or (pt_cmpR op_lt (pv 0) pe_int (nomark _)) (pw_or1 (pt_cmpR op_gt (pv 0) pe_int (nomark _)))))
      (pss_one (ps_ret pe_str))
      pss_nil)
      (pss_cons (ps_set (i := 1) sc_l_due.nd rfl (by first | exact Or.inl rfl | exact Or.inr rfl) (pe_lst (pa_cons (pe_tup (pa_cons pe_str (pa_cons pe_int pa_nil))) (pa_cons (pe_tup (pa_cons pe_str (pa_cons pe_int pa_nil))) (pa_cons (pe_tup (pa_cons pe_str (pa_cons pe_int pa_nil))) (pa_cons (pe_tup (pa_cons pe_str (pa_cons pe_int pa_nil))) (pa_cons (pe_tup (pa_cons pe_str (pa_cons pe_int pa_nil))) pa_nil)))))))
      (pss_one (ps_ret (pe_ix ix_list (pe_lc (own := [("_law_name", 2), ("_law_last", 3)]) (by rfl) sc_l_due.nd (pi_list (pv 1)) (blkOk_by (own := [("_law_name", 2), ("_law_last", 3)]) (N := ["_law_number", "_law_edges", "_law_name", "_law_last"]) (sc := defScope s_l_due) (by decide +kernel)) (fun _ _ _ _ _ => (pgK K rfl (pg_tup (n := 2) rfl (pgs_cons (pg_name (i := 2) sc_l_due.nd rfl (by first | exact Or.inl rfl | exact Or.inr rfl)) (pgs_cons (pg_name (i := 3) sc_l_due.nd rfl (by first | exact Or.inl rfl | exact Or.inr rfl)) pgs_nil))))) (fun _ _ _ _ _ => (pts_one (pt_cmpR op_le (pv 0) (pv 3) (nomark _)))) (fun _ _ _ _ _ => (pv 2))) pe_int (fun _ _ => rfl)))))), ?_⟩
    have out : isSg n = false → Q (.str "") H := fun c => by
      have z := k H (.refl _)
      unfold dueV at z
      rw [c] at z
      exact z
    refine ⟨_, rfl, _, _, rfl, rfl, _, rfl, iteD (fun c => ?_) (fun c => ?_)⟩
    · refine iteT (out ?_)
      unfold isSg
      rw [decide_eq_false (show ¬ 1 ≤ n by omega)]
      rfl
    refine ⟨_, rfl, _, _, rfl, rfl, _, rfl, iteD (fun c2 => ?_) (fun c2 => ?_)⟩
    · refine out ?_
      unfold isSg
      rw [decide_eq_false (show ¬ n ≤ 94 by omega), Bool.and_false]
    have sg : isSg n = true := by
      unfold isSg
      rw [decide_eq_true (show 1 ≤ n by omega), decide_eq_true (show n ≤ 94 by omega)]
      rfl
    have k : ∀ H', Kp H H' → Q (.str (kindV n)) H' := fun H' kp => by
      have z := k H' kp
      unfold dueV at z
      rw [sg] at z
      exact z
    have two : (2 : Nat) ≤ sizeLine := szl (by decide)
    refine ⟨two, fun p1 n1 => ?_⟩
    generalize h_H1 : upd H p1 _ = H1
    have k_H1 : Kp H H1 := by rw [← h_H1]; exact .new n1
    have q_H1 := (congrFun h_H1 p1).symm.trans upd_same
    clear h_H1
    refine ⟨two, fun p2 n2 => ?_⟩
    generalize h_H2 : upd H1 p2 _ = H2
    have k_H2 : Kp H1 H2 := by rw [← h_H2]; exact .new n2
    have q_H2 := (congrFun h_H2 p2).symm.trans upd_same
    clear h_H2
    refine ⟨two, fun p3 n3 => ?_⟩
    generalize h_H3 : upd H2 p3 _ = H3
    have k_H3 : Kp H2 H3 := by rw [← h_H3]; exact .new n3
    have q_H3 := (congrFun h_H3 p3).symm.trans upd_same
    clear h_H3
    refine ⟨two, fun p4 n4 => ?_⟩
    generalize h_H4 : upd H3 p4 _ = H4
    have k_H4 : Kp H3 H4 := by rw [← h_H4]; exact .new n4
    have q_H4 := (congrFun h_H4 p4).symm.trans upd_same
    clear h_H4
    refine ⟨two, fun p5 n5 => ?_⟩
    generalize h_H5 : upd H4 p5 _ = H5
    have k_H5 : Kp H4 H5 := by rw [← h_H5]; exact .new n5
    have q_H5 := (congrFun h_H5 p5).symm.trans upd_same
    clear h_H5
    refine ⟨szl (by show 5 ≤ 100000; decide), fun p6 n6 => ?_⟩
    generalize h_H6 : upd H5 p6 _ = H6
    have k_H6 : Kp H5 H6 := by rw [← h_H6]; exact .new n6
    have q_H6 := (congrFun h_H6 p6).symm.trans upd_same
    clear h_H6
    have c56 := k_H5.trans k_H6
    have c46 := k_H4.trans c56
    have c36 := k_H3.trans c46
    have q1 := (k_H2.trans c36).same _ _ rfl q_H1
    have q2 := c36.same _ _ rfl q_H2
    have q3 := c46.same _ _ rfl q_H3
    have q4 := c56.same _ _ rfl q_H4
    have q5 := k_H6.same _ _ rfl q_H5
    have q6 := q_H6
    have k6 := k_H1.trans (k_H2.trans c36)
    have tups : ∀ (i : Nat) (x : V), [V.ref p1, V.ref p2, V.ref p3, V.ref p4, V.ref p5][i]? = some x → ∃ (p : Addr) (e : Str × Int), x = .ref p ∧ edges[i]? = some e ∧ H6 p = some (.tup [.str e.1, .int e.2])
      | 0, x, h => ⟨p1, _, (Option.some.inj h).symm, rfl, q1⟩
      | 1, x, h => ⟨p2, _, (Option.some.inj h).symm, rfl, q2⟩
      | 2, x, h => ⟨p3, _, (Option.some.inj h).symm, rfl, q3⟩
      | 3, x, h => ⟨p4, _, (Option.some.inj h).symm, rfl, q4⟩
      | 4, x, h => ⟨p5, _, (Option.some.inj h).symm, rfl, q5⟩
      | i + 5, x, h => by simp at h
    clear q1 q2 q3 q4 q5 n1 n2 n3 n4 n5 n6
    refine ⟨_, rfl, p6, rfl, ⟨_, .inl (.inl q6)⟩, fun D hD => ?_⟩
    refine lc_list (K := K) (a := p6) (xs := [V.ref p1, V.ref p2, V.ref p3, V.ref p4, V.ref p5]) (fun i H' => Kp H6 H' ∧ H' D = some (.lst (named n i))) ⟨Kp.new hD, upd_same⟩ (fun i H' _ ⟨kp, _⟩ => kp.sqL (.inl (.inl q6))) (fun i x H' hi ⟨kp, hl⟩ => ?_) (fun H' ⟨kp, hl⟩ => ?_)
    · obtain ⟨p, e, rfl, he, hp⟩ := tups i x hi
      refine ⟨p, _, rfl, .inl (.inl (kp.same _ _ rfl hp)), rfl, _, _, rfl, _, _, rfl, rfl, rfl, ?_⟩
      refine ⟨_, rfl, _, rfl, _, _, rfl, rfl, _, rfl, iteD (fun c => ?_) (fun c => ?_)⟩
      · refine ⟨_, rfl, _, hl, szt (by have := named_len n i; omega), kp.mut hD, ?_⟩
        rw [upd_same, named_succ he, if_pos c]
      · refine ⟨kp, ?_⟩
        rw [hl, named_succ he, if_neg c, List.append_nil]
    · exact ⟨D, _, _, _, rfl, rfl, .inl (.inl hl), named_all sg, k _ (k6.trans kp)⟩
def sp_l_kind_told (Pt : Addr) : Sp := fun vs H Q _ => ∃ n : Int, vs = [.int n] ∧ GxR.TabG H Pt ∧ ∀ H', Kp H H' → Q (.str (dueV n)) H'
theorem ok_l_kind_told (T : Txt K mg) (TB : GxR.TabB base mg T.c_tab T.P_tab) : FnOk P w K mg base CX0 6 T.f_l_kind_told T.d_l_kind_told ["_law_number"] (sp_l_kind_told T.P_tab) := by
  refine T.F_l_kind_told.ok sc_l_kind_told (fun vs H Q E h => ?_) (fun cdv A outer s H vs Q E hr h => ?_)
  · obtain ⟨n, rfl, _⟩ := h
    rfl
  · obtain ⟨n, rfl, tg, k⟩ := h
    refine ⟨_, (pss_cons (ps_set (i := 1) sc_l_kind_told.nd rfl (by first | exact Or.inl rfl | exact Or.inr rfl) pe_str)
      (pss_cons (ps_try_as (i := 2) rfl rfl sc_l_kind_told.nd rfl rfl ⟨rfl, by decide, Or.inl T.g_MastError⟩ takes0
      (fun W pn xe tk _ => (pss_one (ps_set (i := 1) sc_l_kind_told.nd rfl (by first | exact Or.inl rfl | exact Or.inr rfl) (pe_callS (ok_p_kind_of T TB) (hr.mono (by decide)) rfl T.g_p_kind_of T.F_p_kind_of.kp T.b_p_kind_of (fun σ => passAt tk σ) (pa_cons (pv 0) pa_nil)))))
      (fun a oe cls d pn hz hf => (pss_cons (ps_set (i := 1) sc_l_kind_told.nd rfl (by first | exact Or.inl rfl | exact Or.inr rfl) pe_str)
      (pss_one (ps_if (PW.pt (pw_and (pt_val (pe_callB (call_isX K rfl hz hf) (by rfl) T.m_isinstance (by decide +kernel) (pa_cons (pv 2) (pa_cons (pe_glob (v := .ref T.a_BadSign) rfl T.g_BadSign rfl) pa_nil)))) (pw_and1 (pt_val (pe_callB (call_isX K rfl hz hf) (by rfl) T.m_isinstance (by decide +kernel) (pa_cons (pv 2) (pa_cons (pe_bltn (v := .ty "ValueError") (by rfl) T.m_ValueError (by decide +kernel) rfl) pa_nil)))))))
      (pss_one (ps_set (i := 1) sc_l_kind_told.nd rfl (by first | exact Or.inl rfl | exact Or.inr rfl) pe_str))
      pss_nil)))))
      (pss_one (ps_ret (pv 1))))), ?_⟩
    refine ⟨_, rfl, n, rfl, tg, fun c H1 k1 => ?_, fun c H1 k1 => ?_⟩
    · have k := k H1 k1
      unfold dueV at k
      rw [c] at k
      exact ⟨_, rfl, k⟩
    · have k := k H1 k1
      unfold dueV at k
      rw [c] at k
      have xc : ExcC K T.a_BadSign := ⟨T.ga_BadSign, T.gg_BadSign, T.b_BadSign, T.h_BadSign, T.cl_BadSign, T.oc_get, T.oc_tak, T.mo_BadSign⟩
      refine ⟨true, PySem.W.exm_ref T.b_MastError T.h_MastError T.t_MastError T.s_BadSign_MastError, fun _ a ha => ?_, fun q => Bool.noConfusion q⟩
      refine ⟨_, rfl, _, _, _, true, rfl, .inl rfl, xc, rfl, .own _, kit_sub T.i_BadSign T.t_BadSign T.s_BadSign_BadSign, _, rfl, iteTo rfl ?_⟩
      refine ⟨_, rfl, _, _, _, true, rfl, .inl rfl, xc, rfl, .ty _, kit_ve T.v_BadSign, _, rfl, iteTo rfl ?_⟩
      exact ⟨_, rfl, k⟩
/-! ### law -/
def sp_law (K : PySem.W.Frag) (Pt : Addr) : Sp := fun vs H Q _ => ∃ (a : Addr) (ns : List Int), vs = [.ref a] ∧ SqL K H a (ns.map V.int) ∧ ns.length ≤ 63 ∧ GxR.TabG H Pt ∧ ∀ H', Q (.bl true) H'
theorem due_ne (n : Int) : (!decide (V.str (dueV n) = V.str "")) = isSg n := by
  unfold dueV
  cases h : isSg n with
  | false => rfl
  | true =>
    show (!decide (V.str (kindV n) = V.str "")) = true
    unfold kindV
    split
    · decide +kernel
    split
    · decide +kernel
    split
    · decide +kernel
    split
    · decide +kernel
    · decide +kernel
theorem four {a b c d : Int} : ∀ x ∈ [V.int a, V.int b, V.int c, V.int d], ∃ z : Int, x = .int z := by
  intro x hx
  simp only [List.mem_cons, List.not_mem_nil, or_false] at hx
  rcases hx with rfl | rfl | rfl | rfl <;> exact ⟨_, rfl⟩
theorem ok_law (T : Txt K mg) (TB : GxR.TabB base mg T.c_tab T.P_tab) {f : Addr} {fd : FuncData} (F : Fun K "law" "law" s_law f fd) : FnOk P w K mg base CX0 9 f fd ["_law_script"] (sp_law K T.P_tab) := by
  refine F.ok sc_law (fun vs H Q E h => ?_) (fun cdv A outer s H vs Q E hr h => ?_)
  · obtain ⟨a, ns, rfl, _⟩ := h
    rfl
  · obtain ⟨a, ns, rfl, hS, hlen, tg, k⟩ := h
    refine ⟨_, (pss_cons (ps_set (i := 1) sc_law.nd rfl (by first | exact Or.inl rfl | exact Or.inr rfl) (pe_call (ok_l_cell T) (hr.mono (by decide)) rfl T.g_l_cell T.F_l_cell.kp T.b_l_cell .nil pass0 (pa_cons (pv 0) (pa_cons pe_int pa_nil))))
      (pss_cons (ps_set (i := 2) sc_law.nd rfl (by first | exact Or.inl rfl | exact Or.inr rfl) (pe_lst (pa_cons pe_int (pa_cons pe_int (pa_cons pe_int (pa_cons pe_int (pa_cons pe_int (pa_cons pe_int (pa_cons pe_int (pa_cons pe_int (pa_cons pe_int (pa_cons pe_int pa_nil))))))))))))
      (pss_cons (ps_set (i := 3) sc_law.nd rfl (by first | exact Or.inl rfl | exact Or.inr rfl) (pe_op op_sub (pe_op op_mod (pe_call (ok_l_cell T) (hr.mono (by decide)) rfl T.g_l_cell T.F_l_cell.kp T.b_l_cell .nil pass0 (pa_cons (pv 0) (pa_cons pe_int pa_nil))) (pe_op op_mul pe_int (pe_op op_pow pe_int pe_int))) (pe_op op_pow pe_int pe_int)))
      (pss_cons (ps_for PassesOwn.never rfl (pi_list (pe_lst (pa_cons (pe_op op_sub (pe_op op_mod (pv 1) pe_int) pe_int) (pa_cons (pe_ix ix_list (pv 2) (pe_op op_mod (pe_op op_fdiv (pv 1) pe_int) pe_int) (fun _ _ => rfl)) (pa_cons (pv 3) (pa_cons (pe_op op_sub (pe_op op_mod (pv 1) pe_int) pe_int) pa_nil)))))) (pg_name (i := 4) sc_law.nd rfl (by first | exact Or.inl rfl | exact Or.inr rfl))
      (pss_cons (ps_if (pt_not (pt_val (pe_call (ok_l_like T 4) (hr.mono (by decide)) rfl T.g_l_like T.F_l_like.kp T.b_l_like .nil pass0 (pa_cons (pe_call (ok_p_is_sign T) (hr.mono (by decide)) rfl T.g_p_is_sign T.F_p_is_sign.kp T.b_p_is_sign .nil pass0 (pa_cons (pv 4) pa_nil)) (pa_cons (pe_cmpR op_ne (pe_call (ok_l_due T) (hr.mono (by decide)) rfl T.g_l_due T.F_l_due.kp T.b_l_due .nil pass0 (pa_cons (pv 4) pa_nil)) pe_str (nomark _)) pa_nil)))))
      (pss_one (ps_ret pe_bl))
      pss_nil)
      (pss_one (ps_if (pt_not (pt_val (pe_call (ok_l_like T 4) (hr.mono (by decide)) rfl T.g_l_like T.F_l_like.kp T.b_l_like .nil pass0 (pa_cons (pe_call (ok_l_kind_told T TB) (hr.mono (by decide)) rfl T.g_l_kind_told T.F_l_kind_told.kp T.b_l_kind_told .nil pass0 (pa_cons (pv 4) pa_nil)) (pa_cons (pe_call (ok_l_due T) (hr.mono (by decide)) rfl T.g_l_due T.F_l_due.kp T.b_l_due .nil pass0 (pa_cons (pv 4) pa_nil)) pa_nil)))))
      (pss_one (ps_ret pe_bl))
      pss_nil))))
      (pss_one (ps_ret pe_bl)))))), ?_⟩
    refine ⟨_, rfl, a, ns, 0, rfl, hS, by decide, ?_⟩
    refine ⟨szl (by show 10 ≤ 100000; decide), fun p1 n1 => ?_⟩
    generalize h_H1 : upd H p1 _ = H1
    have k_H1 : Kp H H1 := by rw [← h_H1]; exact .new n1
    have q_H1 := (congrFun h_H1 p1).symm.trans upd_same
    clear h_H1
    refine ⟨_, rfl, a, ns, 1, rfl, k_H1.sqL hS, by decide, _, _, rfl, rfl, ⟨by decide, by decide, by decide⟩, _, _, rfl, rfl, .inl ⟨by decide, by decide⟩, _, _, rfl, rfl, (by show (0 : Int) < 2 * 10 ^ 40; decide), _, _, rfl, rfl, ⟨by decide, by decide, by decide⟩, _, _, rfl, rfl, ?_⟩
    have z0 : 0 ≤ cellV ns 0 / 103 % 10 := Int.emod_nonneg _ (by decide)
    have z1 : cellV ns 0 / 103 % 10 < 10 := Int.emod_lt_of_pos _ (by decide)
    refine ⟨_, rfl, _, _, rfl, rfl, (by show (0 : Int) < 103; decide), _, _, rfl, rfl, _, rfl, _, rfl, _, _, rfl, rfl, ⟨by decide, by decide⟩, _, _, rfl, rfl, (by show (0 : Int) < 10; decide), p1, _, _, _, rfl, rfl, .inl (.inl q_H1),
      at_intZ (ns := [0, 1, 40, 41, 66, 67, 68, 69, 94, 95]) z0 (by show (cellV ns 0 / 103 % 10).toNat < 10; omega), _, rfl, _, rfl, _, _, rfl, rfl, (by show (0 : Int) < 103; decide), _, _, rfl, rfl, szl (by show 4 ≤ 100000; decide), fun p2 n2 => ?_⟩
    generalize h_H2 : upd H1 p2 _ = H2
    have k_H2 : Kp H1 H2 := by rw [← h_H2]; exact .new n2
    have q_H2 := (congrFun h_H2 p2).symm.trans upd_same
    clear h_H2
    refine ⟨p2, rfl, ⟨_, .inl (.inl q_H2)⟩, for_list (K := K) (a := p2) (xs := _) (fun i σ H' => Kp H2 H' ∧ ∃ (x1 x2 x3 y : Option V), σ = [some (.ref a), x1, x2, x3, y])
      ⟨.refl _, _, _, _, none, rfl⟩ (fun i σ H' _ ⟨kp, _⟩ => kp.sqL (.inl (.inl q_H2))) ?_ ?_⟩
    · rintro i x σ H' hi ⟨kp, x1, x2, x3, y, rfl⟩
      obtain ⟨z, rfl⟩ := four x (List.mem_of_getElem? hi)
      refine ⟨_, rfl, z, rfl, _, rfl, z, rfl, fun Ha ka => ⟨rfl, ?_⟩⟩
      rw [due_ne]
      refine ⟨_, _, .bool _, rfl, .bl _, .bl _, .bl 3 _, fun Hb kb => ⟨_, rfl, iteFo rfl ?_⟩⟩
      refine ⟨_, rfl, z, rfl, ((((k_H1.trans k_H2).trans kp).trans ka).trans kb).tab _ tg, fun Hc kc => ⟨_, rfl, z, rfl, fun Hd kd => ⟨_, _, .str _, rfl, .str _, .str _, .str 3 _, fun He ke => ⟨_, rfl, iteFo rfl ?_⟩⟩⟩⟩
      exact ⟨((((kp.trans ka).trans kb).trans kc).trans kd).trans ke, _, _, _, _, rfl⟩
    · rintro σ H' ⟨kp, x1, x2, x3, y, rfl⟩
      exact k _
end
theorem all_mk {l : PySem.W.OpenLaw} {w : World} {K : PySem.W.Frag} {h : Heap} {mg : Str → Option Value} {fa : Addr} (X : K.In h) (G : h.Ns mainGlobals mg) (hfa : mg "law" = some (.ref fa)) (own : ∀ y ∈ (["check_signs"] : List Str), ∀ f, mg y = some (.ref f) → LamX.OwnTab K f h)
    {C_MastError : Addr}
    {C_BadSign : Addr}
    {f1 : Addr} {od1 an1 : Option Addr} {sl1 : Array (Option Value)} {oc1 kV1 dc1 pm1 cd1 ct1 : Value}
    {f2 : Addr} {od2 an2 : Option Addr} {sl2 : Array (Option Value)} {oc2 kV2 dc2 pm2 ct2 : Value}
    {c_tab P_tab : Addr} {dd_tab : Option Addr} {vs_tab : Array Value} {sl_tab : Array (Option Value)} {fl_tab : Str} {tf_tab tg_tab tt_tab : Tok} {fg_tab tx_tab : Int} {b_tab : Bool}
    {f3 : Addr} {od3 an3 : Option Addr} {sl3 : Array (Option Value)} {oc3 kV3 dc3 pm3 cd3 ct3 : Value}
    {f4 : Addr} {od4 an4 : Option Addr} {sl4 : Array (Option Value)} {oc4 kV4 dc4 pm4 cd4 ct4 : Value}
    {f5 : Addr} {od5 an5 : Option Addr} {sl5 : Array (Option Value)} {oc5 kV5 dc5 pm5 cd5 ct5 : Value}
    {f6 : Addr} {od6 an6 : Option Addr} {sl6 : Array (Option Value)} {oc6 kV6 dc6 pm6 cd6 ct6 : Value}
    {f7 : Addr} {od7 an7 : Option Addr} {sl7 : Array (Option Value)} {oc7 kV7 dc7 pm7 cd7 ct7 : Value}
    {f8 : Addr} {od8 an8 : Option Addr} {sl8 : Array (Option Value)} {oc8 kV8 dc8 pm8 cd8 ct8 : Value}
    {tk_LAST_PAGE : Tok}
    {tk_LAST_LETTER : Tok}
    {tk_END : Tok}
    {tk_STRIKE : Tok}
    {tk_LAST_SIGN : Tok}
    (e_MastError : PySem.W.nsIn K mainGlobals "MastError" = some (some (.ref C_MastError)))
    (x_MastError : PySem.W.excIn K C_MastError [.type "ValueError", .type "Exception", .type "BaseException", .type "object"] "ValueError.__new__" = true)
    (k_MastError : PySem.W.keepIn K (.ref C_MastError) = true)
    (b_MastError : PySem.W.subIn K (.ref C_MastError) (.type "BaseException") = some true)
    (t_MastError : PySem.W.typeIn K (.ref C_MastError) = some (.type "type"))
    (i_MastError : PySem.W.isClsIn K C_MastError = true)
    (h_MastError : PySem.W.hasDictIn K C_MastError = true)
    (ga_MastError : PySem.W.findIn K (.ref C_MastError) "__getattribute__" = some (some (.builtin "BaseException.__getattribute__")))
    (gg_MastError : PySem.W.findIn K (.ref C_MastError) "__getattr__" = some none)
    (cl_MastError : PySem.W.findIn K (.ref C_MastError) "__class__" = some (some (.builtin "object.__class__")))
    (mo_MastError : PySem.W.mroIn K C_MastError (.type "object") = some true)
    (v_MastError : PySem.W.subIn K (.ref C_MastError) (.type "ValueError") = some true)
    (e_BadSign : PySem.W.nsIn K mainGlobals "BadSign" = some (some (.ref C_BadSign)))
    (x_BadSign : PySem.W.excIn K C_BadSign [.type "ValueError", .type "Exception", .type "BaseException", .type "object"] "ValueError.__new__" = true)
    (k_BadSign : PySem.W.keepIn K (.ref C_BadSign) = true)
    (b_BadSign : PySem.W.subIn K (.ref C_BadSign) (.type "BaseException") = some true)
    (t_BadSign : PySem.W.typeIn K (.ref C_BadSign) = some (.type "type"))
    (i_BadSign : PySem.W.isClsIn K C_BadSign = true)
    (h_BadSign : PySem.W.hasDictIn K C_BadSign = true)
    (ga_BadSign : PySem.W.findIn K (.ref C_BadSign) "__getattribute__" = some (some (.builtin "BaseException.__getattribute__")))
    (gg_BadSign : PySem.W.findIn K (.ref C_BadSign) "__getattr__" = some none)
    (cl_BadSign : PySem.W.findIn K (.ref C_BadSign) "__class__" = some (some (.builtin "object.__class__")))
    (mo_BadSign : PySem.W.mroIn K C_BadSign (.type "object") = some true)
    (v_BadSign : PySem.W.subIn K (.ref C_BadSign) (.type "ValueError") = some true)
    (s_MastError_MastError : PySem.W.subIn K (.ref C_MastError) (.ref C_MastError) = some true)
    (s_BadSign_MastError : PySem.W.subIn K (.ref C_BadSign) (.ref C_MastError) = some true)
    (s_BadSign_BadSign : PySem.W.subIn K (.ref C_BadSign) (.ref C_BadSign) = some true)
    (a1 : PySem.W.nsIn K mainGlobals "is_sign" = some (some (.ref f1)))
    (l1 : K.lookup f1 = some ⟨oc1, od1, .func (PySem.W.fnOf "is_sign" "is_sign" (defArgs s_p_is_sign) (defBody s_p_is_sign) (defScope s_p_is_sign) .none kV1 dc1 pm1 an1 cd1 ct1), sl1⟩)
    (c1 : PySem.W.codeIn K cd1 "is_sign" = true)
    (k1 : PySem.W.keepIn K (.ref f1) = true)
    (a2 : PySem.W.nsIn K mainGlobals "check_signs" = some (some (.ref f2)))
    (l2 : K.lookup f2 = some ⟨oc2, od2, .func (PySem.W.fnOf "check_signs" "check_signs" (defArgs s_p_check_signs) (defBody s_p_check_signs) (defScope s_p_check_signs) .none kV2 dc2 pm2 an2 (.ref c_tab) ct2), sl2⟩)
    (c2 : PySem.W.codeIn K (.ref c_tab) "check_signs" = true)
    (y_l : K.lookup c_tab = some ⟨.type "code", dd_tab, .fields vs_tab, sl_tab⟩)
    (y_11 : vs_tab[11]? = some (.ref P_tab))
    (y_18 : vs_tab.getD 18 .none = .str fl_tab tf_tab)
    (y_7 : vs_tab.getD 7 .none = .int fg_tab tg_tab)
    (y_9 : vs_tab.getD 9 .none = .bool b_tab)
    (y_10 : vs_tab.getD 10 .none = .int tx_tab tt_tab)
    (y_ne : c_tab ≠ P_tab)
    (y_P : K.lookup P_tab = none)
    (k2 : PySem.W.keepIn K (.ref f2) = true)
    (a3 : PySem.W.nsIn K mainGlobals "kind_of" = some (some (.ref f3)))
    (l3 : K.lookup f3 = some ⟨oc3, od3, .func (PySem.W.fnOf "kind_of" "kind_of" (defArgs s_p_kind_of) (defBody s_p_kind_of) (defScope s_p_kind_of) .none kV3 dc3 pm3 an3 cd3 ct3), sl3⟩)
    (c3 : PySem.W.codeIn K cd3 "kind_of" = true)
    (k3 : PySem.W.keepIn K (.ref f3) = true)
    (a4 : PySem.W.nsIn K mainGlobals "_law_cell" = some (some (.ref f4)))
    (l4 : K.lookup f4 = some ⟨oc4, od4, .func (PySem.W.fnOf "_law_cell" "_law_cell" (defArgs s_l_cell) (defBody s_l_cell) (defScope s_l_cell) .none kV4 dc4 pm4 an4 cd4 ct4), sl4⟩)
    (c4 : PySem.W.codeIn K cd4 "_law_cell" = true)
    (k4 : PySem.W.keepIn K (.ref f4) = true)
    (a5 : PySem.W.nsIn K mainGlobals "_law_like" = some (some (.ref f5)))
    (l5 : K.lookup f5 = some ⟨oc5, od5, .func (PySem.W.fnOf "_law_like" "_law_like" (defArgs s_l_like) (defBody s_l_like) (defScope s_l_like) .none kV5 dc5 pm5 an5 cd5 ct5), sl5⟩)
    (c5 : PySem.W.codeIn K cd5 "_law_like" = true)
    (k5 : PySem.W.keepIn K (.ref f5) = true)
    (a6 : PySem.W.nsIn K mainGlobals "_law_due" = some (some (.ref f6)))
    (l6 : K.lookup f6 = some ⟨oc6, od6, .func (PySem.W.fnOf "_law_due" "_law_due" (defArgs s_l_due) (defBody s_l_due) (defScope s_l_due) .none kV6 dc6 pm6 an6 cd6 ct6), sl6⟩)
    (c6 : PySem.W.codeIn K cd6 "_law_due" = true)
    (k6 : PySem.W.keepIn K (.ref f6) = true)
    (a7 : PySem.W.nsIn K mainGlobals "_law_kind_told" = some (some (.ref f7)))
    (l7 : K.lookup f7 = some ⟨oc7, od7, .func (PySem.W.fnOf "_law_kind_told" "_law_kind_told" (defArgs s_l_kind_told) (defBody s_l_kind_told) (defScope s_l_kind_told) .none kV7 dc7 pm7 an7 cd7 ct7), sl7⟩)
    (c7 : PySem.W.codeIn K cd7 "_law_kind_told" = true)
    (k7 : PySem.W.keepIn K (.ref f7) = true)
    (a8 : PySem.W.nsIn K mainGlobals "law" = some (some (.ref f8)))
    (l8 : K.lookup f8 = some ⟨oc8, od8, .func (PySem.W.fnOf "law" "law" (defArgs s_law) (defBody s_law) (defScope s_law) .none kV8 dc8 pm8 an8 cd8 ct8), sl8⟩)
    (c8 : PySem.W.codeIn K cd8 "law" = true)
    (k8 : PySem.W.keepIn K (.ref f8) = true)
    (q_LAST_PAGE : PySem.W.nsIn K mainGlobals "LAST_PAGE" = some (some (.int 40 tk_LAST_PAGE)))
    (q_LAST_LETTER : PySem.W.nsIn K mainGlobals "LAST_LETTER" = some (some (.int 66 tk_LAST_LETTER)))
    (q_END : PySem.W.nsIn K mainGlobals "END" = some (some (.int 67 tk_END)))
    (q_STRIKE : PySem.W.nsIn K mainGlobals "STRIKE" = some (some (.int 68 tk_STRIKE)))
    (q_LAST_SIGN : PySem.W.nsIn K mainGlobals "LAST_SIGN" = some (some (.int 94 tk_LAST_SIGN)))
    (z_all : PySem.W.nsIn K mainGlobals "all" = some none)
    (z_len : PySem.W.nsIn K mainGlobals "len" = some none)
    (z_isinstance : PySem.W.nsIn K mainGlobals "isinstance" = some none)
    (z_bool : PySem.W.nsIn K mainGlobals "bool" = some none)
    (z_int : PySem.W.nsIn K mainGlobals "int" = some none)
    (z_str : PySem.W.nsIn K mainGlobals "str" = some none)
    (z_list : PySem.W.nsIn K mainGlobals "list" = some none)
    (z_tuple : PySem.W.nsIn K mainGlobals "tuple" = some none)
    (z_range : PySem.W.nsIn K mainGlobals "range" = some none)
    (z_ValueError : PySem.W.nsIn K mainGlobals "ValueError" = some none)
    (oc_get : PySem.W.specialIn K (.builtin "object.__class__") "__get__" = some (some (.builtin "getset_descriptor.__get__")))
    (oc_tak : PySem.W.takesIn K (.builtin "object.__class__") = some true) :
    LamX.LawAtS l w K CX0 9 63 "_law_script" mg fa h := by
  have e := hfa.symm.trans (PySem.W.mg_of X G a8)
  cases e
  let T : Txt K mg :=
    { a_MastError := C_MastError,
      g_MastError := PySem.W.mg_of X G e_MastError,
      x_MastError := x_MastError,
      k_MastError := k_MastError,
      b_MastError := b_MastError,
      t_MastError := t_MastError,
      i_MastError := i_MastError,
      h_MastError := h_MastError,
      ga_MastError := ga_MastError,
      gg_MastError := gg_MastError,
      cl_MastError := cl_MastError,
      mo_MastError := mo_MastError,
      v_MastError := v_MastError,
      a_BadSign := C_BadSign,
      g_BadSign := PySem.W.mg_of X G e_BadSign,
      x_BadSign := x_BadSign,
      k_BadSign := k_BadSign,
      b_BadSign := b_BadSign,
      t_BadSign := t_BadSign,
      i_BadSign := i_BadSign,
      h_BadSign := h_BadSign,
      ga_BadSign := ga_BadSign,
      gg_BadSign := gg_BadSign,
      cl_BadSign := cl_BadSign,
      mo_BadSign := mo_BadSign,
      v_BadSign := v_BadSign,
      s_MastError_MastError := s_MastError_MastError,
      s_BadSign_MastError := s_BadSign_MastError,
      s_BadSign_BadSign := s_BadSign_BadSign,
      f_p_is_sign := f1,
      d_p_is_sign := _,
      F_p_is_sign := fun_mk (st := s_p_is_sign) l1 c1 k1,
      b_p_is_sign := (fun_mk (st := s_p_is_sign) l1 c1 k1).binds (ps := ["number"]) fun _ _ _ _ _ _ us hl => match us, hl with | [_], _ => rfl,
      g_p_is_sign := PySem.W.mg_of X G a1,
      c_tab := c_tab,
      P_tab := P_tab,
      W_p_check_signs := ⟨_, _, _, _, _, _, _, _, rfl, l2, c2⟩,
      f_p_check_signs := f2,
      d_p_check_signs := _,
      F_p_check_signs := fun_mk (st := s_p_check_signs) l2 c2 k2,
      b_p_check_signs := (fun_mk (st := s_p_check_signs) l2 c2 k2).binds (ps := ["numbers"]) fun _ _ _ _ _ _ us hl => match us, hl with | [_], _ => rfl,
      g_p_check_signs := PySem.W.mg_of X G a2,
      f_p_kind_of := f3,
      d_p_kind_of := _,
      F_p_kind_of := fun_mk (st := s_p_kind_of) l3 c3 k3,
      b_p_kind_of := (fun_mk (st := s_p_kind_of) l3 c3 k3).binds (ps := ["sign"]) fun _ _ _ _ _ _ us hl => match us, hl with | [_], _ => rfl,
      g_p_kind_of := PySem.W.mg_of X G a3,
      f_l_cell := f4,
      d_l_cell := _,
      F_l_cell := fun_mk (st := s_l_cell) l4 c4 k4,
      b_l_cell := (fun_mk (st := s_l_cell) l4 c4 k4).binds (ps := ["_law_script", "_law_at"]) fun _ _ _ _ _ _ us hl => match us, hl with | [_, _], _ => rfl,
      g_l_cell := PySem.W.mg_of X G a4,
      f_l_like := f5,
      d_l_like := _,
      F_l_like := fun_mk (st := s_l_like) l5 c5 k5,
      b_l_like := (fun_mk (st := s_l_like) l5 c5 k5).binds (ps := ["_law_found", "_law_due_here"]) fun _ _ _ _ _ _ us hl => match us, hl with | [_, _], _ => rfl,
      g_l_like := PySem.W.mg_of X G a5,
      f_l_due := f6,
      d_l_due := _,
      F_l_due := fun_mk (st := s_l_due) l6 c6 k6,
      b_l_due := (fun_mk (st := s_l_due) l6 c6 k6).binds (ps := ["_law_number"]) fun _ _ _ _ _ _ us hl => match us, hl with | [_], _ => rfl,
      g_l_due := PySem.W.mg_of X G a6,
      f_l_kind_told := f7,
      d_l_kind_told := _,
      F_l_kind_told := fun_mk (st := s_l_kind_told) l7 c7 k7,
      b_l_kind_told := (fun_mk (st := s_l_kind_told) l7 c7 k7).binds (ps := ["_law_number"]) fun _ _ _ _ _ _ us hl => match us, hl with | [_], _ => rfl,
      g_l_kind_told := PySem.W.mg_of X G a7,
      u_LAST_PAGE := _,
      c_LAST_PAGE := PySem.W.mg_of X G q_LAST_PAGE,
      r_LAST_PAGE := ⟨_, rfl⟩,
      u_LAST_LETTER := _,
      c_LAST_LETTER := PySem.W.mg_of X G q_LAST_LETTER,
      r_LAST_LETTER := ⟨_, rfl⟩,
      u_END := _,
      c_END := PySem.W.mg_of X G q_END,
      r_END := ⟨_, rfl⟩,
      u_STRIKE := _,
      c_STRIKE := PySem.W.mg_of X G q_STRIKE,
      r_STRIKE := ⟨_, rfl⟩,
      u_LAST_SIGN := _,
      c_LAST_SIGN := PySem.W.mg_of X G q_LAST_SIGN,
      r_LAST_SIGN := ⟨_, rfl⟩,
      m_all := PySem.W.mg_none_of X G z_all,
      m_len := PySem.W.mg_none_of X G z_len,
      m_isinstance := PySem.W.mg_none_of X G z_isinstance,
      m_bool := PySem.W.mg_none_of X G z_bool,
      m_int := PySem.W.mg_none_of X G z_int,
      m_str := PySem.W.mg_none_of X G z_str,
      m_list := PySem.W.mg_none_of X G z_list,
      m_tuple := PySem.W.mg_none_of X G z_tuple,
      m_range := PySem.W.mg_none_of X G z_range,
      m_ValueError := PySem.W.mg_none_of X G z_ValueError,
      oc_get := oc_get,
      oc_tak := oc_tak }
  have hP : h.get? P_tab = some { cls := .none, data := .fields #[] } := own "check_signs" List.mem_cons_self f2 (PySem.W.mg_of X G a2) c_tab P_tab _ _ _ _ _ _ l2 rfl rfl y_l y_11
  have hc : PySem.W.CodeHd h c_tab P_tab := codeHd_mk X y_l y_11 y_18 y_7 y_9 y_10 y_ne
  refine ⟨PySem.W.fnOf "law" "law" (defArgs s_law) (defBody s_law) (defScope s_law) .none kV8 dc8 pm8 an8 cd8 ct8, [(c_tab, P_tab)], sp_law K P_tab, ?_, ?_, ?_, fun s v => .of_eq rfl, fun H a ns hl _ hT hS => ⟨a, ns, rfl, hS, hl, ⟨#[], hT _ List.mem_cons_self, trivial⟩, fun _ => rfl⟩, fun base _ _ TB => ok_law T (let tb := TB (c_tab, P_tab) List.mem_cons_self; ⟨tb.code, tb.bm, tb.gP⟩) (fun_mk (st := s_law) l8 c8 k8)⟩
  all_goals (intro p hp; cases List.mem_singleton.mp hp)
  · exact hP
  · exact y_P
  · exact hc
end Mw
open PySem PySem.W PyProof.Rows
set_option maxRecDepth 100000 in
set_option maxHeartbeats 0 in
theorem PySem.Challenge.cw_mastword_k01_signs_known_holds : PySem.Challenge.rw_mastword_k01_signs_known.Holds := by
  w_on; o_law; k_head; (case hw => w_witness2)
  k_fill
  refine Mw.walk_tab (l := PySem.Challenge.rw_mastword_k01_signs_known) (n := 63) (k := 9) (x := "_law_script") (CX := fun _ => L2.CX0) ["check_signs"] rfl (by decide) rfl ⟨rfl, by decide, by decide⟩ (by decide +kernel) (fun w h Y => PySem.W.kIn_of Y) ?F (fun _ _ _ _ _ h => h)
  case F =>
    intro w mg fa h KX G hmg own
    refine' Mw.all_mk KX G hmg own ?e_MastError ?x_MastError ?k_MastError ?b_MastError ?t_MastError ?i_MastError ?h_MastError ?ga_MastError ?gg_MastError ?cl_MastError ?mo_MastError ?v_MastError ?e_BadSign ?x_BadSign ?k_BadSign ?b_BadSign ?t_BadSign ?i_BadSign ?h_BadSign ?ga_BadSign ?gg_BadSign ?cl_BadSign ?mo_BadSign ?v_BadSign ?s_MastError_MastError ?s_BadSign_MastError ?s_BadSign_BadSign ?a1 ?l1 ?c1 ?k1 ?a2 ?l2 ?c2 ?y_l ?y_11 ?y_18 ?y_7 ?y_9 ?y_10 ?y_ne ?y_P ?k2 ?a3 ?l3 ?c3 ?k3 ?a4 ?l4 ?c4 ?k4 ?a5 ?l5 ?c5 ?k5 ?a6 ?l6 ?c6 ?k6 ?a7 ?l7 ?c7 ?k7 ?a8 ?l8 ?c8 ?k8 ?q_LAST_PAGE ?q_LAST_LETTER ?q_END ?q_STRIKE ?q_LAST_SIGN ?z_all ?z_len ?z_isinstance ?z_bool ?z_int ?z_str ?z_list ?z_tuple ?z_range ?z_ValueError ?oc_get ?oc_tak
    (case e_MastError => k_is)
    (case x_MastError => k_exc)
    (case k_MastError => k_is)
    (case b_MastError => k_is)
    (case t_MastError => k_is)
    (case i_MastError => k_is)
    (case h_MastError => k_is)
    (case ga_MastError => k_is)
    (case gg_MastError => k_is)
    (case cl_MastError => k_is)
    (case mo_MastError => k_is)
    (case v_MastError => k_is)
    (case e_BadSign => k_is)
    (case x_BadSign => k_exc)
    (case k_BadSign => k_is)
    (case b_BadSign => k_is)
    (case t_BadSign => k_is)
    (case i_BadSign => k_is)
    (case h_BadSign => k_is)
    (case ga_BadSign => k_is)
    (case gg_BadSign => k_is)
    (case cl_BadSign => k_is)
    (case mo_BadSign => k_is)
    (case v_BadSign => k_is)
    (case s_MastError_MastError => (first | rfl | k_is))
    (case s_BadSign_MastError => (first | rfl | k_is))
    (case s_BadSign_BadSign => (first | rfl | k_is))
    (case a1 => k_is)
    (case l1 => k_is)
    (case c1 => k_is)
    (case k1 => k_is)
    (case a2 => k_is)
    (case l2 => k_is)
    (case c2 => k_is)
    (case y_l => k_is)
    (case y_11 => rfl)
    (case y_18 => rfl)
    (case y_7 => rfl)
    (case y_9 => rfl)
    (case y_10 => rfl)
    (case y_ne => (intro z; cases z))
    (case y_P => rfl)
    (case k2 => k_is)
    (case a3 => k_is)
    (case l3 => k_is)
    (case c3 => k_is)
    (case k3 => k_is)
    (case a4 => k_is)
    (case l4 => k_is)
    (case c4 => k_is)
    (case k4 => k_is)
    (case a5 => k_is)
    (case l5 => k_is)
    (case c5 => k_is)
    (case k5 => k_is)
    (case a6 => k_is)
    (case l6 => k_is)
    (case c6 => k_is)
    (case k6 => k_is)
    (case a7 => k_is)
    (case l7 => k_is)
    (case c7 => k_is)
    (case k7 => k_is)
    (case a8 => k_is)
    (case l8 => k_is)
    (case c8 => k_is)
    (case k8 => k_is)
    (case q_LAST_PAGE => k_is)
    (case q_LAST_LETTER => k_is)
    (case q_END => k_is)
    (case q_STRIKE => k_is)
    (case q_LAST_SIGN => k_is)
    (case z_all => k_is)
    (case z_len => k_is)
    (case z_isinstance => k_is)
    (case z_bool => k_is)
    (case z_int => k_is)
    (case z_str => k_is)
    (case z_list => k_is)
    (case z_tuple => k_is)
    (case z_range => k_is)
    (case z_ValueError => k_is)
    (case oc_get => k_is)
    (case oc_tak => k_is)
