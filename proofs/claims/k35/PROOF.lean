import PyProof.Rows.All
import Wide.All
import OpenK.AllK
import Wide.FinOn
import HandS.ForMost
import HandS.ForExc
import HandS.AnyAll
import HandS.EndTab
import HandS.ExcIs
import HandS.ExcField
import HandS.ExcInit
import HandS.IsInst
import HandS.Conv
import HandS.Replace
import HandS.Flow
import HandS.Walk
import HandS.Evl
import KE.KExcIs
import HandS.EndOwn
import HandS.CallRecv
import HandS.SetFor
import HandS.Deep
import HandS.More
import HandS.HotCalls
import KE.DataMinMax
import HandS.SortInts
import KE.SortData
import KE.KDictWalk
import HandS.Style
import HandS.Star
import HandS.Small
import HandS.RaiseMore
import HandS.Zip
import HandS.ExcValue
import KE.KDictZip
import KE.KDictList
import HandS.SortKw
import HandS.WideBits
import HandS.Rev
import HandS.TupMul
import HandS.TupAny
import HandS.Defaults
import HandS.HeadEnd
import HandS.HeadHook1
import HandS.HeadHook2
import HandS.Head0
import HandS.Head1
import HandS.Head2
import KE.KStateDown
import HandS.HeadHook4
import HandS.HeadWalk
import KE.KNestM
import HandS.EndTab
import PySem.Challenge.RW_mastword_k35_whole_slips_hold_the_true
set_option Elab.async false
set_option linter.all false
set_option maxRecDepth 100000
set_option maxHeartbeats 2000000
namespace Mw
open PySem PySem.Spec PyProof.Rows L2
/-! ### written tuples and a written dict of tuples -/
def KTup (K : PySem.W.Frag) (a : Addr) (ks : List Str) : Prop := ∃ (o : Obj) (its : Array Value) (n : Nat), K.lookup a = some o ∧ o.cls = .type "tuple" ∧ o.data = .seq its n ∧ its.size ≤ sizeLine ∧ Vals (ks.map V.str) its.toList
theorem KTup.sq {K : PySem.W.Frag} {H : Hp} {a : Addr} {ks : List Str} (h : KTup K a ks) : SqT K H a (ks.map V.str) := .inr h
def PartK (K : PySem.W.Frag) (a : Addr) (name : Str) (ks : List Str) : Prop := ∃ p, PySem.W.nsIn K a name = some (some (.ref p)) ∧ KTup K p ks
/-- the keys of a written dict, in their order -/
def KeysAre : List DictEntry → List Str → Prop
  | [], [] => True
  | e :: r, k :: ks => (∃ t, e.key = .str k t) ∧ KeysAre r ks
  | _, _ => False
theorem keys_find (x : Str) : ∀ {l : List DictEntry} {ks : List Str}, KeysAre l ks → x ∉ ks → l.find? (fun d => d.key.isStr x) = none
  | [], [], _, _ => rfl
  | e :: r, k :: ks, h, hn => by
    obtain ⟨⟨t, he⟩, hr⟩ := h
    rw [List.find?_cons, he]
    have hk : k ≠ x := fun z => hn (by rw [z]; exact List.mem_cons_self)
    have e0 : (Value.str k t).isStr x = false := by
      show (k == x) = false
      exact beq_eq_false_iff_ne.mpr hk
    rw [e0]
    exact keys_find x hr fun z => hn (List.mem_cons_of_mem _ z)
  | [], _ :: _, h, _ => h.elim
  | _ :: _, [], h, _ => h.elim
theorem keys_plain : ∀ {l : List DictEntry} {ks : List Str}, KeysAre l ks → l.any (fun d => d.refKey) = false
  | [], [], _ => rfl
  | e :: r, k :: ks, h => by
    obtain ⟨⟨t, he⟩, hr⟩ := h
    rw [List.any_cons, keys_plain hr, Bool.or_false]
    unfold DictEntry.refKey
    rw [he]
  | [], _ :: _, h => h.elim
  | _ :: _, [], h => h.elim
theorem keys_miss {K : PySem.W.Frag} {a : Addr} {es : Array DictEntry} {n : Nat} {ks : List Str} {x : Str} (hl : K.lookup a = some ⟨.type "dict", none, .dict es n, #[]⟩) (hk : KeysAre es.toList ks) (hx : x ∉ ks) : PySem.W.nsIn K a x = some none := by
  unfold PySem.W.nsIn
  rw [hl]
  dsimp only
  have e := keys_find x hk hx
  rw [e]
  dsimp only
  rw [if_neg (by rw [keys_plain hk]; decide)]

/-! ### a large top: its facts by names, checked in one run -/
def exObj (K : PySem.W.Frag) : Bool := He.eqO (PySem.W.specialIn K (.builtin "object.__class__") "__get__") (some (some (.builtin "getset_descriptor.__get__"))) && decide (PySem.W.takesIn K (.builtin "object.__class__") = some true)
def excB (K : PySem.W.Frag) (x : Str) : Bool := He.eqO (PySem.W.nsIn K mainGlobals x) (some (some (.ref (He.ga K x)))) && (PySem.W.excIn K (He.ga K x) He.veBase "ValueError.__new__" && (PySem.W.keepIn K (.ref (He.ga K x)) &&
  (decide (PySem.W.subIn K (.ref (He.ga K x)) (.type "BaseException") = some true) && (decide (PySem.W.typeIn K (.ref (He.ga K x)) = some (.type "type")) && (PySem.W.isClsIn K (He.ga K x) && (PySem.W.hasDictIn K (He.ga K x) &&
  (He.eqO (PySem.W.findIn K (.ref (He.ga K x)) "__getattribute__") (some (some (.builtin "BaseException.__getattribute__"))) && (He.eqO (PySem.W.findIn K (.ref (He.ga K x)) "__getattr__") (some none) &&
  (He.eqO (PySem.W.findIn K (.ref (He.ga K x)) "__class__") (some (some (.builtin "object.__class__"))) && (decide (PySem.W.mroIn K (He.ga K x) (.type "object") = some true) && (decide (PySem.W.subIn K (.ref (He.ga K x)) (.type "ValueError") = some true) &&
  decide (PySem.W.subIn K (.ref (He.ga K x)) (.ref (He.ga K "MastError")) = some true))))))))))))
structure ExcT (K : PySem.W.Frag) (mg : Str → Option Value) (nm : Str) : Prop where
  g : mg nm = some (.ref (He.ga K nm))
  x : PySem.W.excIn K (He.ga K nm) He.veBase "ValueError.__new__" = true
  k : PySem.W.keepIn K (.ref (He.ga K nm)) = true
  b : PySem.W.subIn K (.ref (He.ga K nm)) (.type "BaseException") = some true
  t : PySem.W.typeIn K (.ref (He.ga K nm)) = some (.type "type")
  i : PySem.W.isClsIn K (He.ga K nm) = true
  h : PySem.W.hasDictIn K (He.ga K nm) = true
  ga : PySem.W.findIn K (.ref (He.ga K nm)) "__getattribute__" = some (some (.builtin "BaseException.__getattribute__"))
  gg : PySem.W.findIn K (.ref (He.ga K nm)) "__getattr__" = some none
  cl : PySem.W.findIn K (.ref (He.ga K nm)) "__class__" = some (some (.builtin "object.__class__"))
  mo : PySem.W.mroIn K (He.ga K nm) (.type "object") = some true
  v : PySem.W.subIn K (.ref (He.ga K nm)) (.type "ValueError") = some true
  s : PySem.W.subIn K (.ref (He.ga K nm)) (.ref (He.ga K "MastError")) = some true
theorem excB_ok {K : PySem.W.Frag} {h : Heap} {mg : Str → Option Value} (X : K.In h) (G : h.Ns mainGlobals mg) {x : Str} (c : excB K x = true) : ExcT K mg x := by
  obtain ⟨c1, c⟩ := He.ba c
  obtain ⟨c2, c⟩ := He.ba c
  obtain ⟨c3, c⟩ := He.ba c
  obtain ⟨c4, c⟩ := He.ba c
  obtain ⟨c5, c⟩ := He.ba c
  obtain ⟨c6, c⟩ := He.ba c
  obtain ⟨c7, c⟩ := He.ba c
  obtain ⟨c8, c⟩ := He.ba c
  obtain ⟨c9, c⟩ := He.ba c
  obtain ⟨c10, c⟩ := He.ba c
  obtain ⟨c11, c⟩ := He.ba c
  obtain ⟨c12, c13⟩ := He.ba c
  exact ⟨PySem.W.mg_of X G (He.eqO_ok c1), c2, c3, of_decide_eq_true c4, of_decide_eq_true c5, c6, c7, He.eqO_ok c8, He.eqO_ok c9, He.eqO_ok c10, of_decide_eq_true c11, of_decide_eq_true c12, of_decide_eq_true c13⟩
/-- of some classes none is over another -/
def freshB : List Nat → Bool
  | [] => true
  | a :: r => r.all (fun b => !Nat.beq a b) && freshB r
theorem freshB_ok {α : Type} {f : α → Nat} : ∀ {xs : List α}, freshB (xs.map f) = true → ∀ x ∈ xs, ∀ y ∈ xs, f x = f y → x = y
  | [], _, x, h => nomatch h
  | a :: r, h, x, hx => by
    rw [List.map_cons] at h
    obtain ⟨h1, h2⟩ := He.ba h
    have no : ∀ z ∈ r, ¬ f a = f z := fun z hz e => by
      have c := List.all_eq_true.mp h1 (f z) (List.mem_map_of_mem hz)
      rw [e, Nat.beq_refl] at c
      cases c
    intro y hy e
    rcases List.mem_cons.mp hx with rfl | h3
    · rcases List.mem_cons.mp hy with rfl | hy
      · rfl
      · exact absurd e (no y hy)
    · rcases List.mem_cons.mp hy with rfl | hy
      · exact absurd e.symm (no x h3)
      · exact freshB_ok h2 x h3 y hy e
def mroB (K : PySem.W.Frag) (x : Str) : Bool := decide ((PySem.W.clsIn K (He.ga K x)).map (fun cd => cd.mro) = some [.ref (He.ga K x), .ref (He.ga K "MastError"), .type "ValueError", .type "Exception", .type "BaseException", .type "object"])
def kindB (K : PySem.W.Frag) (xs : List Str) : Bool := xs.isEmpty || (xs.all (mroB K) && freshB ((("MastError" : Str) :: xs).map (He.ga K)))
theorem kindB_ok {K : PySem.W.Frag} {xs : List Str} (c : kindB K xs = true) {x y : Str} (hx : x ∈ xs) (hy : y ∈ xs) : PySem.W.subIn K (.ref (He.ga K x)) (.ref (He.ga K y)) = some (decide (x = y)) := by
  unfold kindB at c
  have hne : xs.isEmpty = false := by cases xs with
    | nil => exact nomatch hx
    | cons _ _ => rfl
  rw [hne, Bool.false_or] at c
  obtain ⟨c1, c2⟩ := He.ba c
  have e := of_decide_eq_true (List.all_eq_true.mp c1 x hx)
  obtain ⟨cd, h1, h2⟩ := Option.map_eq_some_iff.mp e
  have fr := freshB_ok c2
  show (PySem.W.clsIn K (He.ga K x)).bind _ = _
  rw [h1]
  show (if cd.mro.isEmpty then none else some (cd.mro.contains (.ref (He.ga K y)))) = _
  rw [h2]
  have n1 : ¬ He.ga K y = He.ga K "MastError" := fun z => by
    have q := List.all_eq_true.mp (He.ba c2).1 _ (List.mem_map_of_mem hy)
    rw [z, Nat.beq_refl] at q
    cases q
  have n2 : (He.ga K y = He.ga K x) ↔ x = y := ⟨fun z => (fr y (List.mem_cons_of_mem _ hy) x (List.mem_cons_of_mem _ hx) z).symm, fun z => by rw [z]⟩
  show some _ = some _
  congr 1
  rw [Bool.eq_iff_iff, List.contains_iff_mem, decide_eq_true_iff]
  simp [n1, n2]
def aliasB (K : PySem.W.Frag) (p : Str × Str) : Bool := He.eqO (PySem.W.nsIn K mainGlobals p.1) (some (some (.ref (He.ga K p.2))))
/-! an own error class with an __init__ of its own -/
def oexIn (K : PySem.W.Frag) (C : Addr) : Bool := match K.lookup C with
  | some ⟨.type "type", _, .cls cd, sl⟩ => (match cd.mro, sl.toList with
    | .ref C' :: bm, [_, _, _, _, some (.builtin n), _] => C' == C && n == "ValueError.__new__" && !cd.hasDel && cd.hasDict && PySem.HandSPX.refsVE bm
    | _, _ => false)
  | _ => false
theorem oexIn_ok {K : PySem.W.Frag} {C : Addr} (q : oexIn K C = true) : ∃ nm q N bs bm sn sub ab col dd k0 k1 k2 k3 k5, K.lookup C = some (excClassObj nm q C N bs bm true sn sub ab col dd k0 k1 k2 k3 k5 "ValueError.__new__") ∧ PySem.HandSPX.refsVE bm = true := by
  unfold oexIn at q
  split at q
  · rename_i dd cd sl ho
    split at q
    · rename_i C' bm k0 k1 k2 k3 n k5 hm hs
      simp only [Bool.and_eq_true, beq_iff_eq, Bool.not_eq_true'] at q
      obtain ⟨⟨⟨⟨rfl, rfl⟩, hdel⟩, hd⟩, ht⟩ := q
      obtain ⟨nm, bs, mro, ns, qn, hd', sn, sub, ab, col, del⟩ := cd
      dsimp only at hm hdel hd
      subst hm hdel hd
      have hsl : sl = #[k0, k1, k2, k3, some (.builtin "ValueError.__new__"), k5] := by
        obtain ⟨l⟩ := sl
        simp only at hs
        rw [hs]
      subst hsl
      exact ⟨nm, qn, ns, bs, bm, sn, sub, ab, col, dd, k0, k1, k2, k3, k5, ho, ht⟩
    · cases q
  · cases q
def oexB (K : PySem.W.Frag) (x : Str) : Bool := He.eqO (PySem.W.nsIn K mainGlobals x) (some (some (.ref (He.ga K x)))) && (oexIn K (He.ga K x) && (PySem.W.keepIn K (.ref (He.ga K x)) &&
  (decide (PySem.W.subIn K (.ref (He.ga K x)) (.type "BaseException") = some true) && (decide (PySem.W.typeIn K (.ref (He.ga K x)) = some (.type "type")) && (PySem.W.isClsIn K (He.ga K x) && (PySem.W.hasDictIn K (He.ga K x) &&
  (He.eqO (PySem.W.findIn K (.ref (He.ga K x)) "__getattribute__") (some (some (.builtin "BaseException.__getattribute__"))) && (He.eqO (PySem.W.findIn K (.ref (He.ga K x)) "__getattr__") (some none) &&
  (He.eqO (PySem.W.findIn K (.ref (He.ga K x)) "__class__") (some (some (.builtin "object.__class__"))) && (decide (PySem.W.mroIn K (He.ga K x) (.type "object") = some true) && (decide (PySem.W.subIn K (.ref (He.ga K x)) (.type "ValueError") = some true) &&
  (decide (PySem.W.subIn K (.ref (He.ga K x)) (.ref (He.ga K "MastError")) = some true) && (He.eqO (PySem.W.findIn K (.ref (He.ga K x)) "__setattr__") (some (some (.builtin "object.__setattr__"))) &&
  (decide (PySem.W.subIn K (.ref (He.ga K x)) (.ref (He.ga K x)) = some true) && decide (PySem.W.typeIn K (.ref (He.ma K (He.ga K x) "__init__")) = some (.type "function"))))))))))))))))
structure OexT (K : PySem.W.Frag) (mg : Str → Option Value) (nm : Str) : Prop where
  g : mg nm = some (.ref (He.ga K nm))
  ox : OexC K (He.ga K nm)
  k : PySem.W.keepIn K (.ref (He.ga K nm)) = true
  b : PySem.W.subIn K (.ref (He.ga K nm)) (.type "BaseException") = some true
  t : PySem.W.typeIn K (.ref (He.ga K nm)) = some (.type "type")
  i : PySem.W.isClsIn K (He.ga K nm) = true
  h : PySem.W.hasDictIn K (He.ga K nm) = true
  ga : PySem.W.findIn K (.ref (He.ga K nm)) "__getattribute__" = some (some (.builtin "BaseException.__getattribute__"))
  gg : PySem.W.findIn K (.ref (He.ga K nm)) "__getattr__" = some none
  cl : PySem.W.findIn K (.ref (He.ga K nm)) "__class__" = some (some (.builtin "object.__class__"))
  mo : PySem.W.mroIn K (He.ga K nm) (.type "object") = some true
  v : PySem.W.subIn K (.ref (He.ga K nm)) (.type "ValueError") = some true
  s : PySem.W.subIn K (.ref (He.ga K nm)) (.ref (He.ga K "MastError")) = some true
  me : PySem.W.subIn K (.ref (He.ga K nm)) (.ref (He.ga K nm)) = some true
  ti : PySem.W.typeIn K (.ref (He.ma K (He.ga K nm) "__init__")) = some (.type "function")
theorem oexB_ok {K : PySem.W.Frag} {h : Heap} {mg : Str → Option Value} (X : K.In h) (G : h.Ns mainGlobals mg) {x : Str} (c : oexB K x = true) : OexT K mg x := by
  obtain ⟨c1, c⟩ := He.ba c
  obtain ⟨c2, c⟩ := He.ba c
  obtain ⟨c3, c⟩ := He.ba c
  obtain ⟨c4, c⟩ := He.ba c
  obtain ⟨c5, c⟩ := He.ba c
  obtain ⟨c6, c⟩ := He.ba c
  obtain ⟨c7, c⟩ := He.ba c
  obtain ⟨c8, c⟩ := He.ba c
  obtain ⟨c9, c⟩ := He.ba c
  obtain ⟨c10, c⟩ := He.ba c
  obtain ⟨c11, c⟩ := He.ba c
  obtain ⟨c12, c⟩ := He.ba c
  obtain ⟨c13, c⟩ := He.ba c
  obtain ⟨c14, c⟩ := He.ba c
  obtain ⟨c15, c16⟩ := He.ba c
  have c4 := of_decide_eq_true c4
  have c5 := of_decide_eq_true c5
  exact ⟨PySem.W.mg_of X G (He.eqO_ok c1), ⟨oexIn_ok c2, He.eqO_ok c14, c4, c5, c3⟩, c3, c4, c5, c6, c7, He.eqO_ok c8, He.eqO_ok c9, He.eqO_ok c10, of_decide_eq_true c11, of_decide_eq_true c12, of_decide_eq_true c13, of_decide_eq_true c15, of_decide_eq_true c16⟩
/-! written tuples of texts, dicts of such tuples -/
def isS (v : Value) (k : Str) : Bool := match v with
  | .str x _ => decide (x = k)
  | _ => false
theorem isS_ok {v : Value} {k : Str} (h : isS v k = true) : ∃ t, v = .str k t := by
  unfold isS at h
  split at h
  · rename_i x t
    exact ⟨t, by rw [of_decide_eq_true h]⟩
  · cases h
def strsIn : List Value → List Str → Bool
  | [], [] => true
  | v :: r, k :: ks => isS v k && strsIn r ks
  | _, _ => false
theorem strsIn_ok : ∀ {its : List Value} {ks : List Str}, strsIn its ks = true → Vals (ks.map V.str) its
  | [], [], _ => .nil
  | v :: r, k :: ks, h => by
    obtain ⟨h1, h2⟩ := He.ba h
    obtain ⟨t, rfl⟩ := isS_ok h1
    exact .cons ⟨t, rfl⟩ (strsIn_ok h2)
  | [], _ :: _, h => by cases h
  | _ :: _, [], h => by cases h
def tupIn (K : PySem.W.Frag) (a : Addr) (ks : List Str) : Bool := match K.lookup a with
  | some ⟨.type "tuple", _, .seq its _, _⟩ => decide (its.size ≤ sizeLine) && strsIn its.toList ks
  | _ => false
theorem tupIn_ok {K : PySem.W.Frag} {a : Addr} {ks : List Str} (h : tupIn K a ks = true) : KTup K a ks := by
  unfold tupIn at h
  split at h
  · rename_i dd its n sl ho
    obtain ⟨h1, h2⟩ := He.ba h
    exact ⟨_, its, n, ho, rfl, rfl, of_decide_eq_true h1, strsIn_ok h2⟩
  · cases h
def tupB (K : PySem.W.Frag) (p : Str × List Str) : Bool := He.eqO (PySem.W.nsIn K mainGlobals p.1) (some (some (.ref (He.ga K p.1)))) && tupIn K (He.ga K p.1) p.2
def keysIn : List DictEntry → List Str → Bool
  | [], [] => true
  | e :: r, k :: ks => isS e.key k && keysIn r ks
  | _, _ => false
theorem keysIn_ok : ∀ {l : List DictEntry} {ks : List Str}, keysIn l ks = true → KeysAre l ks
  | [], [], _ => trivial
  | v :: r, k :: ks, h => by
    obtain ⟨h1, h2⟩ := He.ba h
    exact ⟨isS_ok h1, keysIn_ok h2⟩
  | [], _ :: _, h => by cases h
  | _ :: _, [], h => by cases h
def dEs (K : PySem.W.Frag) (a : Addr) : Array DictEntry := match K.lookup a with
  | some ⟨_, _, .dict es _, _⟩ => es
  | _ => #[]
def dN (K : PySem.W.Frag) (a : Addr) : Nat := match K.lookup a with
  | some ⟨_, _, .dict _ n, _⟩ => n
  | _ => 0
def dicIn (K : PySem.W.Frag) (a : Addr) (ks : List Str) : Bool := match K.lookup a with
  | some ⟨.type "dict", none, .dict es _, sl⟩ => sl.toList.isEmpty && keysIn es.toList ks
  | _ => false
theorem dicIn_ok {K : PySem.W.Frag} {a : Addr} {ks : List Str} (h : dicIn K a ks = true) : K.lookup a = some ⟨.type "dict", none, .dict (dEs K a) (dN K a), #[]⟩ ∧ KeysAre (dEs K a).toList ks := by
  unfold dicIn at h
  split at h
  · rename_i es n sl ho
    obtain ⟨h1, h2⟩ := He.ba h
    obtain ⟨l⟩ := sl
    cases l with
    | cons _ _ => cases h1
    | nil =>
      have e1 : dEs K a = es := by unfold dEs; rw [ho]
      have e2 : dN K a = n := by unfold dN; rw [ho]
      rw [e1, e2, ho]
      exact ⟨rfl, keysIn_ok h2⟩
  · cases h
def partIn (K : PySem.W.Frag) (a : Addr) (q : Str × List Str) : Bool := match PySem.W.nsIn K a q.1 with
  | some (some (.ref b)) => tupIn K b q.2
  | _ => false
theorem partIn_ok {K : PySem.W.Frag} {a : Addr} {q : Str × List Str} (h : partIn K a q = true) : PartK K a q.1 q.2 := by
  unfold partIn at h
  split at h
  · rename_i b ho
    exact ⟨b, ho, tupIn_ok h⟩
  · cases h
abbrev DicL := List (Str × List (Str × List Str))
def dicB (K : PySem.W.Frag) (p : Str × List (Str × List Str)) : Bool := He.eqO (PySem.W.nsIn K mainGlobals p.1) (some (some (.ref (He.ga K p.1)))) && (dicIn K (He.ga K p.1) (p.2.map (·.1)) && (p.2.all (partIn K (He.ga K p.1)) && decide ((He.ga K p.1 == sysModules) = false)))
structure DicT (K : PySem.W.Frag) (mg : Str → Option Value) (p : Str × List (Str × List Str)) : Prop where
  g : mg p.1 = some (.ref (He.ga K p.1))
  at_ : K.lookup (He.ga K p.1) = some ⟨.type "dict", none, .dict (dEs K (He.ga K p.1)) (dN K (He.ga K p.1)), #[]⟩
  ka : KeysAre (dEs K (He.ga K p.1)).toList (p.2.map (·.1))
  pk : ∀ q ∈ p.2, PartK K (He.ga K p.1) q.1 q.2
  low : (He.ga K p.1 == sysModules) = false
theorem dicB_ok {K : PySem.W.Frag} {h : Heap} {mg : Str → Option Value} (X : K.In h) (G : h.Ns mainGlobals mg) {p : Str × List (Str × List Str)} (c : dicB K p = true) : DicT K mg p := by
  obtain ⟨c1, c⟩ := He.ba c
  obtain ⟨c2, c⟩ := He.ba c
  obtain ⟨c3, c4⟩ := He.ba c
  obtain ⟨d1, d2⟩ := dicIn_ok c2
  exact ⟨PySem.W.mg_of X G (He.eqO_ok c1), d1, d2, fun q hq => partIn_ok (List.all_eq_true.mp c3 q hq), of_decide_eq_true c4⟩
/-- all that is checked, but for the defs -/
structure FactsB where
  fa : List He.Fa
  exc : List Str
  kind : List Str
  al : List (Str × Str)
  oex : List Str
  isi : List Str
  tup : List (Str × List Str)
  dic : DicL
def isiB (K : PySem.W.Frag) (x : Str) : Bool := He.eqO (PySem.W.findIn K (.ref (He.ga K x)) "__class__") (some (some (.builtin "object.__class__"))) && decide (PySem.W.mroIn K (He.ga K x) (.type "object") = some true)
def FactsB.ok (F : FactsB) (K : PySem.W.Frag) : Bool := (F.fa.all fun f => f.ok K) && (F.exc.all (excB K) && (kindB K F.kind && (F.al.all (aliasB K) && (exObj K && (F.oex.all (oexB K) && (F.isi.all (isiB K) && (F.tup.all (tupB K) && F.dic.all (dicB K))))))))
def obsB (as : List Addr) (F : FactsB) (fn : List He.DefD) (g : Addr → Option Obj) : Bool × List He.FnW := (F.ok (He.frG g as) && fn.all (fun d => d.ok (He.frG g as)), fn.map fun d => He.fnW (He.frG g as) d.at_)
structure SaysB (F : FactsB) (fn : List He.DefD) (K : PySem.W.Frag) : Prop where
  ok : F.ok K = true
  fn : ∀ d ∈ fn, d.ok K = true ∧ He.fnW K d.at_ = d.val
theorem map_eq_of {α β : Type} {f g : α → β} : ∀ {l : List α}, l.map f = l.map g → ∀ x ∈ l, f x = g x
  | [], _, x, h => nomatch h
  | y :: r, e, x, h => by
    rw [List.map_cons, List.map_cons] at e
    injection e with e1 e2
    rcases List.mem_cons.mp h with rfl | h
    · exact e1
    · exact map_eq_of e2 x h
theorem saysB_of {as : List Addr} {F : FactsB} {fn : List He.DefD} {g : Addr → Option Obj} (e : obsB as F fn g = (true, fn.map He.DefD.val)) : SaysB F fn (He.frG g as) := by
  have e1 : (F.ok (He.frG g as) && fn.all (fun d => d.ok (He.frG g as))) = true := congrArg (fun z : Bool × List He.FnW => z.1) e
  have e2 : fn.map (fun d => He.fnW (He.frG g as) d.at_) = fn.map He.DefD.val := congrArg (fun z : Bool × List He.FnW => z.2) e
  obtain ⟨h1, h2⟩ := He.ba e1
  exact ⟨h1, fun d hd => ⟨List.all_eq_true.mp h2 d hd, map_eq_of e2 d hd⟩⟩
def hookB (as : List Addr) (F : FactsB) (fn : List He.DefD) : PySem.W.Hook where
  α := Bool × List He.FnW
  obs := fun s => obsB as F fn s.heap.get?
  val := fun _ => (true, fn.map He.DefD.val)
  says := fun _ h => ∃ K : PySem.W.Frag, K.In h ∧ SaysB F fn K
  of := fun _ _ e => ⟨_, He.frG_in, saysB_of e⟩
  keeps := fun _ _ _ ⟨K, hK, c⟩ k => ⟨K, PySem.W.Frag.In.keeps hK k, c⟩
theorem obsB_eq {as : List Addr} {F : FactsB} {fn : List He.DefD} {g : Addr → Option Obj} {s : Shared} (h : ∀ a, g a = s.heap.get? a) : obsB as F fn g = (hookB as F fn).obs s := by
  have e : g = s.heap.get? := funext h
  rw [e] <;> rfl
theorem fun_ofD {K : PySem.W.Frag} {x q : Str} {st : Stmt} {kws : List (Str × V)} {f : Addr} {fd : FuncData} (F : FunD K x q (defArgs st) (defBody st) (defScope st) [] kws f fd) : Fun K x q st f fd := by
  obtain ⟨oc, od, dV, kV, doc, pm, an, cdv, ct, osl, rfl, lk, hcd, hD, hK⟩ := F.ex
  rcases hD with ⟨_, rfl⟩ | ⟨e, _⟩
  · exact ⟨⟨oc, od, kV, doc, pm, an, cdv, ct, osl, rfl, lk, hcd⟩, F.kp⟩
  · exact absurd rfl e
def fdOf (K : PySem.W.Frag) (f : Addr) : FuncData := match K.lookup f with
  | some ⟨_, _, .func fd, _⟩ => fd
  | _ => default
theorem fun_fd {K : PySem.W.Frag} {x q : Str} {st : Stmt} {f : Addr} {fd : FuncData} (F : Fun K x q st f fd) : fd = fdOf K f := by
  obtain ⟨oc, od, kV, doc, pm, an, cdv, ct, osl, rfl, lk, hcd⟩ := F.ex
  unfold fdOf
  rw [lk]
/-- what a law over a large top leans on -/
structure TopB (F : FactsB) (fn : List He.DefD) (K : PySem.W.Frag) (mg : Str → Option Value) : Prop where
  base : ∃ h : Heap, K.In h ∧ h.Ns mainGlobals mg
  says : SaysB F fn K
section
variable {F : FactsB} {fn : List He.DefD} {K : PySem.W.Frag} {mg : Str → Option Value}
theorem TopB.one (T : TopB F fn K mg) {f : He.Fa} (i : Nat) (h : F.fa[i]? = some f) : f.ok K = true :=
  List.all_eq_true.mp (He.ba T.says.ok).1 f (List.mem_of_getElem? h)
theorem TopB.glo (T : TopB F fn K mg) {x : Str} (i : Nat) (h : F.fa[i]? = some (.glo x)) : mg x = some (.ref (He.ga K x)) := by
  obtain ⟨h0, X, G⟩ := T.base
  exact He.glo_ok X G (T.one i h)
theorem TopB.free (T : TopB F fn K mg) {x : Str} (i : Nat) (h : F.fa[i]? = some (.free x)) : mg x = none := by
  obtain ⟨h0, X, G⟩ := T.base
  exact He.free_ok X G (T.one i h)
theorem TopB.int (T : TopB F fn K mg) {x : Str} {z : Int} (i : Nat) (h : F.fa[i]? = some (.int x z)) : mg x = some ((mg x).getD .none) ∧ RelV (.int z) ((mg x).getD .none) := by
  obtain ⟨h0, X, G⟩ := T.base
  obtain ⟨t, e⟩ := He.int_ok X G (T.one i h)
  rw [e]
  exact ⟨rfl, t, rfl⟩
theorem TopB.str (T : TopB F fn K mg) {x z : Str} (i : Nat) (h : F.fa[i]? = some (.str x z)) : mg x = some ((mg x).getD .none) ∧ RelV (.str z) ((mg x).getD .none) := by
  obtain ⟨h0, X, G⟩ := T.base
  obtain ⟨t, e⟩ := He.str_ok X G (T.one i h)
  rw [e]
  exact ⟨rfl, t, rfl⟩
theorem TopB.exc (T : TopB F fn K mg) {x : Str} (i : Nat) (h : F.exc[i]? = some x) : ExcT K mg x := by
  obtain ⟨h0, X, G⟩ := T.base
  exact excB_ok X G (List.all_eq_true.mp (He.ba (He.ba T.says.ok).2).1 x (List.mem_of_getElem? h))
theorem TopB.kinds (T : TopB F fn K mg) : kindB K F.kind = true := (He.ba (He.ba (He.ba T.says.ok).2).2).1
theorem TopB.ali (T : TopB F fn K mg) {p : Str × Str} (i : Nat) (h : F.al[i]? = some p) : mg p.1 = some (.ref (He.ga K p.2)) := by
  obtain ⟨h0, X, G⟩ := T.base
  have c := (He.ba (He.ba (He.ba (He.ba T.says.ok).2).2).2).1
  exact PySem.W.mg_of X G (He.eqO_ok (List.all_eq_true.mp c p (List.mem_of_getElem? h)))
theorem TopB.oget (T : TopB F fn K mg) : PySem.W.specialIn K (.builtin "object.__class__") "__get__" = some (some (.builtin "getset_descriptor.__get__")) := He.eqO_ok (He.ba (He.ba (He.ba (He.ba (He.ba (He.ba T.says.ok).2).2).2).2).1).1
theorem TopB.otak (T : TopB F fn K mg) : PySem.W.takesIn K (.builtin "object.__class__") = some true := of_decide_eq_true (He.ba (He.ba (He.ba (He.ba (He.ba (He.ba T.says.ok).2).2).2).2).1).2
theorem TopB.oexc (T : TopB F fn K mg) {x : Str} (i : Nat) (h : F.oex[i]? = some x) : OexT K mg x := by
  obtain ⟨h0, X, G⟩ := T.base
  exact oexB_ok X G (List.all_eq_true.mp (He.ba (He.ba (He.ba (He.ba (He.ba (He.ba T.says.ok).2).2).2).2).2).1 x (List.mem_of_getElem? h))
theorem TopB.isi (T : TopB F fn K mg) {x : Str} (i : Nat) (h : F.isi[i]? = some x) : PySem.W.findIn K (.ref (He.ga K x)) "__class__" = some (some (.builtin "object.__class__")) ∧ PySem.W.mroIn K (He.ga K x) (.type "object") = some true :=
  let c := He.ba (List.all_eq_true.mp (He.ba (He.ba (He.ba (He.ba (He.ba (He.ba (He.ba T.says.ok).2).2).2).2).2).2).1 x (List.mem_of_getElem? h))
  ⟨He.eqO_ok c.1, of_decide_eq_true c.2⟩
theorem TopB.tupc (T : TopB F fn K mg) {p : Str × List Str} (i : Nat) (h : F.tup[i]? = some p) : mg p.1 = some (.ref (He.ga K p.1)) ∧ KTup K (He.ga K p.1) p.2 := by
  obtain ⟨h0, X, G⟩ := T.base
  obtain ⟨c1, c2⟩ := He.ba (List.all_eq_true.mp (He.ba (He.ba (He.ba (He.ba (He.ba (He.ba (He.ba (He.ba T.says.ok).2).2).2).2).2).2).2).1 p (List.mem_of_getElem? h))
  exact ⟨PySem.W.mg_of X G (He.eqO_ok c1), tupIn_ok c2⟩
theorem TopB.dic (T : TopB F fn K mg) {p : Str × List (Str × List Str)} (i : Nat) (h : F.dic[i]? = some p) : DicT K mg p := by
  obtain ⟨h0, X, G⟩ := T.base
  exact dicB_ok X G (List.all_eq_true.mp (He.ba (He.ba (He.ba (He.ba (He.ba (He.ba (He.ba (He.ba T.says.ok).2).2).2).2).2).2).2).2 p (List.mem_of_getElem? h))
theorem TopB.fun_ (T : TopB F fn K mg) {a : Str × Option Str} {x q : Str} {st : Stmt} (i : Nat) (h : fn[i]? = some ⟨a, x, q, defArgs st, defBody st, defScope st, [], []⟩) : Fun K x q st (He.fAd K a) (fdOf K (He.fAd K a)) := by
  obtain ⟨h1, h2⟩ := T.says.fn _ (List.mem_of_getElem? h)
  obtain ⟨fd, D⟩ := He.DefD.funD h2 h1
  have D2 := fun_ofD (K := K) (x := x) (q := q) (st := st) D
  rw [← fun_fd D2]
  exact D2
end

/-! ### a large top whose defs' tables are known -/
def obsBT (as : List Addr) (F : FactsB) (fn : List He.DefD) (tf : List He.Defn) (g : Addr → Option Obj) : Bool × List He.FnW := ((F.ok (He.frT g as) && fn.all (fun d => d.ok (He.frT g as))) && He.tabsB g tf (He.frT g as), fn.map fun d => He.fnW (He.frT g as) d.at_)
structure SaysBT (F : FactsB) (fn : List He.DefD) (tf : List He.Defn) (h : Heap) (K : PySem.W.Frag) : Prop where
  b : SaysB F fn K
  hd : ∀ p ∈ tf, PySem.W.codeHdIn K (He.cT K p).1 (He.cT K p).2 = true
  out : ∀ p ∈ tf, K.lookup (He.cT K p).2 = none
  empty : ∀ p ∈ tf, h.get? (He.cT K p).2 = some { cls := .none, data := .fields #[] }
theorem saysBT_of {as : List Addr} {F : FactsB} {fn : List He.DefD} {tf : List He.Defn} {h : Heap} (e : obsBT as F fn tf h.get? = (true, fn.map He.DefD.val)) : SaysBT F fn tf h (He.frT h.get? as) := by
  have e1 : ((F.ok (He.frT h.get? as) && fn.all (fun d => d.ok (He.frT h.get? as))) && He.tabsB h.get? tf (He.frT h.get? as)) = true := congrArg (fun z : Bool × List He.FnW => z.1) e
  have e2 : fn.map (fun d => He.fnW (He.frT h.get? as) d.at_) = fn.map He.DefD.val := congrArg (fun z : Bool × List He.FnW => z.2) e
  obtain ⟨h0, h3⟩ := He.ba e1
  obtain ⟨h1, h2⟩ := He.ba h0
  have key : ∀ p ∈ tf, PySem.W.codeHdIn (He.frT h.get? as) (He.cT (He.frT h.get? as) p).1 (He.cT (He.frT h.get? as) p).2 = true ∧ ∃ o, h.get? (He.cT (He.frT h.get? as) p).2 = some o ∧ He.emptyTab o = true := fun p hp => by
    obtain ⟨h4, h5⟩ := He.ba (List.all_eq_true.mp h3 p hp)
    refine ⟨h4, ?_⟩
    cases q : h.get? (He.cT (He.frT h.get? as) p).2 with
    | none =>
      rw [q] at h5
      cases h5
    | some o =>
      rw [q] at h5
      exact ⟨o, rfl, h5⟩
  exact ⟨⟨h1, fun d hd => ⟨List.all_eq_true.mp h2 d hd, map_eq_of e2 d hd⟩⟩, fun p hp => (key p hp).1, fun p hp => by
    obtain ⟨_, o, q, z⟩ := key p hp
    exact He.frT_none q z, fun p hp => by
    obtain ⟨_, o, q, z⟩ := key p hp
    rw [q, He.emptyTab_eq z]⟩
def hookBT (as : List Addr) (F : FactsB) (fn : List He.DefD) (tf : List He.Defn) : PySem.W.Hook where
  α := Bool × List He.FnW
  obs := fun s => obsBT as F fn tf s.heap.get?
  val := fun _ => (true, fn.map He.DefD.val)
  says := fun _ h => ∃ K : PySem.W.Frag, K.In h ∧ SaysBT F fn tf h K
  of := fun _ _ e => ⟨_, He.frT_in, saysBT_of e⟩
  keeps := fun _ _ _ ⟨K, hK, c⟩ k => ⟨K, PySem.W.Frag.In.keeps hK k, ⟨c.b, c.hd, c.out, fun p hp => k _ _ (c.empty p hp)⟩⟩
theorem obsBT_eq {as : List Addr} {F : FactsB} {fn : List He.DefD} {tf : List He.Defn} {g : Addr → Option Obj} {s : Shared} (h : ∀ a, g a = s.heap.get? a) : obsBT as F fn tf g = (hookBT as F fn tf).obs s := by
  have e : g = s.heap.get? := funext h
  rw [e] <;> rfl
/-! ### the run in two: what is there, and what the defs are -/
def topA (as : List Addr) (F : FactsB) (tf : List He.Defn) (g : Addr → Option Obj) : Bool := F.ok (He.frT g as) && He.tabsB g tf (He.frT g as)
def topF (as : List Addr) (fn : List He.DefD) (g : Addr → Option Obj) : Bool × List He.FnW := (fn.all (fun d => d.ok (He.frT g as)), fn.map fun d => He.fnW (He.frT g as) d.at_)
theorem obsBT_two {as : List Addr} {F : FactsB} {fn : List He.DefD} {tf : List He.Defn} {g : Addr → Option Obj} (h1 : topA as F tf g = true) (h2 : topF as fn g = (true, fn.map He.DefD.val)) : obsBT as F fn tf g = (true, fn.map He.DefD.val) := by
  obtain ⟨a, b⟩ := He.ba h1
  have e1 : fn.all (fun d => d.ok (He.frT g as)) = true := congrArg (fun z : Bool × List He.FnW => z.1) h2
  have e2 : fn.map (fun d => He.fnW (He.frT g as) d.at_) = fn.map He.DefD.val := congrArg (fun z : Bool × List He.FnW => z.2) h2
  unfold obsBT
  rw [a, b, e1, e2]
  rfl
section
open PySem.W PySem.Calls HandSHeadRun
def TopRunA (r : OpenRow) (q : Program) (oa : SharedT → Bool) (M : Nat) (loose : List PySem.Str) (w : World) : Prop :=
  ∀ os : OsState, (endF (stepQ (denQ tabQ) r.prog w) M r.prog w os).map (fun s => (looksF r.prog (boot_heap w.params) s.abs, seenQ q loose (importedModules r.prog.main.body) (fun s => xlAt q [] s && recOk r.toRowW.records s) s.abs, oa s)) = some (true, openGood q loose, true)
def TopRunF {α : Type} (r : OpenRow) (of : SharedT → α) (v : α) (M : Nat) (w : World) : Prop :=
  ∀ os : OsState, (endF (stepQ (denQ tabQ) r.prog w) M r.prog w os).map of = some v
def TopRunS (r : OpenRow) (q : Program) (M : Nat) (loose : List PySem.Str) (w : World) : Prop :=
  ∀ os : OsState, (endF (stepQ (denQ tabQ) r.prog w) M r.prog w os).map (fun s => (looksF r.prog (boot_heap w.params) s.abs, seenQ q loose (importedModules r.prog.main.body) (fun s => xlAt q [] s && recOk r.toRowW.records s) s.abs)) = some (true, openGood q loose)
theorem top_run_three {r : OpenRow} {q : Program} {H : Hook} {ob : SharedT → H.α} {M : Nat} {loose : List PySem.Str} {w : World} {α : Type} {oa : SharedT → Bool} {of : SharedT → α} {v : α} (b : TopRunS r q M loose w) (a : TopRunF r oa true M w) (f : TopRunF r of v M w) (e : ∀ s, oa s = true → of s = v → ob s = H.val w) : RunEq r q H ob M loose w := by
  intro os
  obtain ⟨s, hs, eb⟩ := Option.map_eq_some_iff.mp (b os)
  have f1 := f os
  have a1 := a os
  rw [hs, Option.map_some] at f1 a1
  rw [hs, Option.map_some]
  injection eb with e1 e2
  rw [e1, e2, e s (Option.some.inj a1) (Option.some.inj f1)]
theorem top_run_two {r : OpenRow} {q : Program} {H : Hook} {ob : SharedT → H.α} {M : Nat} {loose : List PySem.Str} {w : World} {α : Type} {oa : SharedT → Bool} {of : SharedT → α} {v : α} (a : TopRunA r q oa M loose w) (f : TopRunF r of v M w) (e : ∀ s, oa s = true → of s = v → ob s = H.val w) : RunEq r q H ob M loose w := by
  intro os
  obtain ⟨s, hs, ea⟩ := Option.map_eq_some_iff.mp (a os)
  have f1 := f os
  rw [hs, Option.map_some] at f1
  rw [hs, Option.map_some]
  injection ea with e1 e2
  injection e2 with e2 e3
  rw [e1, e2, e s e3 (Option.some.inj f1)]
end

def top (i : Nat) : Stmt := PySem.Challenge.pw_mastword_k35_whole_slips_hold_the_true.main.body.getD i (.Pass ⟨0, 0, 0, 0⟩)
abbrev s_p_reason : Stmt := top 4
theorem sc_p_reason : FnScope ["shown", "waits", "asleep", "fogs", "place"] ["shown", "waits", "asleep", "fogs", "place"] (defScope s_p_reason) := ⟨rfl, rfl, rfl, by decide +kernel, rfl, by decide +kernel, by decide +kernel⟩
abbrev s_p_hindrance_behind : Stmt := top 5
theorem sc_p_hindrance_behind : FnScope ["shown", "waits", "fogs", "place", "rests"] ["shown", "waits", "fogs", "place"] (defScope s_p_hindrance_behind) := ⟨rfl, rfl, rfl, by decide +kernel, rfl, by decide +kernel, by decide +kernel⟩
abbrev s_p_hindrance_ahead : Stmt := top 6
theorem sc_p_hindrance_ahead : FnScope ["shown", "fogs", "place", "rests"] ["shown", "fogs", "place"] (defScope s_p_hindrance_ahead) := ⟨rfl, rfl, rfl, by decide +kernel, rfl, by decide +kernel, by decide +kernel⟩
abbrev s_p_ready : Stmt := top 7
theorem sc_p_ready : FnScope ["shown", "waits", "asleep", "fogs", "place"] ["shown", "waits", "asleep", "fogs"] (defScope s_p_ready) := ⟨rfl, rfl, rfl, by decide +kernel, rfl, by decide +kernel, by decide +kernel⟩
abbrev s_p_is_sign : Stmt := top 32
theorem sc_p_is_sign : FnScope ["number"] ["number"] (defScope s_p_is_sign) := ⟨rfl, rfl, rfl, by decide +kernel, rfl, by decide +kernel, by decide +kernel⟩
abbrev s_p_check_signs : Stmt := top 33
theorem sc_p_check_signs : FnScope ["numbers", "number"] ["numbers"] (defScope s_p_check_signs) := ⟨rfl, rfl, rfl, by decide +kernel, rfl, by decide +kernel, by decide +kernel⟩
abbrev s_p_is_word : Stmt := top 36
theorem sc_p_is_word : FnScope ["text", "letter"] ["text"] (defScope s_p_is_word) := ⟨rfl, rfl, rfl, by decide +kernel, rfl, by decide +kernel, by decide +kernel⟩
abbrev s_p_check_word : Stmt := top 37
theorem sc_p_check_word : FnScope ["text"] ["text"] (defScope s_p_check_word) := ⟨rfl, rfl, rfl, by decide +kernel, rfl, by decide +kernel, by decide +kernel⟩
abbrev s_p_check_place : Stmt := top 38
theorem sc_p_check_place : FnScope ["page", "line"] ["page", "line"] (defScope s_p_check_place) := ⟨rfl, rfl, rfl, by decide +kernel, rfl, by decide +kernel, by decide +kernel⟩
abbrev s_p_Phrasebook_init : Stmt := inClass (top 39) 0
theorem sc_p_Phrasebook_init : FnScope ["self"] ["self"] (defScope s_p_Phrasebook_init) := ⟨rfl, rfl, rfl, by decide +kernel, rfl, by decide +kernel, by decide +kernel⟩
abbrev s_p_Phrasebook_enter : Stmt := inClass (top 39) 1
theorem sc_p_Phrasebook_enter : FnScope ["self", "page", "line", "word"] ["self", "page", "line", "word"] (defScope s_p_Phrasebook_enter) := ⟨rfl, rfl, rfl, by decide +kernel, rfl, by decide +kernel, by decide +kernel⟩
abbrev s_p_Phrasebook_strike : Stmt := inClass (top 39) 2
theorem sc_p_Phrasebook_strike : FnScope ["self", "page", "line", "word"] ["self", "page", "line"] (defScope s_p_Phrasebook_strike) := ⟨rfl, rfl, rfl, by decide +kernel, rfl, by decide +kernel, by decide +kernel⟩
abbrev s_p_Phrasebook_word_at : Stmt := inClass (top 39) 4
theorem sc_p_Phrasebook_word_at : FnScope ["self", "page", "line"] ["self", "page", "line"] (defScope s_p_Phrasebook_word_at) := ⟨rfl, rfl, rfl, by decide +kernel, rfl, by decide +kernel, by decide +kernel⟩
abbrev s_p_Phrasebook_words : Stmt := inClass (top 39) 5
theorem sc_p_Phrasebook_words : FnScope ["self", "word", "page", "line"] ["self"] (defScope s_p_Phrasebook_words) := ⟨rfl, rfl, rfl, by decide +kernel, rfl, by decide +kernel, by decide +kernel⟩
abbrev s_p_check_way : Stmt := top 45
theorem sc_p_check_way : FnScope ["way"] ["way"] (defScope s_p_check_way) := ⟨rfl, rfl, rfl, by decide +kernel, rfl, by decide +kernel, by decide +kernel⟩
abbrev s_p_check_mast : Stmt := top 46
theorem sc_p_check_mast : FnScope ["masts", "mast"] ["masts", "mast"] (defScope s_p_check_mast) := ⟨rfl, rfl, rfl, by decide +kernel, rfl, by decide +kernel, by decide +kernel⟩
abbrev s_p_place_of : Stmt := top 48
theorem sc_p_place_of : FnScope ["way", "masts", "mast"] ["way", "masts", "mast"] (defScope s_p_place_of) := ⟨rfl, rfl, rfl, by decide +kernel, rfl, by decide +kernel, by decide +kernel⟩
abbrev s_p_mast_at : Stmt := top 49
theorem sc_p_mast_at : FnScope ["way", "masts", "place"] ["way", "masts", "place"] (defScope s_p_mast_at) := ⟨rfl, rfl, rfl, by decide +kernel, rfl, by decide +kernel, by decide +kernel⟩
abbrev s_p_along : Stmt := top 50
theorem sc_p_along : FnScope ["way", "row"] ["way", "row"] (defScope s_p_along) := ⟨rfl, rfl, rfl, by decide +kernel, rfl, by decide +kernel, by decide +kernel⟩
abbrev s_p_deed_text : Stmt := top 52
theorem sc_p_deed_text : FnScope ["deed", "part"] ["deed"] (defScope s_p_deed_text) := ⟨rfl, rfl, rfl, by decide +kernel, rfl, by decide +kernel, by decide +kernel⟩
abbrev s_p_stretches : Stmt := top 54
theorem sc_p_stretches : FnScope ["values", "legible", "place", "sign", "found", "first", "written", "second", "other"] ["values"] (defScope s_p_stretches) := ⟨rfl, rfl, rfl, by decide +kernel, rfl, by decide +kernel, by decide +kernel⟩
abbrev s_p_Motion_init : Stmt := inClass (top 56) 0
theorem sc_p_Motion_init : FnScope ["self", "shown", "queue", "sleepers", "fogged", "place"] ["self", "shown", "queue", "sleepers", "fogged"] (defScope s_p_Motion_init) := ⟨rfl, rfl, rfl, by decide +kernel, rfl, by decide +kernel, by decide +kernel⟩
abbrev s_p_Motion_why : Stmt := inClass (top 56) 1
theorem sc_p_Motion_why : FnScope ["self", "place"] ["self", "place"] (defScope s_p_Motion_why) := ⟨rfl, rfl, rfl, by decide +kernel, rfl, by decide +kernel, by decide +kernel⟩
abbrev s_p_Motion_ready_places : Stmt := inClass (top 56) 2
theorem sc_p_Motion_ready_places : FnScope ["self"] ["self"] (defScope s_p_Motion_ready_places) := ⟨rfl, rfl, rfl, by decide +kernel, rfl, by decide +kernel, by decide +kernel⟩
abbrev s_p_Motion_coming : Stmt := inClass (top 56) 4
theorem sc_p_Motion_coming : FnScope ["self", "place"] ["self", "place"] (defScope s_p_Motion_coming) := ⟨rfl, rfl, rfl, by decide +kernel, rfl, by decide +kernel, by decide +kernel⟩
abbrev s_p_Motion_raise_arms : Stmt := inClass (top 56) 5
theorem sc_p_Motion_raise_arms : FnScope ["self", "place", "seen", "shows"] ["self", "place", "seen", "shows"] (defScope s_p_Motion_raise_arms) := ⟨rfl, rfl, rfl, by decide +kernel, rfl, by decide +kernel, by decide +kernel⟩
abbrev s_p_Motion_move : Stmt := inClass (top 56) 6
theorem sc_p_Motion_move : FnScope ["self", "place", "sign"] ["self", "place"] (defScope s_p_Motion_move) := ⟨rfl, rfl, rfl, by decide +kernel, rfl, by decide +kernel, by decide +kernel⟩
abbrev s_p_queue_of : Stmt := top 63
theorem sc_p_queue_of : FnScope ["way"] ["way"] (defScope s_p_queue_of) := ⟨rfl, rfl, rfl, by decide +kernel, rfl, by decide +kernel, by decide +kernel⟩
abbrev s_p_book_of : Stmt := top 64
theorem sc_p_book_of : FnScope ["way", "mast"] ["way", "mast"] (defScope s_p_book_of) := ⟨rfl, rfl, rfl, by decide +kernel, rfl, by decide +kernel, by decide +kernel⟩
abbrev s_p_new_rows : Stmt := top 65
theorem sc_p_new_rows : FnScope ["masts", "rows", "way", "mast"] ["masts"] (defScope s_p_new_rows) := ⟨rfl, rfl, rfl, by decide +kernel, rfl, by decide +kernel, by decide +kernel⟩
abbrev s_p_State_init : Stmt := inClass (top 66) 0
theorem sc_p_State_init : FnScope ["self", "masts"] ["self", "masts"] (defScope s_p_State_init) := ⟨rfl, rfl, rfl, by decide +kernel, rfl, by decide +kernel, by decide +kernel⟩
abbrev s_p_State_copied : Stmt := inClass (top 66) 1
theorem sc_p_State_copied : FnScope ["self", "other", "where", "page", "line", "word"] ["self"] (defScope s_p_State_copied) := ⟨rfl, rfl, rfl, by decide +kernel, rfl, by decide +kernel, by decide +kernel⟩
abbrev s_p_State_make : Stmt := inClass (top 66) 2
theorem sc_p_State_make : FnScope ["self", "changes", "where", "at", "taken", "put"] ["self", "changes"] (defScope s_p_State_make) := ⟨rfl, rfl, rfl, by decide +kernel, rfl, by decide +kernel, by decide +kernel⟩
abbrev s_p_State_swap : Stmt := inClass (top 66) 4
theorem sc_p_State_swap : FnScope ["self", "where", "at", "taken", "put", "row"] ["self", "where", "at", "taken", "put"] (defScope s_p_State_swap) := ⟨rfl, rfl, rfl, by decide +kernel, rfl, by decide +kernel, by decide +kernel⟩
abbrev s_p_State_swap_word : Stmt := inClass (top 66) 5
theorem sc_p_State_swap_word : FnScope ["self", "at", "taken", "put", "page", "line"] ["self", "at", "taken", "put"] (defScope s_p_State_swap_word) := ⟨rfl, rfl, rfl, by decide +kernel, rfl, by decide +kernel, by decide +kernel⟩
abbrev s_p_State_size : Stmt := inClass (top 66) 6
theorem sc_p_State_size : FnScope ["self"] ["self"] (defScope s_p_State_size) := ⟨rfl, rfl, rfl, by decide +kernel, rfl, by decide +kernel, by decide +kernel⟩
abbrev s_p_State_check_mast : Stmt := inClass (top 66) 7
theorem sc_p_State_check_mast : FnScope ["self", "mast"] ["self", "mast"] (defScope s_p_State_check_mast) := ⟨rfl, rfl, rfl, by decide +kernel, rfl, by decide +kernel, by decide +kernel⟩
abbrev s_p_State_check_gap : Stmt := inClass (top 66) 8
theorem sc_p_State_check_gap : FnScope ["self", "gap"] ["self", "gap"] (defScope s_p_State_check_gap) := ⟨rfl, rfl, rfl, by decide +kernel, rfl, by decide +kernel, by decide +kernel⟩
abbrev s_p_State_check_book : Stmt := inClass (top 66) 9
theorem sc_p_State_check_book : FnScope ["self", "mast"] ["self", "mast"] (defScope s_p_State_check_book) := ⟨rfl, rfl, rfl, by decide +kernel, rfl, by decide +kernel, by decide +kernel⟩
abbrev s_p_State_heading : Stmt := inClass (top 66) 10
theorem sc_p_State_heading : FnScope ["self"] ["self"] (defScope s_p_State_heading) := ⟨rfl, rfl, rfl, by decide +kernel, rfl, by decide +kernel, by decide +kernel⟩
abbrev s_p_State_queue_on : Stmt := inClass (top 66) 11
theorem sc_p_State_queue_on : FnScope ["self", "way"] ["self", "way"] (defScope s_p_State_queue_on) := ⟨rfl, rfl, rfl, by decide +kernel, rfl, by decide +kernel, by decide +kernel⟩
abbrev s_p_State_marked : Stmt := inClass (top 66) 12
theorem sc_p_State_marked : FnScope ["self", "where", "number", "so"] ["self", "where"] (defScope s_p_State_marked) := ⟨rfl, rfl, rfl, by decide +kernel, rfl, by decide +kernel, by decide +kernel⟩
abbrev s_p_State_place_here : Stmt := inClass (top 66) 13
theorem sc_p_State_place_here : FnScope ["self", "mast"] ["self", "mast"] (defScope s_p_State_place_here) := ⟨rfl, rfl, rfl, by decide +kernel, rfl, by decide +kernel, by decide +kernel⟩
abbrev s_p_State_masts_here : Stmt := inClass (top 66) 14
theorem sc_p_State_masts_here : FnScope ["self", "places", "place"] ["self", "places"] (defScope s_p_State_masts_here) := ⟨rfl, rfl, rfl, by decide +kernel, rfl, by decide +kernel, by decide +kernel⟩
abbrev s_p_State_gaps_here : Stmt := inClass (top 66) 15
theorem sc_p_State_gaps_here : FnScope ["self", "places", "place"] ["self", "places"] (defScope s_p_State_gaps_here) := ⟨rfl, rfl, rfl, by decide +kernel, rfl, by decide +kernel, by decide +kernel⟩
abbrev s_p_State_motion : Stmt := inClass (top 66) 16
theorem sc_p_State_motion : FnScope ["self", "way", "sleepers", "mast", "fogged"] ["self"] (defScope s_p_State_motion) := ⟨rfl, rfl, rfl, by decide +kernel, rfl, by decide +kernel, by decide +kernel⟩
abbrev s_p_State_changes_by : Stmt := inClass (top 66) 17
theorem sc_p_State_changes_by : FnScope ["self", "motion", "way", "queue", "begun", "changes", "mast", "signs", "rows", "sign"] ["self", "motion"] (defScope s_p_State_changes_by) := ⟨rfl, rfl, rfl, by decide +kernel, rfl, by decide +kernel, by decide +kernel⟩
abbrev s_p_State_book : Stmt := inClass (top 66) 18
theorem sc_p_State_book : FnScope ["self", "way", "mast"] ["self", "way", "mast"] (defScope s_p_State_book) := ⟨rfl, rfl, rfl, by decide +kernel, rfl, by decide +kernel, by decide +kernel⟩
abbrev s_p_State_count_of : Stmt := inClass (top 66) 19
theorem sc_p_State_count_of : FnScope ["self", "way", "mast"] ["self", "way", "mast"] (defScope s_p_State_count_of) := ⟨rfl, rfl, rfl, by decide +kernel, rfl, by decide +kernel, by decide +kernel⟩
abbrev s_p_State_entry : Stmt := inClass (top 66) 20
theorem sc_p_State_entry : FnScope ["self", "way", "mast", "number"] ["self", "way", "mast", "number"] (defScope s_p_State_entry) := ⟨rfl, rfl, rfl, by decide +kernel, rfl, by decide +kernel, by decide +kernel⟩
abbrev s_p_State_signs_written : Stmt := inClass (top 66) 21
theorem sc_p_State_signs_written : FnScope ["self", "way", "place", "mast", "sign", "lost"] ["self", "way", "place"] (defScope s_p_State_signs_written) := ⟨rfl, rfl, rfl, by decide +kernel, rfl, by decide +kernel, by decide +kernel⟩
abbrev s_p_State_told_of : Stmt := inClass (top 66) 22
theorem sc_p_State_told_of : FnScope ["self", "way", "number", "masts", "told", "mast", "sign", "lost"] ["self", "way", "number"] (defScope s_p_State_told_of) := ⟨rfl, rfl, rfl, by decide +kernel, rfl, by decide +kernel, by decide +kernel⟩
abbrev s_p_Line_init : Stmt := inClass (top 69) 0
theorem sc_p_Line_init : FnScope ["self", "masts"] ["self", "masts"] (defScope s_p_Line_init) := ⟨rfl, rfl, rfl, by decide +kernel, rfl, by decide +kernel, by decide +kernel⟩
abbrev s_p_Line_do : Stmt := inClass (top 69) 1
theorem sc_p_Line_do : FnScope ["self", "deed", "changes"] ["self", "deed", "changes"] (defScope s_p_Line_do) := ⟨rfl, rfl, rfl, by decide +kernel, rfl, by decide +kernel, by decide +kernel⟩
abbrev s_p_Line_send : Stmt := inClass (top 69) 5
theorem sc_p_Line_send : FnScope ["self", "way", "signs", "behind"] ["self", "way", "signs"] (defScope s_p_Line_send) := ⟨rfl, rfl, rfl, by decide +kernel, rfl, by decide +kernel, by decide +kernel⟩
abbrev s_p_Line_let_wait : Stmt := inClass (top 69) 8
theorem sc_p_Line_let_wait : FnScope ["self", "deed", "at", "signs", "way"] ["self", "deed", "at", "signs"] (defScope s_p_Line_let_wait) := ⟨rfl, rfl, rfl, by decide +kernel, rfl, by decide +kernel, by decide +kernel⟩
abbrev s_p_Line_act : Stmt := inClass (top 69) 10
theorem sc_p_Line_act : FnScope ["self", "mast", "motion"] ["self", "mast"] (defScope s_p_Line_act) := ⟨rfl, rfl, rfl, by decide +kernel, rfl, by decide +kernel, by decide +kernel⟩
abbrev s_p_Line_slip : Stmt := inClass (top 69) 11
theorem sc_p_Line_slip : FnScope ["self", "mast", "seen", "shown", "motion", "place"] ["self", "mast", "seen", "shown"] (defScope s_p_Line_slip) := ⟨rfl, rfl, rfl, by decide +kernel, rfl, by decide +kernel, by decide +kernel⟩
abbrev s_p_Line_ready_place : Stmt := inClass (top 69) 12
theorem sc_p_Line_ready_place : FnScope ["self", "motion", "mast", "place"] ["self", "motion", "mast"] (defScope s_p_Line_ready_place) := ⟨rfl, rfl, rfl, by decide +kernel, rfl, by decide +kernel, by decide +kernel⟩
abbrev s_p_Line_fog : Stmt := inClass (top 69) 15
theorem sc_p_Line_fog : FnScope ["self", "gap"] ["self", "gap"] (defScope s_p_Line_fog) := ⟨rfl, rfl, rfl, by decide +kernel, rfl, by decide +kernel, by decide +kernel⟩
abbrev s_p_Line_turn : Stmt := inClass (top 69) 19
theorem sc_p_Line_turn : FnScope ["self", "sign", "way"] ["self"] (defScope s_p_Line_turn) := ⟨rfl, rfl, rfl, by decide +kernel, rfl, by decide +kernel, by decide +kernel⟩
abbrev s_p_Line_lose : Stmt := inClass (top 69) 20
theorem sc_p_Line_lose : FnScope ["self", "way", "mast", "number", "sign", "lost"] ["self", "way", "mast", "number"] (defScope s_p_Line_lose) := ⟨rfl, rfl, rfl, by decide +kernel, rfl, by decide +kernel, by decide +kernel⟩
abbrev s_p_Line_enter : Stmt := inClass (top 69) 23
theorem sc_p_Line_enter : FnScope ["self", "page", "line", "word"] ["self", "page", "line", "word"] (defScope s_p_Line_enter) := ⟨rfl, rfl, rfl, by decide +kernel, rfl, by decide +kernel, by decide +kernel⟩
abbrev s_p_Line_strike : Stmt := inClass (top 69) 24
theorem sc_p_Line_strike : FnScope ["self", "page", "line", "word"] ["self", "page", "line"] (defScope s_p_Line_strike) := ⟨rfl, rfl, rfl, by decide +kernel, rfl, by decide +kernel, by decide +kernel⟩
abbrev s_p_Line_masts : Stmt := inClass (top 69) 25
theorem sc_p_Line_masts : FnScope ["self"] ["self"] (defScope s_p_Line_masts) := ⟨rfl, rfl, rfl, by decide +kernel, rfl, by decide +kernel, by decide +kernel⟩
abbrev s_p_Line_way : Stmt := inClass (top 69) 26
theorem sc_p_Line_way : FnScope ["self"] ["self"] (defScope s_p_Line_way) := ⟨rfl, rfl, rfl, by decide +kernel, rfl, by decide +kernel, by decide +kernel⟩
abbrev s_p_Line_arms : Stmt := inClass (top 69) 27
theorem sc_p_Line_arms : FnScope ["self"] ["self"] (defScope s_p_Line_arms) := ⟨rfl, rfl, rfl, by decide +kernel, rfl, by decide +kernel, by decide +kernel⟩
abbrev s_p_Line_waiting : Stmt := inClass (top 69) 28
theorem sc_p_Line_waiting : FnScope ["self", "way"] ["self", "way"] (defScope s_p_Line_waiting) := ⟨rfl, rfl, rfl, by decide +kernel, rfl, by decide +kernel, by decide +kernel⟩
abbrev s_p_Line_asleep : Stmt := inClass (top 69) 29
theorem sc_p_Line_asleep : FnScope ["self"] ["self"] (defScope s_p_Line_asleep) := ⟨rfl, rfl, rfl, by decide +kernel, rfl, by decide +kernel, by decide +kernel⟩
abbrev s_p_Line_fogs : Stmt := inClass (top 69) 30
theorem sc_p_Line_fogs : FnScope ["self"] ["self"] (defScope s_p_Line_fogs) := ⟨rfl, rfl, rfl, by decide +kernel, rfl, by decide +kernel, by decide +kernel⟩
abbrev s_p_Line_ready : Stmt := inClass (top 69) 31
theorem sc_p_Line_ready : FnScope ["self"] ["self"] (defScope s_p_Line_ready) := ⟨rfl, rfl, rfl, by decide +kernel, rfl, by decide +kernel, by decide +kernel⟩
abbrev s_p_Line_waits : Stmt := inClass (top 69) 32
theorem sc_p_Line_waits : FnScope ["self", "mast"] ["self", "mast"] (defScope s_p_Line_waits) := ⟨rfl, rfl, rfl, by decide +kernel, rfl, by decide +kernel, by decide +kernel⟩
abbrev s_p_Line_sent : Stmt := inClass (top 69) 34
theorem sc_p_Line_sent : FnScope ["self", "way"] ["self", "way"] (defScope s_p_Line_sent) := ⟨rfl, rfl, rfl, by decide +kernel, rfl, by decide +kernel, by decide +kernel⟩
abbrev s_p_Line_heard : Stmt := inClass (top 69) 35
theorem sc_p_Line_heard : FnScope ["self", "way"] ["self", "way"] (defScope s_p_Line_heard) := ⟨rfl, rfl, rfl, by decide +kernel, rfl, by decide +kernel, by decide +kernel⟩
abbrev s_p_Line_words : Stmt := inClass (top 69) 37
theorem sc_p_Line_words : FnScope ["self"] ["self"] (defScope s_p_Line_words) := ⟨rfl, rfl, rfl, by decide +kernel, rfl, by decide +kernel, by decide +kernel⟩
abbrev s_p_Line_row : Stmt := inClass (top 69) 38
theorem sc_p_Line_row : FnScope ["self", "way", "mast", "number", "sign", "lost"] ["self", "way", "mast", "number"] (defScope s_p_Line_row) := ⟨rfl, rfl, rfl, by decide +kernel, rfl, by decide +kernel, by decide +kernel⟩
abbrev s_p_Line_slips : Stmt := inClass (top 69) 39
theorem sc_p_Line_slips : FnScope ["self", "way", "number", "found", "first", "second", "written", "other", "masts"] ["self", "way", "number"] (defScope s_p_Line_slips) := ⟨rfl, rfl, rfl, by decide +kernel, rfl, by decide +kernel, by decide +kernel⟩
abbrev s_p_Line_deeds : Stmt := inClass (top 69) 44
theorem sc_p_Line_deeds : FnScope ["self", "deed", "changes"] ["self"] (defScope s_p_Line_deeds) := ⟨rfl, rfl, rfl, by decide +kernel, rfl, by decide +kernel, by decide +kernel⟩
abbrev s_l_cell : Stmt := top 71
theorem sc_l_cell : FnScope ["_law_script", "_law_at"] ["_law_script", "_law_at"] (defScope s_l_cell) := ⟨rfl, rfl, rfl, by decide +kernel, rfl, by decide +kernel, by decide +kernel⟩
abbrev s_l_row : Stmt := top 72
theorem sc_l_row : FnScope ["_law_cell_here", "_law_many", "_law_size", "_law_row_here", "_law_rest", "_law_k", "_law_seed", "_law_mixed"] ["_law_cell_here", "_law_many", "_law_size"] (defScope s_l_row) := ⟨rfl, rfl, rfl, by decide +kernel, rfl, by decide +kernel, by decide +kernel⟩
abbrev s_l_run : Stmt := top 73
theorem sc_l_run : FnScope ["_law_script", "_law_masts", "_law_nums", "_law_way", "_law_signs", "_law_num", "_law_slips", "_law_k", "_law_place", "_law_number"] ["_law_script"] (defScope s_l_run) := ⟨rfl, rfl, rfl, by decide +kernel, rfl, by decide +kernel, by decide +kernel⟩
abbrev s_l_play : Stmt := top 74
theorem sc_l_play : FnScope ["_law_masts", "_law_way", "_law_signs", "_law_slips", "_law_line", "_law_counts", "_law_truth", "_law_some", "_law_mast", "_law_place", "_law_shown", "_law_coming", "_law_taken", "_law_sign", "_law_kind"] ["_law_masts", "_law_way", "_law_signs", "_law_slips"] (defScope s_l_play) := ⟨rfl, rfl, rfl, by decide +kernel, rfl, by decide +kernel, by decide +kernel⟩
abbrev s_l_lost : Stmt := top 75
theorem sc_l_lost : FnScope ["_law_line", "_law_way", "_law_cell_here", "_law_masts", "_law_nums", "_law_k", "_law_number", "_law_mast"] ["_law_line", "_law_way", "_law_cell_here"] (defScope s_l_lost) := ⟨rfl, rfl, rfl, by decide +kernel, rfl, by decide +kernel, by decide +kernel⟩
abbrev s_l_holds : Stmt := top 76
theorem sc_l_holds : FnScope ["_law_truth", "_law_place_of_mast", "_law_number", "_law_stretch", "_law_first", "_law_last", "_law_place", "_law_which", "_law_coming", "_law_taken", "_law_sign"] ["_law_truth", "_law_place_of_mast", "_law_number", "_law_stretch"] (defScope s_l_holds) := ⟨rfl, rfl, rfl, by decide +kernel, rfl, by decide +kernel, by decide +kernel⟩
abbrev s_law : Stmt := top 77
theorem sc_law : FnScope ["_law_script", "_law_masts", "_law_way", "_law_signs", "_law_slips", "_law_line", "_law_truth", "_law_places", "_law_mast", "_law_turn", "_law_number", "_law_found", "_law_one", "_law_stretch"] ["_law_script"] (defScope s_law) := ⟨rfl, rfl, rfl, by decide +kernel, rfl, by decide +kernel, by decide +kernel⟩
def faL : List He.Fa := ([.glo "law", .glo "Phrasebook", .cls "Phrasebook", .noat "Phrasebook" "word_by_place", .noat "Phrasebook" "place_by_word", .mkr "Phrasebook", .glo "Motion", .cls "Motion", .noat "Motion" "shown", .noat "Motion" "queue", .noat "Motion" "sleepers", .noat "Motion" "fogged", .noat "Motion" "written", .mkr "Motion", .glo "State", .cls "State", .noat "State" "rows", .noat "State" "phrasebook", .mkr "State", .glo "Line", .cls "Line", .noat "Line" "state", .noat "Line" "past", .noat "Line" "future", .mkr "Line", .glo "reason", .glo "hindrance_behind", .glo "hindrance_ahead", .glo "ready", .glo "is_sign"] : List He.Fa) ++ ([.glo "check_signs", .glo "is_word", .glo "check_word", .glo "check_place", .meth "Phrasebook" "__init__", .meth "Phrasebook" "enter", .meth "Phrasebook" "strike", .meth "Phrasebook" "word_at", .meth "Phrasebook" "words", .glo "check_way", .glo "check_mast", .glo "place_of", .glo "mast_at", .glo "along", .glo "deed_text", .glo "stretches", .meth "Motion" "__init__", .meth "Motion" "why", .meth "Motion" "ready_places", .meth "Motion" "coming", .meth "Motion" "raise_arms", .meth "Motion" "move", .glo "queue_of", .glo "book_of", .glo "new_rows", .meth "State" "__init__", .meth "State" "copied", .meth "State" "make", .meth "State" "swap", .meth "State" "swap_word"] : List He.Fa) ++ ([.meth "State" "size", .meth "State" "check_mast", .meth "State" "check_gap", .meth "State" "check_book", .meth "State" "heading", .meth "State" "queue_on", .meth "State" "marked", .meth "State" "place_here", .meth "State" "masts_here", .meth "State" "gaps_here", .meth "State" "motion", .meth "State" "changes_by", .meth "State" "book", .meth "State" "count_of", .meth "State" "entry", .meth "State" "signs_written", .meth "State" "told_of", .meth "Line" "__init__", .meth "Line" "do", .meth "Line" "send", .meth "Line" "let_wait", .meth "Line" "act", .meth "Line" "slip", .meth "Line" "ready_place", .meth "Line" "fog", .meth "Line" "turn", .meth "Line" "lose", .meth "Line" "enter", .meth "Line" "strike", .meth "Line" "masts"] : List He.Fa) ++ ([.meth "Line" "way", .meth "Line" "arms", .meth "Line" "waiting", .meth "Line" "asleep", .meth "Line" "fogs", .meth "Line" "ready", .meth "Line" "waits", .meth "Line" "sent", .meth "Line" "heard", .meth "Line" "words", .meth "Line" "row", .meth "Line" "slips", .meth "Line" "deeds", .glo "_law_cell", .glo "_law_row", .glo "_law_run", .glo "_law_play", .glo "_law_lost", .glo "_law_holds", .int "REST" 0, .str "READY" "ready", .str "LETTERS" "abcdefghijklmnopqrstuvwxyz", .int "LAST_PAGE" 40, .int "LAST_SIGN" 94, .int "LONGEST_WORD" 12, .str "UP" "up", .str "DOWN" "down", .int "FEWEST_MASTS" 2, .int "MOST_MASTS" 12, .str "WAY" "way"] : List He.Fa) ++ ([.str "ARMS" "arms", .str "SLEEP" "sleep", .str "FOG" "fog", .str "WORDS" "words", .int "MOST_WAITING" 60, .free "all", .free "any", .free "bool", .free "enumerate", .free "int", .free "isinstance", .free "len", .free "list", .free "max", .free "min", .free "range", .free "reversed", .free "sorted", .free "str", .free "tuple", .free "zip"] : List He.Fa)
def dicsL : DicL := []
def factsL : FactsB := ⟨faL, (["MastError", "BadCount", "NoMast", "BadWay", "BadSign", "Full", "NotReady", "NotRaising", "BadSlip", "Fogged", "Busy", "NoRow", "NoBook", "Lost", "BadPlace", "BadWord", "Taken", "Known", "NoWord"] : List Str), ([] : List Str), [("check_mast_ways", "check_mast")], ([] : List Str), ([] : List Str), [], dicsL⟩
def fnL : List He.DefD := [⟨("reason", none), "reason", "reason", defArgs s_p_reason, defBody s_p_reason, defScope s_p_reason, [], []⟩,
  ⟨("hindrance_behind", none), "hindrance_behind", "hindrance_behind", defArgs s_p_hindrance_behind, defBody s_p_hindrance_behind, defScope s_p_hindrance_behind, [], []⟩,
  ⟨("hindrance_ahead", none), "hindrance_ahead", "hindrance_ahead", defArgs s_p_hindrance_ahead, defBody s_p_hindrance_ahead, defScope s_p_hindrance_ahead, [], []⟩,
  ⟨("ready", none), "ready", "ready", defArgs s_p_ready, defBody s_p_ready, defScope s_p_ready, [], []⟩,
  ⟨("is_sign", none), "is_sign", "is_sign", defArgs s_p_is_sign, defBody s_p_is_sign, defScope s_p_is_sign, [], []⟩,
  ⟨("check_signs", none), "check_signs", "check_signs", defArgs s_p_check_signs, defBody s_p_check_signs, defScope s_p_check_signs, [], []⟩,
  ⟨("is_word", none), "is_word", "is_word", defArgs s_p_is_word, defBody s_p_is_word, defScope s_p_is_word, [], []⟩,
  ⟨("check_word", none), "check_word", "check_word", defArgs s_p_check_word, defBody s_p_check_word, defScope s_p_check_word, [], []⟩,
  ⟨("check_place", none), "check_place", "check_place", defArgs s_p_check_place, defBody s_p_check_place, defScope s_p_check_place, [], []⟩,
  ⟨("Phrasebook", some "__init__"), "__init__", "Phrasebook.__init__", defArgs s_p_Phrasebook_init, defBody s_p_Phrasebook_init, defScope s_p_Phrasebook_init, [], []⟩,
  ⟨("Phrasebook", some "enter"), "enter", "Phrasebook.enter", defArgs s_p_Phrasebook_enter, defBody s_p_Phrasebook_enter, defScope s_p_Phrasebook_enter, [], []⟩,
  ⟨("Phrasebook", some "strike"), "strike", "Phrasebook.strike", defArgs s_p_Phrasebook_strike, defBody s_p_Phrasebook_strike, defScope s_p_Phrasebook_strike, [], []⟩,
  ⟨("Phrasebook", some "word_at"), "word_at", "Phrasebook.word_at", defArgs s_p_Phrasebook_word_at, defBody s_p_Phrasebook_word_at, defScope s_p_Phrasebook_word_at, [], []⟩,
  ⟨("Phrasebook", some "words"), "words", "Phrasebook.words", defArgs s_p_Phrasebook_words, defBody s_p_Phrasebook_words, defScope s_p_Phrasebook_words, [], []⟩,
  ⟨("check_way", none), "check_way", "check_way", defArgs s_p_check_way, defBody s_p_check_way, defScope s_p_check_way, [], []⟩,
  ⟨("check_mast", none), "check_mast", "check_mast", defArgs s_p_check_mast, defBody s_p_check_mast, defScope s_p_check_mast, [], []⟩,
  ⟨("place_of", none), "place_of", "place_of", defArgs s_p_place_of, defBody s_p_place_of, defScope s_p_place_of, [], []⟩,
  ⟨("mast_at", none), "mast_at", "mast_at", defArgs s_p_mast_at, defBody s_p_mast_at, defScope s_p_mast_at, [], []⟩,
  ⟨("along", none), "along", "along", defArgs s_p_along, defBody s_p_along, defScope s_p_along, [], []⟩,
  ⟨("deed_text", none), "deed_text", "deed_text", defArgs s_p_deed_text, defBody s_p_deed_text, defScope s_p_deed_text, [], []⟩,
  ⟨("stretches", none), "stretches", "stretches", defArgs s_p_stretches, defBody s_p_stretches, defScope s_p_stretches, [], []⟩,
  ⟨("Motion", some "__init__"), "__init__", "Motion.__init__", defArgs s_p_Motion_init, defBody s_p_Motion_init, defScope s_p_Motion_init, [], []⟩,
  ⟨("Motion", some "why"), "why", "Motion.why", defArgs s_p_Motion_why, defBody s_p_Motion_why, defScope s_p_Motion_why, [], []⟩,
  ⟨("Motion", some "ready_places"), "ready_places", "Motion.ready_places", defArgs s_p_Motion_ready_places, defBody s_p_Motion_ready_places, defScope s_p_Motion_ready_places, [], []⟩,
  ⟨("Motion", some "coming"), "coming", "Motion.coming", defArgs s_p_Motion_coming, defBody s_p_Motion_coming, defScope s_p_Motion_coming, [], []⟩,
  ⟨("Motion", some "raise_arms"), "raise_arms", "Motion.raise_arms", defArgs s_p_Motion_raise_arms, defBody s_p_Motion_raise_arms, defScope s_p_Motion_raise_arms, [], []⟩,
  ⟨("Motion", some "move"), "move", "Motion.move", defArgs s_p_Motion_move, defBody s_p_Motion_move, defScope s_p_Motion_move, [], []⟩,
  ⟨("queue_of", none), "queue_of", "queue_of", defArgs s_p_queue_of, defBody s_p_queue_of, defScope s_p_queue_of, [], []⟩,
  ⟨("book_of", none), "book_of", "book_of", defArgs s_p_book_of, defBody s_p_book_of, defScope s_p_book_of, [], []⟩,
  ⟨("new_rows", none), "new_rows", "new_rows", defArgs s_p_new_rows, defBody s_p_new_rows, defScope s_p_new_rows, [], []⟩,
  ⟨("State", some "__init__"), "__init__", "State.__init__", defArgs s_p_State_init, defBody s_p_State_init, defScope s_p_State_init, [], []⟩,
  ⟨("State", some "copied"), "copied", "State.copied", defArgs s_p_State_copied, defBody s_p_State_copied, defScope s_p_State_copied, [], []⟩,
  ⟨("State", some "make"), "make", "State.make", defArgs s_p_State_make, defBody s_p_State_make, defScope s_p_State_make, [], []⟩,
  ⟨("State", some "swap"), "swap", "State.swap", defArgs s_p_State_swap, defBody s_p_State_swap, defScope s_p_State_swap, [], []⟩,
  ⟨("State", some "swap_word"), "swap_word", "State.swap_word", defArgs s_p_State_swap_word, defBody s_p_State_swap_word, defScope s_p_State_swap_word, [], []⟩,
  ⟨("State", some "size"), "size", "State.size", defArgs s_p_State_size, defBody s_p_State_size, defScope s_p_State_size, [], []⟩,
  ⟨("State", some "check_mast"), "check_mast", "State.check_mast", defArgs s_p_State_check_mast, defBody s_p_State_check_mast, defScope s_p_State_check_mast, [], []⟩,
  ⟨("State", some "check_gap"), "check_gap", "State.check_gap", defArgs s_p_State_check_gap, defBody s_p_State_check_gap, defScope s_p_State_check_gap, [], []⟩,
  ⟨("State", some "check_book"), "check_book", "State.check_book", defArgs s_p_State_check_book, defBody s_p_State_check_book, defScope s_p_State_check_book, [], []⟩,
  ⟨("State", some "heading"), "heading", "State.heading", defArgs s_p_State_heading, defBody s_p_State_heading, defScope s_p_State_heading, [], []⟩,
  ⟨("State", some "queue_on"), "queue_on", "State.queue_on", defArgs s_p_State_queue_on, defBody s_p_State_queue_on, defScope s_p_State_queue_on, [], []⟩,
  ⟨("State", some "marked"), "marked", "State.marked", defArgs s_p_State_marked, defBody s_p_State_marked, defScope s_p_State_marked, [], []⟩,
  ⟨("State", some "place_here"), "place_here", "State.place_here", defArgs s_p_State_place_here, defBody s_p_State_place_here, defScope s_p_State_place_here, [], []⟩,
  ⟨("State", some "masts_here"), "masts_here", "State.masts_here", defArgs s_p_State_masts_here, defBody s_p_State_masts_here, defScope s_p_State_masts_here, [], []⟩,
  ⟨("State", some "gaps_here"), "gaps_here", "State.gaps_here", defArgs s_p_State_gaps_here, defBody s_p_State_gaps_here, defScope s_p_State_gaps_here, [], []⟩,
  ⟨("State", some "motion"), "motion", "State.motion", defArgs s_p_State_motion, defBody s_p_State_motion, defScope s_p_State_motion, [], []⟩,
  ⟨("State", some "changes_by"), "changes_by", "State.changes_by", defArgs s_p_State_changes_by, defBody s_p_State_changes_by, defScope s_p_State_changes_by, [], []⟩,
  ⟨("State", some "book"), "book", "State.book", defArgs s_p_State_book, defBody s_p_State_book, defScope s_p_State_book, [], []⟩,
  ⟨("State", some "count_of"), "count_of", "State.count_of", defArgs s_p_State_count_of, defBody s_p_State_count_of, defScope s_p_State_count_of, [], []⟩,
  ⟨("State", some "entry"), "entry", "State.entry", defArgs s_p_State_entry, defBody s_p_State_entry, defScope s_p_State_entry, [], []⟩,
  ⟨("State", some "signs_written"), "signs_written", "State.signs_written", defArgs s_p_State_signs_written, defBody s_p_State_signs_written, defScope s_p_State_signs_written, [], []⟩,
  ⟨("State", some "told_of"), "told_of", "State.told_of", defArgs s_p_State_told_of, defBody s_p_State_told_of, defScope s_p_State_told_of, [], []⟩,
  ⟨("Line", some "__init__"), "__init__", "Line.__init__", defArgs s_p_Line_init, defBody s_p_Line_init, defScope s_p_Line_init, [], []⟩,
  ⟨("Line", some "do"), "do", "Line.do", defArgs s_p_Line_do, defBody s_p_Line_do, defScope s_p_Line_do, [], []⟩,
  ⟨("Line", some "send"), "send", "Line.send", defArgs s_p_Line_send, defBody s_p_Line_send, defScope s_p_Line_send, [], []⟩,
  ⟨("Line", some "let_wait"), "let_wait", "Line.let_wait", defArgs s_p_Line_let_wait, defBody s_p_Line_let_wait, defScope s_p_Line_let_wait, [], []⟩,
  ⟨("Line", some "act"), "act", "Line.act", defArgs s_p_Line_act, defBody s_p_Line_act, defScope s_p_Line_act, [], []⟩,
  ⟨("Line", some "slip"), "slip", "Line.slip", defArgs s_p_Line_slip, defBody s_p_Line_slip, defScope s_p_Line_slip, [], []⟩,
  ⟨("Line", some "ready_place"), "ready_place", "Line.ready_place", defArgs s_p_Line_ready_place, defBody s_p_Line_ready_place, defScope s_p_Line_ready_place, [], []⟩,
  ⟨("Line", some "fog"), "fog", "Line.fog", defArgs s_p_Line_fog, defBody s_p_Line_fog, defScope s_p_Line_fog, [], []⟩,
  ⟨("Line", some "turn"), "turn", "Line.turn", defArgs s_p_Line_turn, defBody s_p_Line_turn, defScope s_p_Line_turn, [], []⟩,
  ⟨("Line", some "lose"), "lose", "Line.lose", defArgs s_p_Line_lose, defBody s_p_Line_lose, defScope s_p_Line_lose, [], []⟩,
  ⟨("Line", some "enter"), "enter", "Line.enter", defArgs s_p_Line_enter, defBody s_p_Line_enter, defScope s_p_Line_enter, [], []⟩,
  ⟨("Line", some "strike"), "strike", "Line.strike", defArgs s_p_Line_strike, defBody s_p_Line_strike, defScope s_p_Line_strike, [], []⟩,
  ⟨("Line", some "masts"), "masts", "Line.masts", defArgs s_p_Line_masts, defBody s_p_Line_masts, defScope s_p_Line_masts, [], []⟩,
  ⟨("Line", some "way"), "way", "Line.way", defArgs s_p_Line_way, defBody s_p_Line_way, defScope s_p_Line_way, [], []⟩,
  ⟨("Line", some "arms"), "arms", "Line.arms", defArgs s_p_Line_arms, defBody s_p_Line_arms, defScope s_p_Line_arms, [], []⟩,
  ⟨("Line", some "waiting"), "waiting", "Line.waiting", defArgs s_p_Line_waiting, defBody s_p_Line_waiting, defScope s_p_Line_waiting, [], []⟩,
  ⟨("Line", some "asleep"), "asleep", "Line.asleep", defArgs s_p_Line_asleep, defBody s_p_Line_asleep, defScope s_p_Line_asleep, [], []⟩,
  ⟨("Line", some "fogs"), "fogs", "Line.fogs", defArgs s_p_Line_fogs, defBody s_p_Line_fogs, defScope s_p_Line_fogs, [], []⟩,
  ⟨("Line", some "ready"), "ready", "Line.ready", defArgs s_p_Line_ready, defBody s_p_Line_ready, defScope s_p_Line_ready, [], []⟩,
  ⟨("Line", some "waits"), "waits", "Line.waits", defArgs s_p_Line_waits, defBody s_p_Line_waits, defScope s_p_Line_waits, [], []⟩,
  ⟨("Line", some "sent"), "sent", "Line.sent", defArgs s_p_Line_sent, defBody s_p_Line_sent, defScope s_p_Line_sent, [], []⟩,
  ⟨("Line", some "heard"), "heard", "Line.heard", defArgs s_p_Line_heard, defBody s_p_Line_heard, defScope s_p_Line_heard, [], []⟩,
  ⟨("Line", some "words"), "words", "Line.words", defArgs s_p_Line_words, defBody s_p_Line_words, defScope s_p_Line_words, [], []⟩,
  ⟨("Line", some "row"), "row", "Line.row", defArgs s_p_Line_row, defBody s_p_Line_row, defScope s_p_Line_row, [], []⟩,
  ⟨("Line", some "slips"), "slips", "Line.slips", defArgs s_p_Line_slips, defBody s_p_Line_slips, defScope s_p_Line_slips, [], []⟩,
  ⟨("Line", some "deeds"), "deeds", "Line.deeds", defArgs s_p_Line_deeds, defBody s_p_Line_deeds, defScope s_p_Line_deeds, [], []⟩,
  ⟨("_law_cell", none), "_law_cell", "_law_cell", defArgs s_l_cell, defBody s_l_cell, defScope s_l_cell, [], []⟩,
  ⟨("_law_row", none), "_law_row", "_law_row", defArgs s_l_row, defBody s_l_row, defScope s_l_row, [], []⟩,
  ⟨("_law_run", none), "_law_run", "_law_run", defArgs s_l_run, defBody s_l_run, defScope s_l_run, [], []⟩,
  ⟨("_law_play", none), "_law_play", "_law_play", defArgs s_l_play, defBody s_l_play, defScope s_l_play, [], []⟩,
  ⟨("_law_lost", none), "_law_lost", "_law_lost", defArgs s_l_lost, defBody s_l_lost, defScope s_l_lost, [], []⟩,
  ⟨("_law_holds", none), "_law_holds", "_law_holds", defArgs s_l_holds, defBody s_l_holds, defScope s_l_holds, [], []⟩,
  ⟨("law", none), "law", "law", defArgs s_law, defBody s_law, defScope s_law, [], []⟩]
def asL : List Addr := [3, 57, 70, 82, 94, 106, 118, 130, 142, 154, 166, 178, 190, 202, 214, 226, 238, 250, 262, 274, 361, 488, 670, 997, 56, 69, 81, 93, 105, 117, 129, 141, 153, 165, 177, 189, 201, 213, 225, 237, 249, 261, 273, 360, 487, 669, 996, 28, 27, 35, 34, 42, 41, 47, 46, 283, 282, 290, 289, 297, 296, 304, 303, 311, 310, 325, 324, 332, 331, 339, 338, 353, 352, 358, 357, 372, 371, 379, 378, 386, 385, 393, 392, 400, 399, 405, 404, 410, 409, 422, 421, 429, 428, 436, 435, 450, 449, 457, 456, 464, 463, 499, 498, 506, 505, 513, 512, 527, 526, 532, 531, 539, 538, 553, 552, 560, 559, 567, 566, 574, 573, 581, 580, 588, 587, 595, 594, 602, 601, 607, 606, 614, 613, 619, 618, 624, 623, 629, 628, 634, 633, 641, 640, 648, 647, 655, 654, 660, 659, 667, 666, 688, 687, 695, 694, 723, 722, 744, 743, 758, 757, 765, 764, 772, 771, 793, 792, 821, 820, 828, 827, 849, 848, 856, 855, 863, 862, 870, 869, 877, 876, 884, 883, 891, 890, 898, 897, 905, 904, 912, 911, 926, 925, 933, 932, 947, 946, 954, 953, 961, 960, 994, 993, 1008, 1007, 1015, 1014, 1020, 1019, 1027, 1026, 1034, 1033, 1041, 1040, 1046, 1045]
def tfL : List He.Defn := [("is_word", none), ("check_signs", none), ("Line", some "turn")]
abbrev Txt (K : PySem.W.Frag) (mg : Str → Option Value) : Prop := TopB factsL fnL K mg
def looseL : List PySem.Str := (["_wall", "REST", "READY", "reason", "hindrance_behind", "hindrance_ahead", "ready", "MastError", "BadCount", "NoMast", "BadWay", "BadSign", "Full", "NotReady", "NotRaising", "BadSlip", "Fogged", "Busy", "NoRow", "NoBook", "Lost", "BadPlace", "BadWord", "Taken", "Known", "NoWord", "LETTERS", "LAST_PAGE", "LAST_SIGN", "is_sign"] : List Str) ++ (["check_signs", "LONGEST_WORD", "is_word", "check_word", "check_place", "Phrasebook", "UP", "DOWN", "FEWEST_MASTS", "MOST_MASTS", "check_way", "check_mast", "check_mast_ways", "place_of", "mast_at", "along", "deed_text", "stretches", "Motion", "WAY", "ARMS", "SLEEP", "FOG", "WORDS", "queue_of", "book_of", "new_rows", "State", "MOST_WAITING", "Line"] : List Str) ++ (["_law_cell", "_law_row", "_law_run", "_law_play", "_law_lost", "_law_holds"] : List Str)
abbrev rowR : PySem.W.OpenRow := PySem.W.OpenLaw.row PySem.Challenge.rw_mastword_k35_whole_slips_hold_the_true
def obL (s : PySem.W.SharedT) : Bool × List He.FnW := obsBT asL factsL fnL tfL (HandSHeadRun.getT s)
theorem obL_eq (s : PySem.W.SharedT) : obL s = (hookBT asL factsL fnL tfL).obs s.abs := obsBT_eq (HandSHeadRun.getT_eq s)
def topAL (s : PySem.W.SharedT) : Bool := topA asL factsL tfL (HandSHeadRun.getT s)
def topFL (s : PySem.W.SharedT) : Bool × List He.FnW := topF asL fnL (HandSHeadRun.getT s)
theorem topRunSL (w : World) : TopRunS rowR (PySem.W.view rowR.prog [77]) 16000 looseL w := by
  intro os
  kernel_rfl
theorem topRunAL (w : World) : TopRunF rowR topAL true 16000 w := by
  intro os
  kernel_rfl
theorem topRunFL (w : World) : TopRunF rowR topFL (true, fnL.map He.DefD.val) 16000 w := by
  intro os
  kernel_rfl
theorem runL (w : World) : HandSHeadRun.RunEq rowR (PySem.W.view rowR.prog [77]) (hookBT asL factsL fnL tfL) obL 16000 looseL w :=
  top_run_three (topRunSL w) (topRunAL w) (topRunFL w) fun s h1 h2 => obsBT_two h1 h2

/-! ### what is kept: every tracked thing but the tables of code objects, which stay tables -/
def isT : HO → Bool
  | .tbl _ => true
  | _ => false
structure Kp (H H' : Hp) : Prop where
  same : ∀ a o, isT o = false → H a = some o → H' a = some o
  tab : ∀ a, GxR.TabG H a → GxR.TabG H' a
  free : ∀ a, H' a = none → H a = none
theorem Kp.refl (H : Hp) : Kp H H := ⟨fun _ _ _ h => h, fun _ h => h, fun _ h => h⟩
theorem Kp.trans {H H1 H2 : Hp} (a : Kp H H1) (b : Kp H1 H2) : Kp H H2 :=
  ⟨fun x o t h => b.same x o t (a.same x o t h), fun x h => b.tab x (a.tab x h), fun x h => a.free x (b.free x h)⟩
theorem Kp.mut {H H' : Hp} {p : Addr} {o : HO} (e : Kp H H') (h : H p = none) : Kp H (upd H' p o) := by
  refine ⟨fun a u t ha => ?_, fun a ⟨ps, ha, ht⟩ => ?_, fun a ha => ?_⟩
  · rw [upd_ne (ne_of_none ha h)]
    exact e.same a u t ha
  · obtain ⟨ps', h1, h2⟩ := e.tab a ⟨ps, ha, ht⟩
    exact ⟨ps', by rw [upd_ne (ne_of_none ha h)]; exact h1, h2⟩
  · by_cases q : a = p
    · rw [q]
      exact h
    · rw [upd_ne q] at ha
      exact e.free a ha
theorem Kp.new {H : Hp} {p : Addr} {o : HO} (h : H p = none) : Kp H (upd H p o) := (Kp.refl H).mut h
theorem Kp.rd {H H' : Hp} {a : Addr} {u : HO} (e : Kp H H') (t : isT u = false) (h : Rd H a u) : Rd H' a u := by
  rcases h with h | ⟨o, h⟩
  · exact Or.inl (e.same a _ t h)
  · exact Or.inr ⟨o, e.same a _ rfl h⟩
theorem Kp.sqL {K : PySem.W.Frag} {H H' : Hp} {a : Addr} {xs : List V} (e : Kp H H') (h : SqL K H a xs) : SqL K H' a xs := by
  rcases h with h | h
  · exact Or.inl (e.rd rfl h)
  · exact Or.inr h
theorem Kp.sqT {K : PySem.W.Frag} {H H' : Hp} {a : Addr} {xs : List V} (e : Kp H H') (h : SqT K H a xs) : SqT K H' a xs := by
  rcases h with h | h
  · exact Or.inl (e.rd rfl h)
  · exact Or.inr h
mutual
theorem Kp.dp {K : PySem.W.Frag} {H H' : Hp} (e : Kp H H') : ∀ {d : PyData} {v : V}, Dp K H v d → Dp K H' v d
  | _, _, .non => .non
  | _, _, .bl b => .bl b
  | _, _, .int i => .int i
  | _, _, .str x => .str x
  | _, _, .lst h a => .lst (e.sqL h) (Kp.dpAll e a)
  | _, _, .tup h a => .tup (e.sqT h) (Kp.dpAll e a)
theorem Kp.dpAll {K : PySem.W.Frag} {H H' : Hp} (e : Kp H H') : ∀ {ds : List PyData} {vs : List V}, DpAll K H vs ds → DpAll K H' vs ds
  | _, _, .nil => .nil
  | _, _, .cons h t => .cons (Kp.dp e h) (Kp.dpAll e t)
end
theorem DpAll.len {K : PySem.W.Frag} {H : Hp} : ∀ {vs : List V} {ds : List PyData}, DpAll K H vs ds → vs.length = ds.length
  | _, _, .nil => rfl
  | _, _, .cons _ t => congrArg (· + 1) (DpAll.len t)
theorem DpAll.get {K : PySem.W.Frag} {H : Hp} : ∀ {vs : List V} {ds : List PyData} {i : Nat} {d : PyData}, DpAll K H vs ds → ds[i]? = some d → ∃ v, vs[i]? = some v ∧ Dp K H v d
  | _, _, i, d, .nil, h => by simp at h
  | _, _, 0, d, .cons a _, h => by
    have e := Option.some.inj h
    subst e
    exact ⟨_, rfl, a⟩
  | _, _, i + 1, d, .cons _ t, h => DpAll.get (i := i) t h
theorem DpAll.app {K : PySem.W.Frag} {H : Hp} : ∀ {vs ws : List V} {ds es : List PyData}, DpAll K H vs ds → DpAll K H ws es → DpAll K H (vs ++ ws) (ds ++ es)
  | _, _, _, _, .nil, b => b
  | _, _, _, _, .cons a t, b => .cons a (DpAll.app t b)
/-- data without lists -/
inductive Nl : PyData → Prop
  | non : Nl .none
  | bl (b : Bool) : Nl (.bool b)
  | int (i : Int) : Nl (.int i)
  | str (x : Str) : Nl (.str x)
  | tup {ds : List PyData} : (∀ d ∈ ds, Nl d) → Nl (.tuple ds)
/-! a list may change: what has no list in it stays -/
mutual
theorem Dp.mut {K : PySem.W.Frag} {H : Hp} {p : Addr} {o : HO} {zs : List V} (hp : H p = some (.lst zs)) : ∀ {d : PyData} {v : V}, Nl d → Dp K H v d → Dp K (upd H p o) v d
  | _, _, _, .non => .non
  | _, _, _, .bl b => .bl b
  | _, _, _, .int i => .int i
  | _, _, _, .str x => .str x
  | _, _, n, .lst _ _ => nomatch n
  | _, _, n, .tup h a => by
    cases n with
    | tup n =>
      refine .tup ?_ (DpAll.mut hp n a)
      rcases h with (h | ⟨ob, h⟩) | h
      · exact .inl (.inl (by rw [upd_ne (ne_of h hp (by intro z; cases z))]; exact h))
      · exact .inl (.inr ⟨ob, by rw [upd_ne (ne_of h hp (by intro z; cases z))]; exact h⟩)
      · exact .inr h
theorem DpAll.mut {K : PySem.W.Frag} {H : Hp} {p : Addr} {o : HO} {zs : List V} (hp : H p = some (.lst zs)) : ∀ {ds : List PyData} {vs : List V}, (∀ d ∈ ds, Nl d) → DpAll K H vs ds → DpAll K (upd H p o) vs ds
  | _, _, _, .nil => .nil
  | _, _, n, .cons h t => .cons (Dp.mut hp (n _ List.mem_cons_self) h) (DpAll.mut hp (fun d hd => n d (List.mem_cons_of_mem _ hd)) t)
end
theorem DpAll.snoc {K : PySem.W.Frag} {H : Hp} {vs : List V} {ds : List PyData} {v : V} {d : PyData} (a : DpAll K H vs ds) (h : Dp K H v d) : DpAll K H (vs ++ [v]) (ds ++ [d]) := DpAll.app a (.cons h .nil)
theorem DpAll.dropLast {K : PySem.W.Frag} {H : Hp} : ∀ {vs : List V} {ds : List PyData}, DpAll K H vs ds → DpAll K H vs.dropLast ds.dropLast
  | _, _, .nil => .nil
  | _, _, .cons _ .nil => .nil
  | _, _, .cons h (.cons h2 t) => .cons h (DpAll.dropLast (.cons h2 t))
theorem dp_ints {K : PySem.W.Frag} {H : Hp} : ∀ ns : List Int, DpAll K H (ns.map V.int) (ns.map PyData.int)
  | [] => .nil
  | n :: r => .cons (.int n) (dp_ints r)
theorem dp_strs {K : PySem.W.Frag} {H : Hp} : ∀ ns : List Str, DpAll K H (ns.map V.str) (ns.map PyData.str)
  | [] => .nil
  | n :: r => .cons (.str n) (dp_strs r)
/-- a list of ints, a list of texts as data -/
def dI (ns : List Int) : PyData := .list (ns.map PyData.int)
def dS (ns : List Str) : PyData := .list (ns.map PyData.str)
theorem dp_dI {K : PySem.W.Frag} {H : Hp} {a : Addr} {ns : List Int} (h : SqL K H a (ns.map V.int)) : Dp K H (.ref a) (dI ns) := .lst h (dp_ints ns)
theorem dpAll_ints {K : PySem.W.Frag} {H : Hp} : ∀ {ns : List Int} {vs : List V}, DpAll K H vs (ns.map PyData.int) → vs = ns.map V.int
  | [], _, .nil => rfl
  | n :: r, _, .cons h t => by
    cases h
    rw [dpAll_ints t]
    rfl
theorem dp_of_dI {K : PySem.W.Frag} {H : Hp} {v : V} {ns : List Int} (h : Dp K H v (dI ns)) : ∃ a, v = .ref a ∧ SqL K H a (ns.map V.int) := by
  cases h with
  | lst h t =>
    rw [dpAll_ints t] at h
    exact ⟨_, rfl, h⟩
/-! ### small words -/
theorem at_int {ns : List Int} {j : Nat} (h : j < ns.length) : atI (ns.map V.int) (j : Int) = some (.int ns[j]) := atI_nat (by rw [List.getElem?_map, List.getElem?_eq_getElem h]; rfl)
theorem at_intZ {ns : List Int} {z : Int} (h0 : 0 ≤ z) (h : z.toNat < ns.length) : atI (ns.map V.int) z = some (.int ns[z.toNat]) := by
  have e := at_int h
  rw [Int.toNat_of_nonneg h0] at e
  exact e
theorem szl {n : Nat} (h : n ≤ 100000) : n ≤ sizeLine := Nat.le_trans h (by decide)
theorem szt {n : Nat} (h : n < 100000) : n < sizeLine := Nat.lt_of_lt_of_le h (by decide)
theorem iteB {b : Bool} {A B : Prop} (h1 : b = true → A) (h2 : b = false → B) : if b = true then A else B := by
  cases b with
  | true => rw [if_pos rfl]; exact h1 rfl
  | false => rw [if_neg Bool.false_ne_true]; exact h2 rfl
theorem iteD {c : Prop} [Decidable c] {A B : Prop} (h1 : c → A) (h2 : ¬ c → B) : if decide c = true then A else B :=
  iteB (fun h => h1 (of_decide_eq_true h)) (fun h => h2 (of_decide_eq_false h))
theorem iteN {c : Prop} [Decidable c] {A B : Prop} (h1 : ¬ c → A) (h2 : c → B) : if (!decide c) = true then A else B :=
  iteB (fun h => h1 (fun z => by rw [decide_eq_true z] at h; cases h)) (fun h => h2 (by
    by_cases z : c
    · exact z
    · rw [decide_eq_false z] at h; cases h))
theorem iteTo {b : Bool} {A B : Prop} (e : b = true) (h : A) : if b = true then A else B := by rw [if_pos e]; exact h
theorem iteFo {b : Bool} {A B : Prop} (e : b = false) (h : B) : if b = true then A else B := by rw [e, if_neg Bool.false_ne_true]; exact h
/-! ### rules with the written part by its own name (inside a comprehension) -/
section
variable {X : Cx} (K : PySem.W.Frag)
theorem ix_listK (h : X.K = K) : IxR X (rIxL K) := h ▸ ix_list
theorem ix_tupK (h : X.K = K) : IxR X (rIxT K) := h ▸ ix_tup
theorem ix_seqK (h : X.K = K) : IxR X (rIx K) := h ▸ ix_seq
def rLenSq : List V → Hp → VK → Prop := fun xs H Q => ∃ p ys, xs = [.ref p] ∧ (SqL K H p ys ∨ SqT K H p ys) ∧ Q (.int ys.length) H
theorem call_lenSK (h : X.K = K) : CallR X (.builtin "len") (rLenSq K) := h ▸ call_len_seq
def rLenV : List V → Hp → VK → Prop := fun xs H Q => ∃ x n, xs = [x] ∧ LenV K x H n ∧ Q (.int n) H
theorem call_lenK (h : X.K = K) : CallR X (.builtin "len") (rLenV K) := h ▸ call_len
theorem op_inK (h : X.K = K) : OpR X (compareOp .In) (rIn K false) := h ▸ op_in_seq
theorem op_notInK (h : X.K = K) : OpR X (compareOp .NotIn) (rIn K true) := h ▸ op_notIn_seq
theorem op_eqDK (h : X.K = K) (hu : X.A.units + 64 < cLine) : OpR X (compareOp .Eq) (rEqD K) := h ▸ op_eqD hu
theorem op_neDK (h : X.K = K) (hu : X.A.units + 64 < cLine) : OpR X (compareOp .NotEq) (rNeD K) := h ▸ op_neD hu
theorem call_isiKK (h : X.K = K) : CallR X (.builtin "isinstance") (rIsi K) := h ▸ call_isi
end
section
variable {X : Cx} (K : PySem.W.Frag)
theorem pgK {e : Expr} {n : Nat} {t : TGs} (h : X.K = K) (p : PG X e (gTup X.K n t)) : PG X e (gTup K n t) := h ▸ p
/-- isinstance(e, C), e what the suite has caught (without or with a dict of its own) -/
def rIsX (cls : Value) (d : Option Addr) (a : Addr) : List V → Hp → VK → Prop := fun xs H Q => ∃ (D : Addr) (c : V) (cv : Value) (b : Bool), cls = .ref D ∧ (d = none ∨ ∃ dd fs, d = some dd ∧ H dd = some (.xd fs)) ∧ ExcC K D ∧ xs = [.ref a, c] ∧ ClsV c cv ∧ PySem.W.kitOne K (.ref D) cv = some b ∧ Q (.bl b) H
theorem call_isX {a : Addr} {oe : Obj} {pn : List (Addr × Obj)} {cls : Value} {d : Option Addr} (h : X.K = K) (hz : Zc cls d oe) (hf : ∃ vs, oe.data = .fields vs) : CallR (X.suite a ((a, oe) :: pn)) (.builtin "isinstance") (rIsX K cls d a) := by
  subst h
  intro pins s σ H xs us Q I r h'
  obtain ⟨D, c, cv, b, rfl, hd, C, rfl, hc, hk, q⟩ := h'
  cases r with | cons rx rr =>
  cases rr with | cons rt rr =>
  cases rr
  cases rx
  have ec := hc.eq rt
  subst ec
  obtain ⟨hget, _⟩ := I.pin (a, oe) (List.mem_append_left _ List.mem_cons_self)
  obtain ⟨vs, hv⟩ := hf
  have hcl : (PySem.W.clsIn X.K D).isSome = true := by
    obtain ⟨cd, hc, _⟩ := PySem.W.any_some C.hd
    rw [hc]
    first | rfl | done
  have nc : PySem.W.notCls oe = true := by
    unfold PySem.W.notCls
    rw [hv]
  rcases hd with rfl | ⟨dd, fs, rfl, hdd⟩
  · have J : PySem.W.InstAt s.heap a oe D none := ⟨hget, hz.1, nc, by rw [hz.2]; trivial⟩
    exact PySem.W.kia_one (PySem.W.kitx_exc hcl C.hg C.hk C.hs C.ha C.hn C.ht C.hm) I.kIn J hk (fun z => nomatch z) fun tk => ⟨.bl b, H, I.kept (t' := tk) fun _ _ z => z, rfl, q⟩
  · obtain ⟨mA, hns, hr⟩ := I.hok dd _ hdd
    obtain ⟨od, ho, hl⟩ := lookIn_ns hns
    have J : PySem.W.InstAt s.heap a oe D (some od) := ⟨hget, hz.1, nc, by rw [hz.2]; exact ho⟩
    exact PySem.W.kia_one (PySem.W.kitx_exc hcl C.hg C.hk C.hs C.ha C.hn C.ht C.hm) I.kIn J hk (fun z => nomatch z) fun tk => ⟨.bl b, H, I.kept (t' := tk) fun _ _ z => z, rfl, q⟩
end
/-! ### isinstance of an own error, by what the written part says of its class -/
theorem kit_sub {K : PySem.W.Frag} {t : Value} {C : Addr} (ic : PySem.W.isClsIn K C = true) (tC : PySem.W.typeIn K (.ref C) = some (.type "type")) (h : PySem.W.subIn K t (.ref C) = some true) : PySem.W.kitOne K t (.ref C) = some true := by
  unfold PySem.W.kitOne
  by_cases e : (t == .ref C) = true
  · rw [if_pos e]
  · rw [if_neg e]
    have h2 : ((PySem.W.clsIn K C).isSome && PySem.W.typeIn K (.ref C) == some (.type "type")) = true := by
      have q : (PySem.W.clsIn K C).isSome = true := ic
      rw [q, tC]
      rfl
    show (if ((PySem.W.clsIn K C).isSome && PySem.W.typeIn K (.ref C) == some (.type "type")) = true then PySem.W.subIn K t (.ref C) else none) = some true
    rw [if_pos h2]
    exact h
theorem kit_not {K : PySem.W.Frag} {t : Value} {C : Addr} (ic : PySem.W.isClsIn K C = true) (tC : PySem.W.typeIn K (.ref C) = some (.type "type")) (h : PySem.W.subIn K t (.ref C) = some false) (hs : PySem.W.subIn K t t = some true) : PySem.W.kitOne K t (.ref C) = some false := by
  unfold PySem.W.kitOne
  have e : ¬ (t == .ref C) = true := fun e => by
    have z : t = .ref C := by simpa using e
    rw [z] at h hs
    rw [h] at hs
    cases hs
  rw [if_neg e]
  have h2 : ((PySem.W.clsIn K C).isSome && PySem.W.typeIn K (.ref C) == some (.type "type")) = true := by
    have q : (PySem.W.clsIn K C).isSome = true := ic
    rw [q, tC]
    rfl
  show (if ((PySem.W.clsIn K C).isSome && PySem.W.typeIn K (.ref C) == some (.type "type")) = true then PySem.W.subIn K t (.ref C) else none) = some false
  rw [if_pos h2]
  exact h
theorem meta_ve : PySem.W.kitMeta "ValueError" = true := by decide +kernel
theorem kit_ve {K : PySem.W.Frag} {C : Addr} (h : PySem.W.subIn K (.ref C) (.type "ValueError") = some true) : PySem.W.kitOne K (.ref C) (.type "ValueError") = some true := by
  unfold PySem.W.kitOne
  rw [if_neg (by intro z; cases z)]
  show (if PySem.W.kitMeta "ValueError" = true then PySem.W.subIn K (.ref C) (.type "ValueError") else none) = some true
  rw [if_pos meta_ve]
  exact h
theorem at_mod (z : Str) {m : Int} {n : Nat} (hn : 0 < n) (hl : z.cps.toList.length = n) : ∃ c, atI z.cps.toList (m % (n : Int)) = some c := by
  have h0 : 0 ≤ m % (n : Int) := Int.emod_nonneg _ (by omega)
  have h1 : m % (n : Int) < (n : Int) := Int.emod_lt_of_pos _ (by omega)
  have hj : (m % (n : Int)).toNat < z.cps.toList.length := by omega
  refine ⟨z.cps.toList[(m % (n : Int)).toNat], ?_⟩
  have e := atI_nat (List.getElem?_eq_getElem hj)
  rw [Int.toNat_of_nonneg h0] at e
  exact e
theorem cutV_map {lo hi : Option Int} {ns : List Int} : ∃ ms : List Int, cutV (ns.map V.int) lo hi = ms.map V.int ∧ (∀ m ∈ ms, m ∈ ns) ∧ ms.length ≤ ns.length := by
  unfold cutV
  rw [List.length_map]
  refine ⟨(ns.drop _).take _, by rw [List.map_take, List.map_drop], fun m h => List.mem_of_mem_drop (List.mem_of_mem_take h), ?_⟩
  rw [List.length_take, List.length_drop]
  omega
theorem mem_ints {ns : List Int} {i : Nat} {x : V} (h : (ns.map V.int)[i]? = some x) : ∃ z, z ∈ ns ∧ x = .int z ∧ ns[i]? = some z := by
  rw [List.getElem?_map] at h
  cases e : ns[i]? with
  | none =>
    rw [e] at h
    cases h
  | some z =>
    rw [e] at h
    exact ⟨z, List.mem_of_getElem? e, (Option.some.inj h).symm, rfl⟩
theorem mem_strs {ns : List Str} {i : Nat} {x : V} (h : (ns.map V.str)[i]? = some x) : ∃ z, z ∈ ns ∧ x = .str z ∧ ns[i]? = some z := by
  rw [List.getElem?_map] at h
  cases e : ns[i]? with
  | none =>
    rw [e] at h
    cases h
  | some z =>
    rw [e] at h
    exact ⟨z, List.mem_of_getElem? e, (Option.some.inj h).symm, rfl⟩
theorem take_snoc {α : Type} {l : List α} {i : Nat} {z : α} (h : l[i]? = some z) : l.take (i + 1) = l.take i ++ [z] := by
  rw [List.take_succ, h]
  rfl
/-! ### for x in a list or a tuple, whichever it is -/
def iSeq (K : PySem.W.Frag) (tl : TE) : TI := fun σ H R => tl σ H fun x H1 => ∃ a, x = .ref a ∧ ((∃ xs, SqL K H1 a xs) ∧ R (Itl K a) H1 ∨ (∃ xs, SqT K H1 a xs) ∧ R (Itt K a) H1)
theorem pi_seq {X : Cx} {tg l : Expr} {tl : TE} (hl : PE X l tl) : PI X tg l (iSeq X.K tl) := by
  refine ⟨fun pins s σ H R I h => ?_⟩
  refine thn (hl.run pins s σ H _ I h) fun v s1 ⟨x, H1, I1, r1, q1⟩ => ?_
  obtain ⟨a, e, q1⟩ := q1
  subst e
  cases r1
  rcases q1 with ⟨⟨xs, hq⟩, q⟩ | ⟨⟨xs, hq⟩, q⟩
  · obtain ⟨its, rv, p, hz⟩ := I1.list hq
    refine wpAny_pyIter_list p.isList ?_
    refine ⟨s1.heap.objs.size, [s1.heap.objs.size], _, _, H1, rfl, I1.kept (t' := s1.toks) fun b o e => Heap.get?_push_of_some _ e, turn_list a _, ⟨_, Heap.get?_push_size _ rfl, rfl, rfl⟩, fun b hb => ?_, q⟩
    have e : b = s1.heap.objs.size := by simpa using hb
    subst e
    exact I1.fpOk (Nat.le_refl _) (I1.hok.fresh (Nat.le_refl _))
  · obtain ⟨its, rv, p, hz⟩ := I1.tuple hq
    refine wpAny_pyIter_tuple (show s1.heap.IsTuple a its.toArray from p) ?_
    refine ⟨s1.heap.objs.size, [s1.heap.objs.size], _, _, H1, rfl, I1.kept (t' := s1.toks) fun b o e => Heap.get?_push_of_some _ e, turn_tuple a _, ⟨_, Heap.get?_push_size _ rfl, rfl, rfl⟩, fun b hb => ?_, q⟩
    have e : b = s1.heap.objs.size := by simpa using hb
    subst e
    exact I1.fpOk (Nat.le_refl _) (I1.hok.fresh (Nat.le_refl _))

/-! ### list.count of flat values -/
theorem tbmK {X : Cx} (K : PySem.W.Frag) {e : Expr} {to : TE} {t : TA} {T : String} {r : V → List V → Hp → VK → Prop} (h : X.K = K) (p : PE X e (tBM X.K T r to t)) : PE X e (tBM K T r to t) := h ▸ p
theorem count_eqU {y : V} : ∀ {ys : List V} {us : List Value}, Vals ys us → ys.all flatV = true → us.countP (eqU y) = ys.countP (fun z => eqV z y)
  | [], _, r, _ => by
    cases r
    rfl
  | z :: ys, _, r, f => by
    cases r with
    | cons r1 r2 =>
      rw [List.all_cons, Bool.and_eq_true] at f
      rw [List.countP_cons, List.countP_cons, count_eqU r2 f.2, eqU_of r1 f.1]
def rCntF (K : PySem.W.Frag) : V → List V → Hp → VK → Prop := fun x xs H Q => ∃ (p : Addr) (ys : List V) (y : V), x = .ref p ∧ xs = [y] ∧ SqL K H p ys ∧ flatV y = true ∧ ys.all flatV = true ∧ Q (.int (ys.countP (fun z => eqV z y) : Nat)) H
theorem mt_fcount {X : Cx} : MtR X "list.count" (rCntF X.K) := by
  intro pins s σ H x xs v us Q I rx rxs h
  obtain ⟨p, ys, y, rfl, rfl, hs, fy, fys, q⟩ := h
  cases rx
  obtain ⟨uy, rfl, ry⟩ := rxs.one
  obtain ⟨its, rv, ⟨⟨cls, dd, data, sl⟩, n, ho, hc, hdn, hd⟩, hlen⟩ := I.list hs
  simp only at hc hd
  subst hc hd
  refine call_meets PySem.F.slot_list_count ⟨_, ho, rfl⟩ PySem.F.entry_list_count (PySem.F.args_list_count_2 _ _)
    (SeqAt.list_countAt p its.toArray n dd sl uy (eqU y)) ⟨ho, fun u' hu' => mem_eqAt ry fy rv fys u' (by simpa using hu'), ?_⟩
  have ec : its.toArray.toList.countP (eqU y) = ys.countP (fun z => eqV z y) := count_eqU rv fys
  refine ⟨.int (ys.countP (fun z => eqV z y) : Nat), H, I.tok _, ⟨s.toks, ?_⟩, q⟩
  show Value.int ((its.toArray.toList.countP (eqU y) : Nat) : Int) s.toks = _
  rw [ec]
theorem mt_indexK {X : Cx} (K : PySem.W.Frag) (h : X.K = K) : MtR X "list.index" (rIndex K) := h ▸ mt_index
theorem mt_fcountK {X : Cx} (K : PySem.W.Frag) (h : X.K = K) : MtR X "list.count" (rCntF K) := h ▸ mt_fcount

/-! ### a def that is handed the error which the suite has caught -/
abbrev SpE := Addr → Value → Option Addr → Sp
structure FnE (P : Program) (w : World) (K : PySem.W.Frag) (mg : Str → Option Value) (base : Heap) (k : Nat) (f : Addr) (fd : FuncData) (ps : List Str) (sp : SpE) : Prop where
  len : ∀ a c d vs H Q E, sp a c d vs H Q E → vs.length = ps.length
  run : ∀ (A : Around) (outer : List Env) (s : Shared) (H : Hp) (args : Args) (us : List Value) (vs : List V) (Q : VK) (E : XK) (a : Addr) (oe : Obj) (c : Value) (d : Option Addr), L2H.RoomH k A → L2H.PinOk outer H s (a, oe) → Zc c d oe → (∃ vs, oe.data = .fields vs) → Env0 P w K mg base A outer s H → BindsTo s fd args (ps.zip us) → Vals vs us → sp a c d vs H Q E →
    codeAny (model P w) A (.call (.ref f) args) (CR CX0 outer P w H s Q E) s
theorem fn_ofE {P : Program} {w : World} {K : PySem.W.Frag} {mg : Str → Option Value} {base : Heap} {k : Nat} {f : Addr} {name qual : Str} {params : Arguments} {body : List Stmt} {scope : Scope} {dV kV doc pm cdv ct oc : Value} {an od : Option Addr}
    {osl : Array (Option Value)} {N ps : List Str} {sp : SpE} (lk : K.lookup f = some ⟨oc, od, .func (PySem.W.fnOf name qual params body scope dV kV doc pm an cdv ct), osl⟩) (hcd : PySem.W.codeIn K cdv qual = true) (S : FnScope N ps scope)
    (len : ∀ a c d vs H Q E, sp a c d vs H Q E → vs.length = ps.length)
    (hbody : ∀ (A : Around) (outer : List Env) (s : Shared) (H : Hp) (vs : List V) (Q : VK) (E : XK) (a : Addr) (oe : Obj) (c : Value) (d : Option Addr), Zc c d oe → (∃ vs, oe.data = .fields vs) → L2H.RoomH k (A.deeper (envOfC qual scope s.heap.objs.size f cdv)) → sp a c d vs H Q E →
      ∃ t, PSs (L2H.cxH CX0 P w K mg base N qual scope f cdv A outer s H E (a, oe)) body t ∧ t { nx := fun _ H' => Q .non H', rt := Q } (L2.start N vs) H) :
    FnE P w K mg base (k + 1) f (PySem.W.fnOf name qual params body scope dV kV doc pm an cdv ct) ps sp := by
  refine ⟨len, fun A outer s H args us vs Q E a oe c d hr hpin hz hf e0 hb r hsp => ?_⟩
  have hl := len _ _ _ _ _ _ _ hsp
  have KX : K.In s.heap := e0.mod.kin.keeps fun b o e => (e0.bs b o e).1
  have lim : s.heap.NoLimit := e0.mod.nolimit.keeps fun b o e => (e0.bs b o e).1
  have hkind : ∀ y ∈ ps.zip us, scope.names.lookup y.1 = some .local ∨ (scope.names.lookup y.1 = some .cell ∧ ((cellsFrom (s.heap.objs.size + 1) scope.names []).lookup y.1).isSome = true) := fun ⟨n, v⟩ hy => by
    rcases S.par n (List.of_mem_zip hy).1 with q | q
    · exact .inl q
    · exact .inr ⟨q, PySem.W.cellsFrom_some _ _ _ (.inl q)⟩
  refine codeAny_call_function hr.depth (KX _ _ lk) rfl S.co S.gen rfl (PySem.W.codeRec_of KX hcd) (hb _ _ _ _ ?_)
  refine wpAny_newFunctionEnv_cells S.kind hkind fun env he s1 x => ?_
  subst he
  refine ⟨lim.keeps x.toInCall.keep, codeAny_func ?_⟩
  obtain ⟨t, ht, hq⟩ := hbody A outer s H vs Q E a oe c d hz hf (hr.deeper _) hsp
  have I : Inv (L2H.cxH CX0 P w K mg base N qual scope f cdv A outer s H E (a, oe)) [] (L2.start N vs) H s1 := L2H.inv_startH S hpin e0 hl r x
  refine wpAny_mono (ht.run [] s1 (L2.start N vs) H _ I hq) (fun fl s' hs => ?_) fun e s' hs => hs
  have fin : ∀ {σ' : L2.St} {H' : Hp} {v : V} {u : Value}, Inv (L2H.cxH CX0 P w K mg base N qual scope f cdv A outer s H E (a, oe)) [] σ' H' s' → RelV v u → Q v H' → CE outer P w H s Q u s' :=
    fun {σ' H' v u} J rv q => ⟨v, H', J.os, J.bare, J.base, J.hok, rv, q⟩
  cases fl with
  | ret u =>
    obtain ⟨v, σ', H', J, rv, q⟩ := hs
    exact fin J rv q
  | next =>
    obtain ⟨σ', H', J, q⟩ := hs
    exact fin (v := V.non) (u := Value.none) J rfl q
  | brk =>
    obtain ⟨_, _, _, q⟩ := hs
    exact False.elim q
  | cont =>
    obtain ⟨_, _, _, q⟩ := hs
    exact False.elim q
theorem Fun.okE {P : Program} {w : World} {K : PySem.W.Frag} {mg : Str → Option Value} {base : Heap} {x qual : Str} {st : Stmt} {f : Addr} {fd : FuncData} {N ps : List Str} {k : Nat} {sp : SpE} (F : Fun K x qual st f fd) (S : FnScope N ps (defScope st))
    (len : ∀ a c d vs H Q E, sp a c d vs H Q E → vs.length = ps.length)
    (hbody : ∀ (cdv : Value) (A : Around) (outer : List Env) (s : Shared) (H : Hp) (vs : List V) (Q : VK) (E : XK) (a : Addr) (oe : Obj) (c : Value) (d : Option Addr), Zc c d oe → (∃ vs, oe.data = .fields vs) → L2H.RoomH k (A.deeper (envOfC qual (defScope st) s.heap.objs.size f cdv)) → sp a c d vs H Q E →
      ∃ t, PSs (L2H.cxH CX0 P w K mg base N qual (defScope st) f cdv A outer s H E (a, oe)) (defBody st) t ∧ t { nx := fun _ H' => Q .non H', rt := Q } (L2.start N vs) H) :
    FnE P w K mg base (k + 1) f fd ps sp := by
  obtain ⟨oc, od, kV, doc, pm, an, cdv, ct, osl, rfl, lk, hcd⟩ := F.ex
  exact fn_ofE lk hcd S len (hbody cdv)
/-- the call f(e) in the suite -/
def tCallE (sp : SpE) (a : Addr) (c : Value) (d : Option Addr) (t : TA) : TE := fun σ H Q => t σ H fun vs H1 => sp a c d vs H1 Q fun _ _ _ => False
theorem pe_callE {X : Cx} {k : Nat} {f : Addr} {fd : FuncData} {ps : List Str} {sp : SpE} {x : Str} {q pos : Pos} {e : Expr} {es : List Expr} {t : TA} {a : Addr} {oe : Obj} {pn : List (Addr × Obj)} {c : Value} {d : Option Addr}
    (F : FnE X.prog X.w X.K X.mg X.base k f fd ps sp) (hr : Room k X.A) (hz : Zc c d oe) (hf : ∃ vs, oe.data = .fields vs) (hg : Gl (X.suite a ((a, oe) :: pn)) x) (hm : X.mg x = some (.ref f)) (hk : PySem.W.keepIn X.K (.ref f) = true) (hb : Binds X.K fd ps [])
    (ha : PA (X.suite a ((a, oe) :: pn)) (e :: es) t) (hdb : (x == ("__debug__" : Str)) = false := by decide) (he : starEach (e :: es) X.env = (false, eval e X.env) :: starEach es X.env := by rfl) (hpl : (backTo pos (starEach es X.env)).any (·.1) = false := by rfl) :
    PE (X.suite a ((a, oe) :: pn)) (.Call (.Name x q) (e :: es) [] pos) (tCallE sp a c d t) := by
  refine ⟨fun pins s σ H Q I h => ?_⟩
  refine wpAny_Call_Name_kw (ld_glob I hg hm ?_ hdb)
  refine PySem.W.callWith_K (h₀ := X.base) I.ok.mod.kin hk (thn (ha.run pos pins s σ H _ I h) fun us s1 ⟨vs, H1, I1, r, q⟩ => ⟨I1.kIn, ?_⟩) he hpl
  have hl : us.length = ps.length := by rw [← r.length]; exact F.len _ _ _ _ _ _ _ q
  have b := hb s1 us I1.kIn (by rw [List.append_nil]; exact hl)
  rw [List.append_nil] at b
  have P1 := I1.pin (a, oe) (List.mem_append_left _ List.mem_cons_self)
  have hpin : L2H.PinOk X.stack H1 s1 (a, oe) := ⟨P1.1, P1.2.1, fun hm => (List.mem_cons.mp (I1.stkSub a hm)).elim P1.2.2.1 P1.2.2.2.1, P1.2.2.2.2⟩
  have hr2 : L2H.RoomH k (X.suite a ((a, oe) :: pn)).A := ⟨hr.dp, hr.un⟩
  refine wpAny_call (codeAny_mono (F.run _ X.stack s1 H1 ⟨us, []⟩ us vs Q _ a oe c d hr2 hpin hz hf I1.env0 b r q) fun r s' hq => ?_)
  cases r with
  | error e => exact False.elim hq
  | ok fl =>
    cases fl with
    | ret u => exact I1.after hq
    | next => exact False.elim hq
    | brk => exact False.elim hq
    | cont => exact False.elim hq
/-- isinstance(e, C) in the def that was handed e -/
theorem call_isP {X : Cx} (K : PySem.W.Frag) {a : Addr} {oe : Obj} {cls : Value} {d : Option Addr} (h : X.K = K) (hp : (a, oe) ∈ X.pn) (hz : Zc cls d oe) (hf : ∃ vs, oe.data = .fields vs) : CallR X (.builtin "isinstance") (rIsX K cls d a) := by
  subst h
  intro pins s σ H xs us Q I r h'
  obtain ⟨D, c, cv, b, rfl, hd, C, rfl, hc, hk, q⟩ := h'
  cases r with | cons rx rr =>
  cases rr with | cons rt rr =>
  cases rr
  cases rx
  have ec := hc.eq rt
  subst ec
  obtain ⟨hget, _⟩ := I.pin (a, oe) (List.mem_append_left _ hp)
  obtain ⟨vs, hv⟩ := hf
  have hcl : (PySem.W.clsIn X.K D).isSome = true := by
    obtain ⟨cd, hc, _⟩ := PySem.W.any_some C.hd
    rw [hc]
    first | rfl | done
  have nc : PySem.W.notCls oe = true := by
    unfold PySem.W.notCls
    rw [hv]
  rcases hd with rfl | ⟨dd, fs, rfl, hdd⟩
  · have J : PySem.W.InstAt s.heap a oe D none := ⟨hget, hz.1, nc, by rw [hz.2]; trivial⟩
    exact PySem.W.kia_one (PySem.W.kitx_exc hcl C.hg C.hk C.hs C.ha C.hn C.ht C.hm) I.kIn J hk (fun z => nomatch z) fun tk => ⟨.bl b, H, I.kept (t' := tk) fun _ _ z => z, rfl, q⟩
  · obtain ⟨mA, hns, hr⟩ := I.hok dd _ hdd
    obtain ⟨od, ho, hl⟩ := lookIn_ns hns
    have J : PySem.W.InstAt s.heap a oe D (some od) := ⟨hget, hz.1, nc, by rw [hz.2]; exact ho⟩
    exact PySem.W.kia_one (PySem.W.kitx_exc hcl C.hg C.hk C.hs C.ha C.hn C.ht C.hm) I.kIn J hk (fun z => nomatch z) fun tk => ⟨.bl b, H, I.kept (t' := tk) fun _ _ z => z, rfl, q⟩

/-! ### min, max of a tuple of ints -/
def rMinT (K : PySem.W.Frag) : List V → Hp → VK → Prop := fun vs H Q => ∃ (a : Addr) (n : Int) (ns : List Int), vs = [V.ref a] ∧ SqT K H a ((n :: ns).map V.int) ∧ Q (.int (ns.foldl min n)) H
def rMaxT (K : PySem.W.Frag) : List V → Hp → VK → Prop := fun vs H Q => ∃ (a : Addr) (n : Int) (ns : List Int), vs = [V.ref a] ∧ SqT K H a ((n :: ns).map V.int) ∧ Q (.int (ns.foldl max n)) H
section
variable {X : Cx}
theorem alikeT_ints (ns : List Int) : PySem.W.AlikeAll (ns.map PyData.int) := by
  refine ⟨fun x hx y hy => ?_, fun x hx => ?_⟩
  · obtain ⟨a, _, rfl⟩ := List.mem_map.mp hx
    obtain ⟨b, _, rfl⟩ := List.mem_map.mp hy
    rfl
  · obtain ⟨a, _, rfl⟩ := List.mem_map.mp hx
    intro z
    cases z
theorem dep_intsT : ∀ ns : List Int, PyData.depthAll (ns.map PyData.int) ≤ 1
  | [] => by simp [PyData.depthAll]
  | n :: r => by
    have h := dep_intsT r
    simp only [List.map_cons, PyData.depthAll, PyData.depth]
    omega
theorem cr_minT (hc : X.calm = true) (hu : X.A.units + 64 < cLine) : CallR X (.builtin "min") (rMinT X.K) := by
  intro pins s σ H xs us Q I r h
  obtain ⟨a, n, ns, rfl, hs, q⟩ := h
  obtain ⟨its, rv, hl, _⟩ := I.tuple hs
  rw [Vals.ref1 r]
  refine PySem.W.min_tuple_data (I.ok.hd hc) hl (IntsAre.reads _ rv.ints) (alikeT_ints (n :: ns)) (by have := dep_intsT (n :: ns); rw [List.map_cons] at this; omega) fun i v h' tk bs hv hr hk => ?_
  rw [PySem.W.minD_ints] at hr
  cases hr
  exact ⟨.int _, H, I.kept hk, ⟨_, rfl⟩, q⟩
theorem cr_maxT (hc : X.calm = true) (hu : X.A.units + 64 < cLine) : CallR X (.builtin "max") (rMaxT X.K) := by
  intro pins s σ H xs us Q I r h
  obtain ⟨a, n, ns, rfl, hs, q⟩ := h
  obtain ⟨its, rv, hl, _⟩ := I.tuple hs
  rw [Vals.ref1 r]
  refine PySem.W.max_tuple_data (I.ok.hd hc) hl (IntsAre.reads _ rv.ints) (alikeT_ints (n :: ns)) (by have := dep_intsT (n :: ns); rw [List.map_cons] at this; omega) fun i v h' tk bs hv hr hk => ?_
  rw [PySem.W.maxD_ints] at hr
  cases hr
  exact ⟨.int _, H, I.kept hk, ⟨_, rfl⟩, q⟩
end
theorem sl_tupK {X : Cx} (K : PySem.W.Frag) (h : X.K = K) : SlR X (rSlT K) := h ▸ sl_tup
theorem sl_listK {X : Cx} (K : PySem.W.Frag) (h : X.K = K) : SlR X (rSlL K) := h ▸ sl_list

/-! ### dicts whose keys are texts and tuples -/
inductive MK where
  | t (x : Str)
  | u (ks : List Key)
  deriving DecidableEq
def mkIs (P : Program) (w : World) (h : Heap) : MK → Value → Prop
  | .t x, v => ∃ t, v = Value.str x t
  | .u ks, v => ∃ a, v = Value.ref a ∧ (tupleKind (mixKind P w)).is h ks a
def mkHash (P : Program) (w : World) : MK → Int
  | .t x => hashStr w x
  | .u ks => (tupleKind (mixKind P w)).hash ks
def mkDraws : MK → Nat
  | .t _ => 1
  | .u ks => ks.length + 1
def entryM (P : Program) (w : World) (x : MK × Value × Value) : DictEntry := ⟨mkHash P w x.1, x.2.1, x.2.2⟩
def DictM (P : Program) (w : World) (h : Heap) (d : Addr) (xs : List (MK × Value × Value)) : Prop :=
  ∃ o es ep, h.get? d = some o ∧ o.ExactDict ∧ o.data = .dict es ep ∧ es.toList = xs.map (entryM P w) ∧ (∀ x ∈ xs, mkIs P w h x.1 x.2.1) ∧ (xs.map (·.1)).Nodup
section
variable {prog : Program} {w : World} {A : Around} {E : Value → Shared → Prop} {s : Shared}
theorem mkIs.inj {h : Heap} {v : Value} : ∀ {x y : MK}, mkIs prog w h x v → mkIs prog w h y v → x = y
  | .t x, .t y, ⟨_, e⟩, ⟨_, e'⟩ => by rw [e] at e'; cases e'; rfl
  | .t x, .u y, ⟨_, e⟩, ⟨_, e', _⟩ => by rw [e] at e'; cases e'
  | .u x, .t y, ⟨_, e, _⟩, ⟨_, e'⟩ => by rw [e] at e'; cases e'
  | .u x, .u y, ⟨_, e, h1⟩, ⟨_, e', h2⟩ => by rw [e] at e'; cases e'; rw [(tupleKind (mixKind prog w)).inj h1 h2]
theorem mkIs.keeps {h h' : Heap} {d : Addr} {o : Obj} {es ep} {v : Value} (ho : h.get? d = some o) (hd : o.data = .dict es ep) (hs : Heap.SameBut d h h') : ∀ {k : MK}, mkIs prog w h k v → mkIs prog w h' k v
  | .t _, x => x
  | .u _, ⟨a, e, x⟩ => ⟨a, e, (tupleKind (mixKind prog w)).keeps x ho hd hs⟩
theorem mkIs.pyHash {v : Value} {Q : Int → Shared → Prop} (hu : A.units < cLine) : ∀ {k : MK}, mkIs prog w s.heap k v → Q (mkHash prog w k) { s with toks := s.toks + mkDraws k } → wpAny (model prog w) A (PySem.pyHash v) Q E s
  | .t x, ⟨t, e⟩, h => by rw [e]; exact wpAny_pyHash_str h
  | .u ks, ⟨a, e, x⟩, h => by rw [e]; exact (tupleKind (mixKind prog w)).pyHash hu x h
theorem mkIs.tup {h : Heap} {ks : List Key} {a : Addr} (x : (tupleKind (mixKind prog w)).is h ks a) : ∃ items, h.IsTuple a items := by
  obtain ⟨o, items, n, h1, h2, h3, _⟩ := x
  exact ⟨items, o, h1, h2, n, h3⟩
theorem mkIs.eqBool {u v : Value} {Q : Bool → Shared → Prop} (hu : A.units < cLine) : ∀ {x y : MK}, mkIs prog w s.heap x u → mkIs prog w s.heap y v → Q (decide (x = y)) s → wpAny (model prog w) A (PySem.eqBool u v) Q E s
  | .t x, .t y, ⟨t, e⟩, ⟨t', e'⟩, h => by
    rw [e, e']
    refine wpAny_eqBool_str ?_
    have q : decide (MK.t x = MK.t y) = decide (x = y) := by
      by_cases z : x = y
      · subst z; simp
      · rw [decide_eq_false z, decide_eq_false fun c => z (by cases c; rfl)]
    rw [q] at h
    exact h
  | .t x, .u y, ⟨t, e⟩, ⟨a, e', z⟩, h => by
    rw [e, e']
    obtain ⟨items, hi⟩ := mkIs.tup z
    rw [decide_eq_false (fun c => nomatch c)] at h
    exact SeqAt.EqAt.str_tuple x t hi hu _ _ _ _ h
  | .u x, .t y, ⟨a, e, z⟩, ⟨t', e'⟩, h => by
    rw [e, e']
    obtain ⟨items, hi⟩ := mkIs.tup z
    rw [decide_eq_false (fun c => nomatch c)] at h
    exact SeqAt.EqAt.tuple_str y t' hi hu _ _ _ _ h
  | .u x, .u y, ⟨a, e, z⟩, ⟨b, e', z'⟩, h => by
    rw [e, e']
    have q : decide (MK.u x = MK.u y) = decide (x = y) := by
      by_cases z : x = y
      · subst z; simp
      · rw [decide_eq_false z, decide_eq_false fun c => z (by cases c; rfl)]
    rw [q] at h
    exact (tupleKind (mixKind prog w)).eqBool hu z z' h
theorem mkIs.quiet {v : Value} {Q : Bool → Shared → Prop} : ∀ {k : MK}, mkIs prog w s.heap k v → Q true s → wpAny (model prog w) A (eqIsQuiet 8 v) Q E s
  | .t x, ⟨t, e⟩, h => by
    rw [e, eqIsQuiet_byValue 8 (show carriedByValue (Value.str x t) = true from rfl)]
    exact wpAny_pure h
  | .u ks, ⟨a, e, x⟩, h => by rw [e]; exact (tupleKind (mixKind prog w)).quiet x h
theorem entryM_at {es : Array DictEntry} {xs : List (MK × Value × Value)} (he : es.toList = xs.map (entryM prog w)) (j : Nat) : es[j]? = (xs[j]?).map (entryM prog w) := by
  rw [← Array.getElem?_toList, he, List.getElem?_map]
theorem sizeM {es : Array DictEntry} {xs : List (MK × Value × Value)} (he : es.toList = xs.map (entryM prog w)) : es.size = xs.length := by
  rw [← Array.length_toList, he, List.length_map]
theorem idxM {xs : List (MK × Value × Value)} (hn : (xs.map (·.1)).Nodup) {i j : Nat} {k : MK} {p q : Value × Value} (hi : xs[i]? = some (k, p)) (hj : xs[j]? = some (k, q)) : i = j := by
  have hi' : (xs.map (·.1))[i]? = some k := by rw [List.getElem?_map, hi]; rfl
  have hj' : (xs.map (·.1))[j]? = some k := by rw [List.getElem?_map, hj]; rfl
  exact (List.getElem?_inj (List.getElem?_eq_some_iff.mp hi').1 hn).mp (hi'.trans hj'.symm)
theorem tellM {key : Value} {k : MK} {stored : List Value} {Q : Bool → Shared → Prop} (hkey : mkIs prog w s.heap k key) (hst : ∀ v ∈ stored, ∃ k', mkIs prog w s.heap k' v) (h : Q false s) :
    wpAny (model prog w) A (tableMayTell key stored) Q E s := by
  unfold tableMayTell
  split
  · exact wpAny_pure h
  · refine wpAny_bind (mkIs.quiet hkey ?_)
    simp only [Bool.not_true, Bool.false_eq_true, if_false]
    refine wpAny_bind ?_
    refine wpAny_forIn_list _ (fun rest r s' => s' = s ∧ r = (none, ()) ∧ ∀ v ∈ rest, ∃ k', mkIs prog w s.heap k' v) _ ?_ ?_ _ _ ⟨rfl, rfl, hst⟩
    · rintro x rest r s' ⟨rfl, rfl, hr⟩
      obtain ⟨k', hb⟩ := hr x List.mem_cons_self
      refine wpAny_bind (mkIs.quiet hb ?_)
      simp only [Bool.not_true, Bool.false_eq_true, if_false]
      exact wpAny_pure ⟨rfl, rfl, fun v hv => hr v (List.mem_cons_of_mem _ hv)⟩
    · rintro r s' ⟨rfl, rfl, _⟩
      exact wpAny_pure h
theorem findM {d : Addr} {key : Value} {o : Obj} {es ep} {xs : List (MK × Value × Value)} {k : MK} {Q : Option Nat → Shared → Prop} (hu : A.units < cLine) (hkey : mkIs prog w s.heap k key)
    (ho : s.heap.get? d = some o) (hd : o.data = .dict es ep) (he : es.toList = xs.map (entryM prog w)) (his : ∀ x ∈ xs, mkIs prog w s.heap x.1 x.2.1) (hn : (xs.map (·.1)).Nodup)
    (hnone : (∀ (j : Nat) (p : Value × Value), xs[j]? ≠ some (k, p)) → Q none s) (hsome : ∀ (j : Nat) (p : Value × Value), xs[j]? = some (k, p) → Q (some j) s) :
    wpAny (model prog w) A (dictFind d key (mkHash prog w k)) Q E s := by
  have hsz : es.size = xs.length := sizeM he
  have haskey : ∀ (j : Nat) (p : Value × Value), xs[j]? = some (k, p) → ((es[j]?.map (·.hash)) == some (mkHash prog w k)) = true := by
    intro j p hj
    rw [entryM_at he j, hj]
    simp [entryM]
  have hmem : ∀ e ∈ es, ∃ x ∈ xs, e = entryM prog w x := by
    intro e hin
    have : e ∈ xs.map (entryM prog w) := he ▸ Array.mem_toList_iff.mpr hin
    obtain ⟨x, hx, rfl⟩ := List.mem_map.mp this
    exact ⟨x, hx, rfl⟩
  have hany : ¬ (es.any fun e => e.key == key && e.hash != mkHash prog w k) = true := by
    rw [← Array.any_toList, List.any_eq_true]
    rintro ⟨e, hin, hc⟩
    obtain ⟨x, hx, rfl⟩ := hmem e (Array.mem_toList_iff.mp hin)
    simp only [entryM, Bool.and_eq_true, beq_iff_eq, bne_iff_ne, ne_eq] at hc
    obtain ⟨hxa, hne⟩ := hc
    have := his x hx
    rw [hxa] at this
    exact hne (by rw [mkIs.inj this hkey])
  have hst : ∀ v ∈ (placesWithHash es.size (fun i => es[i]?.map (·.hash)) (mkHash prog w k)).filterMap (fun i => es[i]?.map (·.key)), ∃ k', mkIs prog w s.heap k' v := by
    intro v hv
    obtain ⟨i, _, hi⟩ := List.mem_filterMap.mp hv
    cases hei : es[i]? with
    | none => rw [hei] at hi; cases hi
    | some e =>
      rw [hei] at hi
      obtain rfl : e.key = v := by simpa using hi
      obtain ⟨x, hx, rfl⟩ := hmem e (Array.mem_of_getElem? hei)
      exact ⟨x.1, his x hx⟩
  -- the walk where all is carried by value
  have plain : wpAny (model prog w) A (dictWalkPlain d key (mkHash prog w k) es (placesWithHash es.size (fun i => es[i]?.map (·.hash)) (mkHash prog w k))) Q E s := by
    refine wpAny_bind ?_
    refine wpAny_forIn_list _
      (fun rest b s' => s' = s ∧ b = (none, ()) ∧ ∃ i, rest = (List.range' i (es.size - i)).filter (fun i => (es[i]?.map (·.hash)) == some (mkHash prog w k)) ∧ i ≤ es.size ∧ ∀ j p, j < i → xs[j]? ≠ some (k, p)) _ ?_ ?_ _ _
      ⟨rfl, rfl, 0, by rw [placesWithHash, List.range_eq_range', Nat.sub_zero], Nat.zero_le _, fun _ _ h => absurd h (Nat.not_lt_zero _)⟩
    · rintro x rest b s' ⟨rfl, rfl, i, hr, hi, hno⟩
      obtain ⟨hix, hxn, hpx, hskip, hrest⟩ := filter_range'_cons _ _ _ _ _ hr.symm
      have hlt : x < es.size := by omega
      obtain ⟨⟨k', b, v'⟩, hkv⟩ : ∃ y, xs[x]? = some y := ⟨xs[x]'(by rw [← hsz]; exact hlt), List.getElem?_eq_getElem _⟩
      have hib : mkIs prog w s'.heap k' b := his _ (List.mem_of_getElem? hkv)
      have hex : es[x]? = some ⟨mkHash prog w k', b, v'⟩ := by rw [entryM_at he x, hkv]; rfl
      have hnext : ¬ k' = k → ∃ i, rest = (List.range' i (es.size - i)).filter (fun i => (es[i]?.map (·.hash)) == some (mkHash prog w k)) ∧ i ≤ es.size ∧ ∀ j p, j < i → xs[j]? ≠ some (k, p) := fun hne =>
        ⟨x + 1, by rw [hrest]; congr 2; omega, hlt, fun j p hji hj => by
          rcases Nat.lt_or_ge j i with h | h
          · exact hno j p h hj
          · rcases Nat.lt_or_ge j x with h' | h'
            · have := hskip j h h'
              rw [haskey j p hj] at this
              exact absurd this (by decide)
            · have e : j = x := by omega
              subst e
              rw [hkv] at hj
              injection hj with hj
              injection hj with hj
              exact hne hj⟩
      simp only [hex]
      by_cases hh : (mkHash prog w k' == mkHash prog w k) = true
      · rw [if_pos hh]
        refine wpAny_bind (wpAny_dictEpoch ho hd (wpAny_bind (mkIs.eqBool (x := k') (y := k) hu hib hkey (wpAny_bind (wpAny_dictEpoch ho hd ?_)))))
        show wpAny _ _ (if (ep != ep) = true then _ else _) _ E _
        rw [if_neg (by simp)]
        by_cases hkk : k' = k
        · rw [decide_eq_true hkk]
          subst hkk
          exact wpAny_bind (wpAny_rule (wpAny_pure (wpAny_pure (hsome x _ hkv))))
        · rw [decide_eq_false hkk]
          exact wpAny_bind (wpAny_rule (wpAny_pure ⟨rfl, rfl, hnext hkk⟩))
      · rw [if_neg hh]
        refine wpAny_pure ⟨rfl, rfl, hnext ?_⟩
        intro hkk
        rw [hkk] at hh; simp at hh
    · rintro b s' ⟨rfl, rfl, i, hr, hi, hno⟩
      have hall : ∀ j, i ≤ j → j < es.size → ((es[j]?.map (·.hash)) == some (mkHash prog w k)) = false := by
        intro j h1 h2
        have := List.filter_eq_nil_iff.mp hr.symm j (List.mem_range'_1.mpr ⟨h1, by omega⟩)
        simpa using this
      refine wpAny_pure (hnone fun j p hj => ?_)
      rcases Nat.lt_or_ge j i with h | h
      · exact hno j p h hj
      · have hjl : j < es.size := by
          rw [hsz]
          rcases Nat.lt_or_ge j xs.length with h' | h'
          · exact h'
          · rw [List.getElem?_eq_none h'] at hj; exact nomatch hj
        have := hall j h hjl
        rw [haskey j p hj] at this
        exact absurd this (by decide)
  unfold dictFind
  try with_reducible refine wpAny_holding ?_
  refine wpAny_bind (wpAny_dictEntries ho hd ?_)
  dsimp only
  -- the rest behind the look for texts alone
  generalize hrest0 : (if ((key :: (placesWithHash es.size (fun i => es[i]?.map (·.hash)) (mkHash prog w k)).filterMap (fun i => es[i]?.map (·.key))).all carriedByValue) = true then _ else _ : Sem (Option Nat)) = REST
  have hREST : wpAny (model prog w) A REST Q E s := by
    subst hrest0
    by_cases hall : ((key :: (placesWithHash es.size (fun i => es[i]?.map (·.hash)) (mkHash prog w k)).filterMap (fun i => es[i]?.map (·.key))).all carriedByValue) = true
    · rw [if_pos hall]
      exact plain
    · rw [if_neg hall]
      have hk0 : (∃ x tk, key = Value.str x tk) ∨ ∃ a, key = Value.ref a := by
        cases k with
        | t x => obtain ⟨tk, e⟩ := hkey; exact .inl ⟨x, tk, e⟩
        | u ks => obtain ⟨a, e, _⟩ := hkey; exact .inr ⟨a, e⟩
      rcases hk0 with ⟨x0, tk0, rfl⟩ | ⟨a0, rfl⟩
      · dsimp only
        by_cases hone : (((placesWithHash es.size (fun i => es[i]?.map (·.hash)) (mkHash prog w k)).filterMap (fun i => es[i]?.map (·.key))) == [Value.str x0 tk0]) = true <;>
        (first | rw [if_pos hone] | rw [if_neg hone]) <;> (first | refine wpAny_bind (wpAny_pure ?_) | refine wpAny_bind (tellM hkey hst ?_)) <;> (
          rw [if_neg (by simp)]
          refine wpAny_bind ?_
          refine wpAny_forIn_list _
            (fun rest b s' => s' = s ∧ ∃ i hit, b = (none, hit) ∧ rest = (List.range' i (es.size - i)).filter (fun i => (es[i]?.map (·.hash)) == some (mkHash prog w k)) ∧ i ≤ es.size ∧
              ((hit = none ∧ ∀ j p, j < i → xs[j]? ≠ some (k, p)) ∨ ∃ j p, hit = some j ∧ j < i ∧ xs[j]? = some (k, p))) _ ?_ ?_ _ _
            ⟨rfl, 0, none, rfl, by rw [placesWithHash, List.range_eq_range', Nat.sub_zero], Nat.zero_le _, .inl ⟨rfl, fun _ _ h => absurd h (Nat.not_lt_zero _)⟩⟩
          · rintro x rest b s' ⟨rfl, i, hit, rfl, hr, hi, hH⟩
            obtain ⟨hix, hxn, hpx, hskip, hrest⟩ := filter_range'_cons _ _ _ _ _ hr.symm
            have hlt : x < es.size := by omega
            have hrest' : rest = (List.range' (x + 1) (es.size - (x + 1))).filter (fun i => (es[i]?.map (·.hash)) == some (mkHash prog w k)) := by rw [hrest]; congr 2; omega
            obtain ⟨⟨k', b, v'⟩, hkv⟩ : ∃ y, xs[x]? = some y := ⟨xs[x]'(by rw [← hsz]; exact hlt), List.getElem?_eq_getElem _⟩
            have hib : mkIs prog w s'.heap k' b := his _ (List.mem_of_getElem? hkv)
            have hex : es[x]? = some ⟨mkHash prog w k', b, v'⟩ := by rw [entryM_at he x, hkv]; rfl
            have hHx : (hit = none ∧ ∀ j p, j < x → xs[j]? ≠ some (k, p)) ∨ ∃ j p, hit = some j ∧ j < x ∧ xs[j]? = some (k, p) := by
              rcases hH with ⟨h0, hno⟩ | ⟨j, p, h1, hji, hj⟩
              · refine .inl ⟨h0, fun j p hjx hj => ?_⟩
                rcases Nat.lt_or_ge j i with h | h
                · exact hno j p h hj
                · have := hskip j h hjx
                  rw [haskey j p hj] at this
                  exact absurd this (by decide)
              · exact .inr ⟨j, p, h1, by omega, hj⟩
            have hstay : ¬ k' = k → ((hit = none ∧ ∀ j p, j < x + 1 → xs[j]? ≠ some (k, p)) ∨ ∃ j p, hit = some j ∧ j < x + 1 ∧ xs[j]? = some (k, p)) := by
              intro hne
              rcases hHx with ⟨h0, hno⟩ | ⟨j, p, h1, hjx, hj⟩
              · refine .inl ⟨h0, fun j p hjx hj => ?_⟩
                rcases Nat.lt_or_ge j x with h | h
                · exact hno j p h hj
                · have hjx' : j = x := by omega
                  subst hjx'
                  rw [hkv] at hj
                  injection hj with hj
                  injection hj with hj
                  exact hne hj
              · exact .inr ⟨j, p, h1, by omega, hj⟩
            rw [hex]
            dsimp only
            by_cases hh : (mkHash prog w k' == mkHash prog w k) = true
            · rw [if_pos hh]
              refine wpAny_bind (wpAny_dictEpoch ho hd (wpAny_bind (mkIs.eqBool (x := k') (y := k) hu hib hkey (wpAny_bind (wpAny_dictEpoch ho hd ?_)))))
              show wpAny _ _ (if (ep != ep) = true then _ else _) _ E _
              rw [if_neg (by simp)]
              by_cases hkk : k' = k
              · rw [decide_eq_true hkk]
                subst hkk
                rcases hHx with ⟨rfl, _⟩ | ⟨j, p, _, hjx, hj⟩
                · first | rw [if_pos rfl] | skip
                  simp only [Option.isSome_none, Bool.false_eq_true, if_false]
                  first | refine wpAny_bind (wpAny_pure ?_) | skip
                  refine wpAny_bind (wpAny_rule ?_)
                  split
                  · exact wpAny_pure (wpAny_pure (hsome x _ hkv))
                  · exact wpAny_pure ⟨rfl, x + 1, some x, rfl, hrest', hlt, .inr ⟨x, _, rfl, Nat.lt_succ_self x, hkv⟩⟩
                · exact absurd (idxM hn hj hkv) (by omega)
              · rw [decide_eq_false hkk]
                simp only [Bool.false_eq_true, if_false]
                refine wpAny_bind (wpAny_rule ?_)
                first | rw [if_neg (by simp)] | skip
                first
                  | exact wpAny_pure ⟨rfl, x + 1, hit, rfl, hrest', hlt, hstay hkk⟩
                  | exact wpAny_bind (wpAny_pure (wpAny_pure ⟨rfl, x + 1, hit, rfl, hrest', hlt, hstay hkk⟩))
            · rw [if_neg hh]
              refine wpAny_pure ⟨rfl, x + 1, hit, rfl, hrest', hlt, hstay ?_⟩
              intro hkk
              rw [hkk] at hh; simp at hh
          · rintro b s' ⟨rfl, i, hit, rfl, hr, hi, hH⟩
            have hall : ∀ j, i ≤ j → j < es.size → ((es[j]?.map (·.hash)) == some (mkHash prog w k)) = false := by
              intro j h1 h2
              have := List.filter_eq_nil_iff.mp hr.symm j (List.mem_range'_1.mpr ⟨h1, by omega⟩)
              simpa using this
            rcases hH with ⟨rfl, hno⟩ | ⟨j, p, rfl, _, hj⟩
            · refine wpAny_pure (hnone fun j p hj => ?_)
              rcases Nat.lt_or_ge j i with h | h
              · exact hno j p h hj
              · have hjl : j < es.size := by
                  rw [hsz]
                  rcases Nat.lt_or_ge j xs.length with h' | h'
                  · exact h'
                  · rw [List.getElem?_eq_none h'] at hj; exact nomatch hj
                have := hall j h hjl
                rw [haskey j p hj] at this
                exact absurd this (by decide)
            · exact wpAny_pure (hsome j p hj))
      · dsimp only
        rw [if_neg hany]
        by_cases hone : (((placesWithHash es.size (fun i => es[i]?.map (·.hash)) (mkHash prog w k)).filterMap (fun i => es[i]?.map (·.key))) == [Value.ref a0]) = true <;>
        (first | rw [if_pos hone] | rw [if_neg hone]) <;> (first | refine wpAny_bind (wpAny_pure ?_) | refine wpAny_bind (tellM hkey hst ?_)) <;> (
          rw [if_neg (by simp)]
          refine wpAny_bind ?_
          refine wpAny_forIn_list _
            (fun rest b s' => s' = s ∧ ∃ i hit, b = (none, hit) ∧ rest = (List.range' i (es.size - i)).filter (fun i => (es[i]?.map (·.hash)) == some (mkHash prog w k)) ∧ i ≤ es.size ∧
              ((hit = none ∧ ∀ j p, j < i → xs[j]? ≠ some (k, p)) ∨ ∃ j p, hit = some j ∧ j < i ∧ xs[j]? = some (k, p))) _ ?_ ?_ _ _
            ⟨rfl, 0, none, rfl, by rw [placesWithHash, List.range_eq_range', Nat.sub_zero], Nat.zero_le _, .inl ⟨rfl, fun _ _ h => absurd h (Nat.not_lt_zero _)⟩⟩
          · rintro x rest b s' ⟨rfl, i, hit, rfl, hr, hi, hH⟩
            obtain ⟨hix, hxn, hpx, hskip, hrest⟩ := filter_range'_cons _ _ _ _ _ hr.symm
            have hlt : x < es.size := by omega
            have hrest' : rest = (List.range' (x + 1) (es.size - (x + 1))).filter (fun i => (es[i]?.map (·.hash)) == some (mkHash prog w k)) := by rw [hrest]; congr 2; omega
            obtain ⟨⟨k', b, v'⟩, hkv⟩ : ∃ y, xs[x]? = some y := ⟨xs[x]'(by rw [← hsz]; exact hlt), List.getElem?_eq_getElem _⟩
            have hib : mkIs prog w s'.heap k' b := his _ (List.mem_of_getElem? hkv)
            have hex : es[x]? = some ⟨mkHash prog w k', b, v'⟩ := by rw [entryM_at he x, hkv]; rfl
            have hHx : (hit = none ∧ ∀ j p, j < x → xs[j]? ≠ some (k, p)) ∨ ∃ j p, hit = some j ∧ j < x ∧ xs[j]? = some (k, p) := by
              rcases hH with ⟨h0, hno⟩ | ⟨j, p, h1, hji, hj⟩
              · refine .inl ⟨h0, fun j p hjx hj => ?_⟩
                rcases Nat.lt_or_ge j i with h | h
                · exact hno j p h hj
                · have := hskip j h hjx
                  rw [haskey j p hj] at this
                  exact absurd this (by decide)
              · exact .inr ⟨j, p, h1, by omega, hj⟩
            have hstay : ¬ k' = k → ((hit = none ∧ ∀ j p, j < x + 1 → xs[j]? ≠ some (k, p)) ∨ ∃ j p, hit = some j ∧ j < x + 1 ∧ xs[j]? = some (k, p)) := by
              intro hne
              rcases hHx with ⟨h0, hno⟩ | ⟨j, p, h1, hjx, hj⟩
              · refine .inl ⟨h0, fun j p hjx hj => ?_⟩
                rcases Nat.lt_or_ge j x with h | h
                · exact hno j p h hj
                · have hjx' : j = x := by omega
                  subst hjx'
                  rw [hkv] at hj
                  injection hj with hj
                  injection hj with hj
                  exact hne hj
              · exact .inr ⟨j, p, h1, by omega, hj⟩
            rw [hex]
            dsimp only
            by_cases hh : (mkHash prog w k' == mkHash prog w k) = true
            · rw [if_pos hh]
              refine wpAny_bind (wpAny_dictEpoch ho hd (wpAny_bind (mkIs.eqBool (x := k') (y := k) hu hib hkey (wpAny_bind (wpAny_dictEpoch ho hd ?_)))))
              show wpAny _ _ (if (ep != ep) = true then _ else _) _ E _
              rw [if_neg (by simp)]
              by_cases hkk : k' = k
              · rw [decide_eq_true hkk]
                subst hkk
                rcases hHx with ⟨rfl, _⟩ | ⟨j, p, _, hjx, hj⟩
                · first | rw [if_pos rfl] | skip
                  simp only [Option.isSome_none, Bool.false_eq_true, if_false]
                  first | refine wpAny_bind (wpAny_pure ?_) | skip
                  refine wpAny_bind (wpAny_rule ?_)
                  split
                  · exact wpAny_pure (wpAny_pure (hsome x _ hkv))
                  · exact wpAny_pure ⟨rfl, x + 1, some x, rfl, hrest', hlt, .inr ⟨x, _, rfl, Nat.lt_succ_self x, hkv⟩⟩
                · exact absurd (idxM hn hj hkv) (by omega)
              · rw [decide_eq_false hkk]
                simp only [Bool.false_eq_true, if_false]
                refine wpAny_bind (wpAny_rule ?_)
                first | rw [if_neg (by simp)] | skip
                first
                  | exact wpAny_pure ⟨rfl, x + 1, hit, rfl, hrest', hlt, hstay hkk⟩
                  | exact wpAny_bind (wpAny_pure (wpAny_pure ⟨rfl, x + 1, hit, rfl, hrest', hlt, hstay hkk⟩))
            · rw [if_neg hh]
              refine wpAny_pure ⟨rfl, x + 1, hit, rfl, hrest', hlt, hstay ?_⟩
              intro hkk
              rw [hkk] at hh; simp at hh
          · rintro b s' ⟨rfl, i, hit, rfl, hr, hi, hH⟩
            have hall : ∀ j, i ≤ j → j < es.size → ((es[j]?.map (·.hash)) == some (mkHash prog w k)) = false := by
              intro j h1 h2
              have := List.filter_eq_nil_iff.mp hr.symm j (List.mem_range'_1.mpr ⟨h1, by omega⟩)
              simpa using this
            rcases hH with ⟨rfl, hno⟩ | ⟨j, p, rfl, _, hj⟩
            · refine wpAny_pure (hnone fun j p hj => ?_)
              rcases Nat.lt_or_ge j i with h | h
              · exact hno j p h hj
              · have hjl : j < es.size := by
                  rw [hsz]
                  rcases Nat.lt_or_ge j xs.length with h' | h'
                  · exact h'
                  · rw [List.getElem?_eq_none h'] at hj; exact nomatch hj
                have := hall j h hjl
                rw [haskey j p hj] at this
                exact absurd this (by decide)
            · exact wpAny_pure (hsome j p hj))
  cases k with
  | t x =>
    obtain ⟨tk, rfl⟩ := hkey
    dsimp only
    by_cases hstrs : (es.all fun e => isExactStrKey e.key) = true
    · rw [if_pos hstrs]
      unfold foundByValue
      cases hf : es.findIdx? (fun e => e.key.isStr x) with
      | none =>
        refine wpAny_pure (hnone fun j p hj => ?_)
        have hex : es[j]? = some (entryM prog w (.t x, p)) := by rw [entryM_at he j, hj]; rfl
        have hq := Array.findIdx?_eq_none_iff.mp hf _ (Array.mem_of_getElem? hex)
        obtain ⟨t', e'⟩ := (show mkIs prog w s.heap (.t x) p.1 from his _ (List.mem_of_getElem? hj))
        have e2 : (entryM prog w (.t x, p)).key = Value.str x t' := e'
        rw [e2] at hq
        simp [Value.isStr] at hq
      | some i =>
        obtain ⟨hlt, hi, _⟩ := Array.findIdx?_eq_some_iff_getElem.mp hf
        obtain ⟨⟨k', b, v'⟩, hkv⟩ : ∃ y, xs[i]? = some y := ⟨xs[i]'(by rw [← hsz]; exact hlt), List.getElem?_eq_getElem _⟩
        have hib : mkIs prog w s.heap k' b := his _ (List.mem_of_getElem? hkv)
        have hex : es[i]? = some ⟨mkHash prog w k', b, v'⟩ := by rw [entryM_at he i, hkv]; rfl
        have hei : es[i] = ⟨mkHash prog w k', b, v'⟩ := by
          have := Array.getElem?_eq_getElem hlt
          rw [hex] at this
          exact (Option.some.inj this).symm
        rw [hei] at hi
        have hkk : k' = .t x := by
          cases b <;> simp [Value.isStr] at hi
          subst hi
          exact mkIs.inj hib ⟨_, rfl⟩
        subst hkk
        simp only [hex]
        refine wpAny_bind (wpAny_dictEpoch ho hd (wpAny_bind (mkIs.eqBool (x := .t x) (y := .t x) hu hib ⟨_, rfl⟩ (wpAny_bind (wpAny_dictEpoch ho hd ?_)))))
        show wpAny _ _ (if (ep != ep) = true then _ else _) _ E _
        rw [if_neg (by simp), decide_eq_true rfl]
        exact wpAny_bind (wpAny_rule (wpAny_pure (hsome i _ hkv)))
    · rw [if_neg hstrs]
      exact hREST
  | u ks =>
    obtain ⟨a, rfl, hz⟩ := hkey
    exact hREST
theorem DictM.typeIs {d : Addr} {xs : List (MK × Value × Value)} (hm : DictM prog w s.heap d xs) : s.TypeIs (.ref d) "dict" :=
  let ⟨o, _, _, ho, hc, _⟩ := hm; ⟨o, ho, hc.1⟩
theorem dictGetM {d : Addr} {key : Value} {xs : List (MK × Value × Value)} {k : MK} {j : Nat} {p : Value × Value} {Q : Option Value → Shared → Prop} (hu : A.units < cLine) (hkey : mkIs prog w s.heap k key) (hm : DictM prog w s.heap d xs)
    (hj : xs[j]? = some (k, p)) (h : Q (some p.2) { s with toks := s.toks + mkDraws k }) : wpAny (model prog w) A (dictGet d key) Q E s := by
  obtain ⟨o, es, ep, ho, _, hd, he, his, hn⟩ := hm
  unfold dictGet
  try with_reducible refine wpAny_holding ?_
  refine wpAny_bind (mkIs.pyHash hu hkey (wpAny_bind (findM (s := { s with toks := s.toks + mkDraws k }) hu hkey ho hd he his hn ?_ ?_)))
  · intro hno
    exact absurd hj (hno j p)
  · intro i q hi
    obtain rfl := idxM hn hj hi
    rw [hj] at hi
    cases hi
    refine wpAny_bind (wpAny_dictEntries (s := { s with toks := s.toks + mkDraws k }) ho hd ?_)
    rw [entryM_at he j, hj]
    exact wpAny_pure h
theorem getItemM {d : Addr} {key : Value} {xs : List (MK × Value × Value)} {k : MK} {j : Nat} {p : Value × Value} {Q : Value → Shared → Prop} (hu : A.units + 1 < cLine) (hkey : mkIs prog w s.heap k key) (hm : DictM prog w s.heap d xs)
    (hj : xs[j]? = some (k, p)) (h : Q p.2 { s with toks := s.toks + mkDraws k }) : wpAny (model prog w) A (getItem (.ref d) key) Q E s := by
  unfold getItem
  try with_reducible refine wpAny_holding ?_
  refine wpAny_bind (wpAny_sequenceKey hm.typeIs (by decide) ?_)
  refine wpAny_bind (wpAny_callSpecial?_slot (name := Str.ofString "__getitem__") hm.typeIs slot_dict_getitem
    (wpAny_call_entry slot_dict_getitem hm.typeIs entry_dict_getitem ?_ (args_dict_getitem _ _)))
  show wpAny _ _ (dictGet d key >>= _) _ _ s
  refine wpAny_bind (dictGetM (A := A.in1) hu hkey hm hj ?_)
  exact wpAny_pure ⟨p.2, rfl, wpAny_pure h⟩
theorem dictSetM {d : Addr} {key v : Value} {xs : List (MK × Value × Value)} {k : MK} {Q : Unit → Shared → Prop} (hu : A.units < cLine) (hkey : mkIs prog w s.heap k key) (hm : DictM prog w s.heap d xs)
    (hno : ∀ (j : Nat) (p : Value × Value), xs[j]? ≠ some (k, p)) (hQ : ∀ h', DictM prog w h' d (xs ++ [(k, key, v)]) → Heap.SameBut d s.heap h' → Q () { s with heap := h', toks := s.toks + mkDraws k })
    (hsz : xs.length ≤ sizeLine) : wpAny (model prog w) A (dictSet d key v) Q E s := by
  obtain ⟨o, es, ep, ho, hc, hd, he, his, hn⟩ := hm
  unfold dictSet
  try with_reducible refine wpAny_holding ?_
  refine wpAny_bind (mkIs.pyHash hu hkey ?_)
  unfold dictSetHashed
  try with_reducible refine wpAny_holding ?_
  refine wpAny_bind (findM (s := { s with toks := s.toks + mkDraws k }) hu hkey ho hd he his hn ?_ ?_)
  · intro _
    have hnot : k ∉ xs.map (·.1) := by
      intro hm
      obtain ⟨x, hx, rfl⟩ := List.mem_map.mp hm
      obtain ⟨j, hj⟩ := List.mem_iff_getElem?.mp hx
      exact hno j x.2 hj
    refine wpAny_bind (wpAny_rule (wpAny_updateDictKeys (hz := by have e := sizeM he; omega) (s := { s with toks := s.toks + mkDraws k }) ho hd (hQ _ ⟨_, _, ep + 1, Heap.get?_update_self _ ho (Obj.isFreed_of_dict (Obj.data_mapDictKeys hd _)),
      hc.mapDictKeys _, Obj.data_mapDictKeys hd _, ?_, ?_, ?_⟩ (Heap.SameBut.update ..))))
    · simp [he, entryM]
    · intro x hx
      rcases List.mem_append.mp hx with hx | hx
      · exact mkIs.keeps ho hd (Heap.SameBut.update ..) (his x hx)
      · simp only [List.mem_singleton] at hx
        subst hx
        exact mkIs.keeps ho hd (Heap.SameBut.update ..) hkey
    · rw [List.map_append, List.nodup_append]
      refine ⟨hn, by simp, ?_⟩
      intro x hx y hy
      simp only [List.map_cons, List.map_nil, List.mem_singleton] at hy
      subst hy
      exact fun e => hnot (e ▸ hx)
  · intro j p hj
    exact absurd hj (hno j p)
theorem setItemM {d : Addr} {key v : Value} {xs : List (MK × Value × Value)} {k : MK} {Q : Unit → Shared → Prop} (hu : A.units + 1 < cLine) (hkey : mkIs prog w s.heap k key) (hm : DictM prog w s.heap d xs)
    (hno : ∀ (j : Nat) (p : Value × Value), xs[j]? ≠ some (k, p)) (hQ : ∀ h', DictM prog w h' d (xs ++ [(k, key, v)]) → Heap.SameBut d s.heap h' → Q () { s with heap := h', toks := s.toks + mkDraws k })
    (hsz : xs.length ≤ sizeLine) : wpAny (model prog w) A (setItem (.ref d) key v) Q E s := by
  unfold setItem
  try with_reducible refine wpAny_holding ?_
  refine wpAny_bind (wpAny_sequenceKey hm.typeIs (by decide) ?_)
  refine wpAny_bind (wpAny_callSpecial?_slot (name := Str.ofString "__setitem__") hm.typeIs slot_dict_setitem
    (wpAny_call_entry slot_dict_setitem hm.typeIs entry_dict_setitem ?_ (args_dict_setitem _ _ _)))
  show wpAny _ _ (Builtin.Dict.notOrdered "__setitem__" ⟨[.ref d, key, v], []⟩ >>= _) _ _ s
  refine wpAny_bind (wpAny_notOrdered_dict hm.typeIs ?_)
  show wpAny _ _ (dictSet d key v >>= _) _ _ s
  exact wpAny_bind (dictSetM (A := A.in1) hu hkey hm hno (fun h' hm' hs' => wpAny_pure ⟨.none, rfl, wpAny_pure (hQ h' hm' hs')⟩) hsz)
end

/-! ### .. over the layer -/
def relM (p : MK × V × V) (q : MK × Value × Value) : Prop := p.1 = q.1 ∧ RelV p.2.1 q.2.1 ∧ RelV p.2.2 q.2.2
def rawM (P : Program) (w : World) (a : Addr) (kvs : List (MK × V × V)) : Heap → Prop := fun h =>
  (a == sysModules) = false ∧ kvs.length ≤ sizeLine ∧ ∃ xs, Paired relM kvs xs ∧ ∃ o es ep, h.get? a = some o ∧ o.ExactDict ∧ o.data = .dict es ep ∧ es.toList = xs.map (entryM P w) ∧ (xs.map (·.1)).Nodup
/-- a dict whose keys are texts and tuples: logical key, key, value -/
def MixO (P : Program) (w : World) (a : Addr) (kvs : List (MK × V × V)) : HO := .ext (rawM P w a kvs)
def KeyM (H : Hp) : MK → V → Prop
  | .t x, v => v = .str x
  | .u ks, v => ∃ b, v = .ref b ∧ H b = some (.tup (ks.map kV))
def KeysM (H : Hp) (kvs : List (MK × V × V)) : Prop := ∀ p ∈ kvs, KeyM H p.1 p.2.1
theorem rawM.stay {P : Program} {w : World} {a : Addr} {kvs : List (MK × V × V)} (h1 h2 : Heap) (r : rawM P w a kvs h1) (k : ∀ o, h1.get? a = some o → h2.get? a = some o) : rawM P w a kvs h2 := by
  obtain ⟨x, y, xs, p, o, es, ep, e, c⟩ := r
  exact ⟨x, y, xs, p, o, es, ep, k o e, c⟩
theorem mix_ok {P : Program} {w : World} {H : Hp} {h : Heap} {a : Addr} {kvs : List (MK × V × V)} (r : rawM P w a kvs h) : ObjOk P w H h a (MixO P w a kvs) := by
  obtain ⟨_, _, _, _, o, _, _, e, _⟩ := id r
  exact ⟨r, ⟨o, e⟩, rawM.stay⟩
theorem KeyM.is {P : Program} {w : World} {H : Hp} {h : Heap} {u : Value} (ok : HOk P w H h) : ∀ {k : MK} {v : V}, KeyM H k v → RelV v u → mkIs P w h k u
  | .t x, v, e, r => by
    cases (show v = .str x from e)
    exact r
  | .u ks, v, ⟨b, e, hb⟩, r => by
    subst e
    cases (show u = Value.ref b from r)
    exact ⟨b, rfl, key_of ok hb⟩
theorem mix_rd {P : Program} {w : World} {H : Hp} {h : Heap} {a : Addr} {kvs : List (MK × V × V)} (ok : HOk P w H h) (e : H a = some (MixO P w a kvs)) (hk : KeysM H kvs) :
    (a == sysModules) = false ∧ kvs.length ≤ sizeLine ∧ ∃ xs, Paired relM kvs xs ∧ DictM P w h a xs := by
  obtain ⟨⟨x, y, xs, p, o, es, ep, e, c1, c2, c3, c4⟩, _⟩ := (show ObjOk P w H h a (MixO P w a kvs) from ok a _ e)
  refine ⟨x, y, xs, p, o, es, ep, e, c1, c2, c3, ?_, c4⟩
  have all : ∀ {l : List (MK × V × V)} {m : List (MK × Value × Value)}, Paired relM l m → (∀ q ∈ l, KeyM H q.1 q.2.1) → ∀ z ∈ m, mkIs P w h z.1 z.2.1 := by
    intro l m q
    induction q with
    | nil => intro _ z hz; exact nomatch hz
    | @cons a b as bs hq t ih =>
      intro hl z hz
      rcases List.mem_cons.mp hz with e | hz
      · subst e
        rw [← hq.1]
        exact KeyM.is ok (hl a List.mem_cons_self) hq.2.1
      · exact ih (fun q hq => hl q (List.mem_cons_of_mem _ hq)) z hz
  exact all p hk
theorem relM.get : ∀ {kvs : List (MK × V × V)} {xs : List (MK × Value × Value)} {p : MK × V × V}, Paired relM kvs xs → p ∈ kvs → ∃ (j : Nat) (q : MK × Value × Value), xs[j]? = some q ∧ relM p q
  | _, _, _, .nil, h => nomatch h
  | _, _, p, .cons r t, h => by
    rcases List.mem_cons.mp h with e | h
    · subst e
      exact ⟨0, _, rfl, r⟩
    · obtain ⟨j, q, e, r⟩ := relM.get t h
      exact ⟨j + 1, q, e, r⟩
theorem relM.keys : ∀ {kvs : List (MK × V × V)} {xs : List (MK × Value × Value)}, Paired relM kvs xs → kvs.map (·.1) = xs.map (·.1)
  | _, _, .nil => rfl
  | _, _, .cons r t => by rw [List.map_cons, List.map_cons, relM.keys t, r.1]
/-- the dict at a, told as one with keys of both kinds -/
def MixAt (P : Program) (w : World) (H : Hp) (a : Addr) (kvs : List (MK × V × V)) : Prop :=
  H a = some (MixO P w a kvs) ∨ ∃ k0 : List (Str × V), H a = some (.dK (k0.map fun p => (Sum.inr p.1, p.2))) ∧ kvs = k0.map fun p => (MK.t p.1, V.str p.1, p.2)
theorem dk_m {P : Program} {w : World} {h : Heap} {k0 : List (Str × V)} : ∀ {vs : List (Key × Value)} {l : List DictEntry}, KV (k0.map fun p => (Sum.inr p.1, p.2)) vs → Pairs (mixKind P w) l vs → (∀ e ∈ l, ∃ k, (mixKind P w).is k e.key = true ∧ e.hash = (mixKind P w).hash k) →
    ∃ xs, Paired relM (k0.map fun p => (MK.t p.1, V.str p.1, p.2)) xs ∧ l = xs.map (entryM P w) ∧ ∀ x ∈ xs, mkIs P w h x.1 x.2.1 := by
  induction k0 with
  | nil =>
    intro vs l r q hk
    cases r
    cases q
    exact ⟨[], .nil, rfl, fun _ z => nomatch z⟩
  | cons p k0 ih =>
    intro vs l r q hk
    rw [List.map_cons] at r
    cases r with
    | @cons _ q _ qs r t =>
    cases q with
    | @cons e _ es _ h1 h2 h3 =>
    obtain ⟨xs, a1, a2, a3⟩ := ih t h3 fun e he => hk e (List.mem_cons_of_mem _ he)
    obtain ⟨r1, r2⟩ := r
    have r1' : (Sum.inr p.1 : Key) = q.1 := r1
    rw [← r1'] at h1
    obtain ⟨k, hk1, hk2⟩ := hk e List.mem_cons_self
    have ek := (mixKind P w).inj _ _ _ hk1 h1
    subst ek
    obtain ⟨tk, et⟩ : ∃ t, e.key = Value.str p.1 t := by
      rcases keyIs_shape (show keyIs (Sum.inr p.1) e.key = true from h1) with ⟨i, t, z, _⟩ | ⟨x, t, z, z2⟩
      · cases z
      · cases z
        exact ⟨t, z2⟩
    refine ⟨(MK.t p.1, e.key, e.val) :: xs, .cons ⟨rfl, ⟨tk, et⟩, ?_⟩ a1, ?_, fun x hx => ?_⟩
    · show RelV p.2 e.val
      rw [h2]
      exact r2
    · rw [List.map_cons, ← a2]
      congr 1
      obtain ⟨eh, ek, ev⟩ := e
      show (⟨eh, ek, ev⟩ : DictEntry) = ⟨hashStr w p.1, ek, ev⟩
      have : eh = hashStr w p.1 := hk2
      rw [this]
    · rcases List.mem_cons.mp hx with z | z
      · subst z
        exact ⟨tk, et⟩
      · exact a3 x z
theorem mixAt_rd {P : Program} {w : World} {H : Hp} {h : Heap} {a : Addr} {kvs : List (MK × V × V)} (ok : HOk P w H h) (e : MixAt P w H a kvs) (hk : KeysM H kvs) :
    (a == sysModules) = false ∧ kvs.length ≤ sizeLine ∧ ∃ xs, Paired relM kvs xs ∧ DictM P w h a xs := by
  rcases e with e | ⟨k0, e, rfl⟩
  · exact mix_rd ok e hk
  · obtain ⟨z, hd, vs, rel, o, es, ep, h1, h2, h3, h4, h5, h6⟩ := dk_of ok e
    obtain ⟨xs, a1, a2, a3⟩ := dk_m (P := P) (w := w) (h := h) (l := es.toList) rel h5 fun e he => h4 e (Array.mem_toList_iff.mp he)
    refine ⟨hd, by rw [List.length_map] at z ⊢; exact z, xs, a1, o, es, ep, h1, h2, h3, a2, a3, ?_⟩
    rw [← relM.keys a1]
    have e2 : (k0.map fun p => ((Sum.inr p.1 : Key), p.2)).map (·.1) = vs.map (·.1) := rel.keys
    rw [← e2] at h6
    rw [List.map_map] at h6 ⊢
    have key : ∀ l : List (Str × V), (l.map ((fun x : Key × V => x.1) ∘ fun p => ((Sum.inr p.1 : Key), p.2))).Nodup → (l.map ((fun x : MK × V × V => x.1) ∘ fun p => (MK.t p.1, V.str p.1, p.2))).Nodup := by
      intro l
      induction l with
      | nil => intro _; exact List.nodup_nil
      | cons p r ih =>
        intro hn
        rw [List.map_cons, List.nodup_cons] at hn ⊢
        refine ⟨fun hm => hn.1 ?_, ih hn.2⟩
        obtain ⟨q, hq, eq⟩ := List.mem_map.mp hm
        have eq' : MK.t q.1 = MK.t p.1 := eq
        injection eq' with eq'
        exact List.mem_map.mpr ⟨q, hq, by show (Sum.inr q.1 : Key) = Sum.inr p.1; rw [eq']⟩
    exact key k0 h6
theorem MixAt.mut {P : Program} {w : World} {H : Hp} {a : Addr} {kvs : List (MK × V × V)} (e : MixAt P w H a kvs) : Mut (H a) := by
  rcases e with e | ⟨k0, e, _⟩
  · rw [e]; exact True.intro
  · rw [e]; exact True.intro
/-- d[k], there, of a dict with keys of both kinds -/
def tMGet (P : Program) (w : World) (td ty : TE) : TE := fun σ H Q => td σ H fun x H1 => ty σ H1 fun y H2 => ∃ a kvs k v, x = .ref a ∧ H2 a = some (MixO P w a kvs) ∧ KeysM H2 kvs ∧ KeyM H2 k y ∧ (∃ ky, (k, ky, v) ∈ kvs) ∧ Q v H2
/-- d[k] = v, a new key -/
def sMPut (P : Program) (w : World) (td ty tv : TE) : TS := fun D σ H => tv σ H fun v H1 => td σ H1 fun x H2 => ty σ H2 fun y H3 => ∃ a kvs k, x = .ref a ∧ MixAt P w H3 a kvs ∧ KeysM H3 kvs ∧ KeyM H3 k y ∧ (∀ p ∈ kvs, p.1 ≠ k) ∧ kvs.length < sizeLine ∧
  D.nx σ (upd H3 a (MixO P w a (kvs ++ [(k, y, v)])))
section
variable {X : Cx} {o i e value : Expr} {pos pos' tpos : Pos} {td ty tv : TE}
theorem pe_mget (hu : X.A.units + 1 < cLine) (ho : PE X o td) (hi : PE X i ty) (hs : NoSl i) : PE X (.Subscript o i pos) (tMGet X.prog X.w td ty) := by
  refine ⟨fun pins s σ H Q I h => ?_⟩
  refine subD_of PySem.F.slot_dict_getitem.lookup hs (thn (ho.run pins s σ H _ I h) fun u s1 ⟨x, H1, I1, rx, q1⟩ => thn (hi.run pins s1 σ H1 _ I1 q1) fun iv s2 ⟨y, H2, I2, ry, a, kvs, k, v, ex, hm, hk, hy, ⟨ky, hin⟩, q2⟩ => ?_)
  subst ex
  obtain rfl : u = Value.ref a := rx
  obtain ⟨_, _, xs, rel, dd⟩ := mix_rd I2.hok hm hk
  obtain ⟨j, ⟨k', key, val⟩, hj, r1, r2, r3⟩ := relM.get rel hin
  cases (show k = k' from r1)
  exact ⟨dd.typeIs, getItemM hu (KeyM.is I2.hok hy ry) dd hj ⟨v, H2, I2.tok _, r3, q2⟩⟩
theorem ps_mput (hu : X.A.units + 1 < cLine) (ho : PE X o td) (hi : PE X i ty) (hv : PE X value tv) (hs : swapsWith value (some (.Subscript o i pos')) pos.line X.env = pure false) :
    PS X (.Assign [.Subscript o i pos'] value pos) (sMPut X.prog X.w td ty tv) := by
  refine ⟨fun pins s σ H D I h => ?_⟩
  refine wpAny_Assign_Subscript (thn (hv.run pins s σ H _ I h) fun r s1 ⟨v, H1, I1, rv, q1⟩ => thn (ho.run pins s1 σ H1 _ I1 q1) fun u s2 ⟨x, H2, I2, rx, q2⟩ => thn (hi.run pins s2 σ H2 _ I2 q2) fun iv s3 ⟨y, H3, I3, ry, a, kvs, k, ex, hm, hk, hy, hne, hl, q3⟩ => ?_) hs
  subst ex
  obtain rfl : u = Value.ref a := rx
  obtain ⟨hd, hz, xs, rel, dd⟩ := mixAt_rd I3.hok hm hk
  have hlen : kvs.length = xs.length := Paired.length rel
  refine setItemM hu (KeyM.is I3.hok hy ry) dd (fun j p hj => ?_) (fun h' dd' hs => ⟨σ, _, ?_, q3⟩) (by omega)
  · have hx : (xs.map (·.1))[j]? = some k := by rw [List.getElem?_map, hj]; rfl
    rw [← relM.keys rel] at hx
    rw [List.getElem?_map] at hx
    obtain ⟨p', hp', ep⟩ := Option.map_eq_some_iff.mp hx
    exact hne p' (List.mem_of_getElem? hp') ep
  · obtain ⟨q, es, ep, hq, c1, c2, c3, _, c5⟩ := dd'
    refine d_write I3 hm.mut hs ⟨q, hq⟩ (mix_ok ⟨hd, ?_, xs ++ [(k, iv, r)], Paired.snoc rel ⟨rfl, ry, rv⟩, q, es, ep, hq, c1, c2, c3, c5⟩)
    rw [List.length_append, List.length_cons, List.length_nil]
    omega
end
theorem pe_mgetK {X : Cx} (P : Program) (w : World) (hP : X.prog = P) (hw : X.w = w) {o i : Expr} {pos : Pos} {td ty : TE} (hu : X.A.units + 1 < cLine) (ho : PE X o td) (hi : PE X i ty) (hs : NoSl i) : PE X (.Subscript o i pos) (tMGet P w td ty) := by
  subst hP hw
  exact pe_mget hu ho hi hs
theorem ps_mputK {X : Cx} (P : Program) (w : World) (hP : X.prog = P) (hw : X.w = w) {o i value : Expr} {pos pos' : Pos} {td ty tv : TE} (hu : X.A.units + 1 < cLine) (ho : PE X o td) (hi : PE X i ty) (hv : PE X value tv) (hs : swapsWith value (some (.Subscript o i pos')) pos.line X.env = pure false) :
    PS X (.Assign [.Subscript o i pos'] value pos) (sMPut P w td ty tv) := by
  subst hP hw
  exact ps_mput hu ho hi hv hs

/-! ### xs[a:c] = ys, ys a list of its own -/
def sSlPut (to : TE) (tl th : TO) (tv : TE) : TS := fun D σ H => tv σ H fun v H1 => to σ H1 fun x H2 => tl σ H2 fun l H3 => th σ H3 fun u H4 => ∃ (o b : Addr) (xs ys : List V) (a c : Int), v = .ref b ∧ x = .ref o ∧ l = some a ∧ u = some c ∧ H4 o = some (.lst xs) ∧ H4 b = some (.lst ys) ∧ o ≠ b ∧ 0 ≤ a ∧ a ≤ c ∧ c ≤ xs.length ∧ xs.length + ys.length ≤ sizeLine ∧
  D.nx σ (upd H4 o (.lst (xs.take a.toNat ++ ys ++ xs.drop c.toNat)))
theorem ps_slput {X : Cx} {o value : Expr} {lo hi : Option Expr} {p2 pos' pos : Pos} {to tv : TE} {tl th : TO} (ho : PE X o to) (hl : PO X lo tl) (hh : PO X hi th) (hv : PE X value tv) (hs : swapsWith value (some (.Subscript o (.Slice lo hi none p2) pos')) pos.line X.env = pure false) :
    PS X (.Assign [.Subscript o (.Slice lo hi none p2) pos'] value pos) (sSlPut to tl th tv) := by
  refine ⟨fun pins s σ H D I h => ?_⟩
  refine wpAny_Assign_Subscript (thn (hv.run pins s σ H _ I h) fun v s1 ⟨y, H1, I1, ry, q1⟩ => thn (ho.run pins s1 σ H1 _ I1 q1) fun x s2 ⟨z, H2, I2, rz, q2⟩ => ?_) hs
  refine wpAny_Slice (thn (hl.run pins s2 σ H2 _ I2 q2) fun vl s3 ⟨l, H3, I3, pl, q3⟩ => thn (hh.run pins s3 σ H3 _ I3 q3) fun vu s4 ⟨u, H4, I4, pu, o', b, xs, ys, a, c, ey, ez, el, eu, ho', hb, ne, h0, h1, h2, h3, q4⟩ => ?_)
  rw [evalPart_none]
  refine wpAny_pure ?_
  subst ey ez el eu
  cases ry
  cases rz
  have I5 : Inv X pins σ H4 { s4 with heap := s4.heap.push { cls := .type "slice", data := .fields #[vl, vu, .none] } } := I4.kept (t' := s4.toks) fun b ob q => Heap.get?_push_of_some _ q
  have ra : RelV (.int a) vl := by
    cases pl
    exact ⟨_, rfl⟩
  have rc : RelV (.int c) vu := by
    cases pu
    exact ⟨_, rfl⟩
  exact set_slice I5 ho' hb ne (Heap.IsSliceOf.new ..) ra rc h0 h1 h2 h3 fun s' I' => ⟨σ, _, I', q4⟩

/-! ### all(test for x in a text): the test may read the module's names -/
section
open GxR
variable {X : Cx} {pins : List (Addr × Obj)} {σ : L2.St} {H : Hp} {s : Shared}
/-- the test of one sign, the module's names being mg -/
def EltG (prog : Program) (w : World) (mg : Str → Option Value) (sco : Scope) (x : Str) (elt : Expr) (pb : Nat → Bool) : Prop :=
  ∀ (en : Env) (B : Around) (F : Value → Shared → Prop) (c : Nat) (t : Tok) (z : Shared) (m : Str → Option Value),
    en.scope = sco → en.globals = mainGlobals → z.heap.Ns mainGlobals mg → z.heap.Ns en.locals m → m x = some (.str ⟨#[c]⟩ t) →
    wpAny (model prog w) B (eval elt en) (fun y z' => y = .bool (pb c) ∧ Keeps z z') F z
theorem elt_inG {prog : Program} {w : World} {mg : Str → Option Value} {sco : Scope} {x g : Str} {L : Str} {tl : Tok} {p1 p2 p3 : Pos} (kf : sco.kind = .function) (lx : sco.names.lookup x = some .local) (lg : sco.names.lookup g = some .globalImplicit)
    (hL : mg g = some (.str L tl)) (dx : (x == ("__debug__" : Str)) = false := by decide) (dg : (g == ("__debug__" : Str)) = false := by decide) :
    EltG prog w mg sco x (.Compare (.Name x p1) [.In] [.Name g p2] p3) (fun c => decide (c ∈ L.cps.toList)) := by
  intro en B F c t z m es eg ng nl hm
  have kk : en.scope.kind = .function := by rw [es]; exact kf
  refine wpAny_Compare1 ?_ rfl
  refine wpAny_Name (wpAny_loadName_local kk (show en.scope.names.lookup x = some .local by rw [es]; exact lx) nl hm ?_) dx
  refine Calls.Name_function_global kk (show en.scope.names.lookup g = some .globalImplicit by rw [es]; exact lg) (Calls.loadGlobal_global (mg := mg) (by rw [eg]; exact ng) hL ?_) dg
  refine PyProof.Rows.in_str ⟨?_, keeps_refl _⟩
  rw [PySem.StrLaws.found_one L c]
theorem gen_signs {c P : Addr} {elt src : Expr} {x : Str} {px gp : Pos} {sco : Scope} {pb : Nat → Bool} {te : TE} {k : Nat} {Z : Value → Shared → Prop} {R : Str → Hp → Prop}
    (hr : Room k X.A) (TB : TabB X.base X.mg c P) (hco : X.env.code = .ref c) (S : GenS X.env sco x) (hi : PE X src te) (hel : EltG X.prog X.w X.mg sco x elt pb)
    (hs : ∀ v, genFold src X.env v = pure v) (I : Inv X pins σ H s) (h : te σ H fun v H1 => ∃ a : Str, v = .str a ∧ TabG H1 P ∧ R a H1)
    (hZ : ∀ a H1 g z, R a H1 → Ready X pins σ H1 P a pb g z → Z (.ref g) z) :
    wpAny (model X.prog X.w) X.A (eval (.GeneratorExp elt [⟨.Name x px, src, [], 0⟩] sco gp) X.env) Z X.xe s := by
  refine wpAny_GeneratorExp_walksQ hr.hd S.co (closure_ok S.free) S.cell S.dot S.loc S.kind (by have d := hr.dp; omega) ?_ hs
  refine thn (hi.run pins s σ H _ I h) fun xv z1 ⟨v, H1, J, r1, q⟩ => ?_
  obtain ⟨a, rfl, ⟨ps, hP, ht⟩, q⟩ := q
  obtain ⟨t, rfl⟩ := _root_.id r1
  refine wpAny_pyIter_str fun it St W w0 => ?_
  have gP : z1.heap.get? P = some { cls := .none, data := .fields ps } := J.hok P _ hP
  have gP2 : (z1.heap.push it).get? P = some { cls := .none, data := .fields ps } := Heap.get?_push_of_some _ gP
  have ltP : P < z1.heap.objs.size := Heap.lt_size gP
  have hd2 : PySem.W.CodeHd (z1.heap.push it) c P := TB.code.keeps fun b u e => Heap.get?_push_of_some _ (J.bk b u e)
  have nl2 : (z1.heap.push it).NoLimit := J.nolimit.push it
  have go : ∀ (code : Value) (hh : Heap) (tk : Nat) (qs : Array Value), Heap.ExtBut P (z1.heap.push it) hh → (z1.heap.push it).objs.size ≤ hh.objs.size →
      hh.get? P = some { cls := .none, data := .fields qs } → (∃ more, qs = ps ++ more) → TriplesOk qs.toList →
      wpAny (model X.prog X.w) X.A (builtinsFor X.env.globals X.env.builtins) (fun bi s₄ =>
        ∃ Ia fp wr n₀ Pf St₀ pz F, Value.ref z1.heap.objs.size = .ref Ia ∧ (∀ A' : Around, A'.handled = none → Walks X.prog X.w A' Ia fp wr n₀ Pf St₀) ∧
          St₀ 0 s₄.heap ∧ (∀ b ∈ fp, b < s₄.heap.objs.size) ∧ s₄.heap.NoLimit ∧ cStatics ∉ wr ∧
          (∀ hf : Heap, (∀ b o, s₄.heap.get? b = some o → hf.get? b = some o) →
            QuietGen X.prog X.w (genEnv sco (cloFrom X.env.cells sco.names []) s₄.heap.objs.size code bi X.env) x [] elt (List.range s₄.heap.objs.size) wr Pf pz F hf) ∧
          (∀ a h₅ tk gs, gs.bare = true → s₄.heap.objs.size < a → h₅.objs.size = a + 1 → (∀ b o, s₄.heap.get? b = some o → h₅.get? b = some o) →
            WalksS X.prog X.w X.A.in4 a (a :: s₄.heap.objs.size :: List.range s₄.heap.objs.size) (s₄.heap.objs.size :: wr) (GenOnlyQ s₄.gens.size)
              (passing pz n₀ 0).length (fun j y => ∃ i, (passing pz n₀ 0)[j]? = some i ∧ F i y)
              (GenAt X.prog X.w X.A.in4 a s₄.gens.size s₄.heap.objs.size (List.range s₄.heap.objs.size) wr pz n₀ F) →
            GenAt X.prog X.w X.A.in4 a s₄.gens.size s₄.heap.objs.size (List.range s₄.heap.objs.size) wr pz n₀ F 0 { s₄ with gens := s₄.gens.push gs, toks := tk, heap := h₅ } →
            Z (.ref a) { s₄ with gens := s₄.gens.push gs, toks := tk, heap := h₅ })) X.xe { z1 with heap := hh, toks := tk } := by
    intro code hh tk qs ex sz gq mr tq
    obtain ⟨bm, ob, b1, b2, b3, b4, b5, b6, b7, b8⟩ := TB.bm
    have neS : cStatics ≠ P := fun e => by
      obtain ⟨_, ns, _⟩ := J.nolimit
      obtain ⟨oo, es, ep, go1, gd, _⟩ := ns
      rw [e, gP] at go1
      cases go1
      cases gd
    have ltS : cStatics < z1.heap.objs.size := let ⟨_, ns, _⟩ := J.nolimit; ns.lt
    have szp : (z1.heap.push it).objs.size = z1.heap.objs.size + 1 := Heap.size_push ..
    have kp : ∀ b u, b ≠ P → z1.heap.get? b = some u → hh.get? b = some u := fun b u hb e => ex b u hb (Heap.get?_push_of_some _ e)
    have gl1 : z1.heap.Ns mainGlobals X.mg := J.mod.glob.keeps J.bk
    have glh : hh.Ns mainGlobals X.mg := (gl1.push it).extBut ex TB.gP
    refine wpAny_builtinsFor (m := X.mg) (by rw [J.ok.glob]; exact glh) b1 b2 (kp _ _ b4 (J.bk _ _ b5)) b6 b7 b8 ?_
    refine ⟨z1.heap.objs.size, [z1.heap.objs.size], [z1.heap.objs.size], a.cps.size, SignAt a, St, (fun _ => true), (fun i y => ∃ cc, a.cps[i]? = some cc ∧ y = .bool (pb cc)), rfl, W, ?_, ?_, nl2.extBut ex neS, ?_, ?_, ?_⟩
    · refine (W X.A hr.hd).frame _ _ _ w0 fun b hb u e => ex b u (fun eq => ?_) e
      rw [List.mem_singleton.mp hb] at eq
      exact Nat.ne_of_lt ltP eq.symm
    · intro b hb
      rw [List.mem_singleton.mp hb]
      show z1.heap.objs.size < hh.objs.size
      omega
    · exact fun m => Nat.ne_of_lt ltS (List.mem_singleton.mp m)
    · intro hf keep
      refine ⟨fun A' E' i v z2 m2 _ _ _ _ _ => ?_, fun A' E' i v z2 m2 _ hv _ hn hm hk => ?_⟩
      · simp only [List.forIn_nil]
        exact wpAny_pure ⟨rfl, keeps_refl _⟩
      · obtain ⟨cc, u, hcc, rfl⟩ := hv
        have ngl : z2.heap.Ns mainGlobals X.mg := by
          have lt1 : mainGlobals < z1.heap.objs.size := gl1.lt
          obtain ⟨og, es, ep, e1, er⟩ := glh
          exact ⟨og, es, ep, hk mainGlobals (List.mem_range.mpr (Heap.lt_size e1)) (fun m => Nat.ne_of_lt lt1 (List.mem_singleton.mp m)) og (keep _ _ e1), er⟩
        exact wpAny_mono (hel _ A' E' cc u z2 m2 rfl J.ok.glob ngl hn hm) (fun y z3 r => ⟨⟨cc, hcc, r.1⟩, r.2⟩) fun _ _ e => e
    · intro g h5 tk5 gs bare lt5 sz5 k5 W5 at5
      simp only [GxR.passing_true, List.length_range] at W5
      refine hZ a H1 g _ q ⟨_, _, _, _, _, W5.in4_1, at5, ?_, fun z' mv => ?_⟩
      · intro j y sj Qj Ej hy hQj
        obtain ⟨i, hij, cc, hcc, rfl⟩ := hy
        obtain ⟨lj, ej⟩ := List.getElem?_eq_some_iff.mp hij
        rw [List.getElem_range] at ej
        subst ej
        have e9 : a.cps.toList[j]? = some cc := by rw [Array.getElem?_toList]; exact hcc
        have hQ2 : Qj (trF pb a.cps.toList j) sj := hQj
        rw [trF_some e9] at hQ2
        exact wpAny_truthy_bool hQ2
      · obtain ⟨more, em⟩ := mr
        have out : ∀ b u, z1.heap.get? b = some u → b ∉ hh.objs.size :: [z1.heap.objs.size] := fun b u e hb => by
          have lt := Heap.lt_size e
          rcases List.mem_cons.mp hb with y | y
          · rw [y] at lt
            have lt' : (hh.objs.size : Nat) < z1.heap.objs.size := lt
            omega
          · rw [List.mem_singleton.mp y] at lt
            exact Nat.lt_irrefl _ lt
        have J2 := inv_tab (more := more) (h' := z'.heap) (g' := z'.gens) (d' := z'.drawn) (t' := z'.toks) J hP
          (fun b u hb e => mv.heap b u (out b u e) (k5 b u (kp b u hb e)))
          (by rw [← em]; exact mv.heap P _ (out P _ gP) (k5 P _ gq))
          (AllBare.movedS (J.bare.push bare) mv)
        rw [sh_eta z1 z' mv.os] at J2
        exact ⟨upd H1 P (.tbl (ps ++ more)), ⟨⟨ps ++ more, upd_same, by rw [← em]; exact tq⟩, fun b hb => upd_ne hb⟩, J2⟩
  refine ⟨nl2, ?_⟩
  cases hf : codeAmong gp ps.toList with
  | none =>
    refine wpAny_genexprCodeX hco (hd2.code gP2 ht) (hd2.tab gP2) hf fun c' h' tk ex ge lt hc' _ tab' _ => ?_
    obtain ⟨_, _, _, _, _, _, _, _, _, _, _, _, _, _, _, _, _, _, _, tr, _⟩ := hc'
    exact go _ h' tk _ ex (Nat.le_trans ge (Nat.le_of_lt lt)) tab'.2 ⟨_, rfl⟩ tr
  | some cv =>
    refine wpAny_genexprCode_hit hco (hd2.code gP2 ht) hf ?_
    exact go cv (z1.heap.push it) z1.toks ps (Heap.ExtBut.refl _ _) (Nat.le_refl _) gP2 ⟨#[], by simp⟩ ht
theorem pe_allG {c P : Addr} {elt src : Expr} {x : Str} {px p pos gp : Pos} {sco : Scope} {pb : Nat → Bool} {te : TE} {k : Nat}
    (hr : Room k X.A) (hg : Gl X "all") (hm : X.mg "all" = none) (hb : bootBuiltins "all" = some (.builtin "all")) (TB : TabB X.base X.mg c P) (hco : X.env.code = .ref c) (S : GenS X.env sco x) (hi : PE X src te) (hel : EltG X.prog X.w X.mg sco x elt pb)
    (hs : ∀ v, genFold src X.env v = pure v)
    (he : starEach [.GeneratorExp elt [⟨.Name x px, src, [], 0⟩] sco gp] X.env = (false, eval (.GeneratorExp elt [⟨.Name x px, src, [], 0⟩] sco gp) X.env) :: starEach [] X.env := by rfl) :
    PE X (.Call (.Name "all" p) [.GeneratorExp elt [⟨.Name x px, src, [], 0⟩] sco gp] [] pos) (tAllS P pb te) := by
  refine ⟨fun pins z σ H Q I h => ?_⟩
  refine wpAny_Call_Name_kw (ld_blt I hg hm hb (PyProof.Rows.callWith_builtin1 ?_ he (by rfl)))
  rw [he]
  show wpAny _ _ (spliced ((false, eval (.GeneratorExp elt [⟨.Name x px, src, [], 0⟩] sco gp) X.env) :: backTo pos (starEach [] X.env))) _ _ z
  refine Calls.spliced_cons (gen_signs (R := fun a H1 => ∀ H2, Tabbed P H1 H2 → Q (.bl (a.cps.toList.all pb)) H2) hr TB hco S hi hel hs I h fun a H1 g z5 hR hG => ?_)
  obtain ⟨fp, wr, G, F, St, W, st0, tru, fin⟩ := hG
  refine Calls.spliced_nil (call_all_walkS (W.self 0 _ _ _ st0 ⟨g, fp, wr, G, _, F, St, _, rfl, W, st0, tru, fun z' mv => ?_⟩))
  obtain ⟨H2, tb, J⟩ := fin z' mv
  refine ⟨.bl _, H2, J, rfl, ?_⟩
  rw [all_signs a pb]
  exact hR H2 tb
/-- a table may grow -/
theorem kp_tabbed {P : Addr} {H H' : Hp} (h : TabG H P) (t : Tabbed P H H') : Kp H H' := by
  obtain ⟨ps, hP, _⟩ := h
  obtain ⟨⟨qs, hQ, tq⟩, e⟩ := t
  refine ⟨fun b o n hb => ?_, fun b hb => ?_, fun b hb => ?_⟩
  · have ne : b ≠ P := fun z => by
      rw [z, hP] at hb
      cases hb
      cases n
    rw [e b ne]
    exact hb
  · by_cases z : b = P
    · rw [z]
      exact ⟨qs, hQ, tq⟩
    · obtain ⟨rs, h1, h2⟩ := hb
      exact ⟨rs, by rw [e b z]; exact h1, h2⟩
  · by_cases z : b = P
    · rw [z, hQ] at hb
      cases hb
    · rw [e b z] at hb
      exact hb
end

/-! ### all(test for x in a list of ints): the test may read the module's names -/
section
open GxR
variable {X : Cx} {pins : List (Addr × Obj)} {σ : L2.St} {H : Hp} {s : Shared}
/-- the test of one int, the module's names being mg -/
def EltI (prog : Program) (w : World) (mg : Str → Option Value) (sco : Scope) (x : Str) (elt : Expr) (pb : Int → Bool) : Prop :=
  ∀ (en : Env) (B : Around) (F : Value → Shared → Prop) (c : Int) (t : Tok) (z : Shared) (m : Str → Option Value),
    en.scope = sco → en.globals = mainGlobals → z.heap.Ns mainGlobals mg → z.heap.Ns en.locals m → m x = some (.int c t) →
    wpAny (model prog w) B (eval elt en) (fun y z' => y = .bool (pb c) ∧ Keeps z z') F z
theorem keeps_tok {z : Shared} (k : Nat) : Keeps z { z with toks := k } := ⟨z.heap, k, rfl, fun _ _ e => e⟩
/-- 1 <= x <= G, G a module's int -/
theorem elt_chain {prog : Program} {w : World} {mg : Str → Option Value} {sco : Scope} {x g : Str} {lo hi : Int} {tl : Tok} {p0 p1 p2 p3 : Pos} {kk : Nat} (kf : sco.kind = .function) (lx : sco.names.lookup x = some .local) (lg : sco.names.lookup g = some .globalImplicit)
    (hL : mg g = some (.int hi tl)) (dx : (x == ("__debug__" : Str)) = false := by decide) (dg : (g == ("__debug__" : Str)) = false := by decide) :
    EltI prog w mg sco x (.Compare (.Constant (.int lo) kk p0) [.LtE, .LtE] [.Name x p1, .Name g p2] p3) (fun c => decide (lo ≤ c) && decide (c ≤ hi)) := by
  intro en B F c t z m es eg ng nl hm
  have kf' : en.scope.kind = .function := by rw [es]; exact kf
  refine Compare_chain (wpAny_Constant_int (chain_link ?_)) (by with_unfolding_all rfl)
  refine wpAny_Name (wpAny_loadName_local kf' (show en.scope.names.lookup x = some .local by rw [es]; exact lx) nl hm ?_) dx
  refine le_int (wpAny_truthy_bool ?_)
  by_cases h1 : lo ≤ c
  · rw [decide_eq_true h1]
    refine ite_tt (chain_last ?_)
    refine Calls.Name_function_global kf' (show en.scope.names.lookup g = some .globalImplicit by rw [es]; exact lg) (Calls.loadGlobal_global (mg := mg) (by rw [eg]; exact ng) hL ?_) dg
    refine le_int ⟨?_, keeps_tok _⟩
    show Value.bool (decide (c ≤ hi)) = Value.bool (decide (lo ≤ c) && decide (c ≤ hi))
    rw [decide_eq_true h1, Bool.true_and]
  · rw [decide_eq_false h1]
    refine ite_ff ⟨?_, keeps_tok _⟩
    show Value.bool false = Value.bool (decide (lo ≤ c) && decide (c ≤ hi))
    rw [decide_eq_false h1, Bool.false_and]
def trI (pb : Int → Bool) (l : List Int) (j : Nat) : Bool := match l[j]? with
  | some b => pb b
  | none => false
theorem trI_some {pb : Int → Bool} {l : List Int} {j : Nat} {b : Int} (h : l[j]? = some b) : trI pb l j = pb b := by
  unfold trI
  rw [h]
theorem all_trI (l : List Int) (pb : Int → Bool) : (List.range l.length).all (trI pb l) = l.all pb := by
  rw [Bool.eq_iff_iff, List.all_eq_true, List.all_eq_true]
  constructor
  · intro h b hb
    obtain ⟨j, hj, e⟩ := List.mem_iff_getElem.mp hb
    have z := h j (List.mem_range.mpr hj)
    rw [trI_some (List.getElem?_eq_getElem hj), e] at z
    exact z
  · intro h j hj
    have hj' := List.mem_range.mp hj
    rw [trI_some (List.getElem?_eq_getElem hj')]
    exact h _ (List.getElem_mem hj')
def ReadyI (X : Cx) (pins : List (Addr × Obj)) (σ : L2.St) (H1 : Hp) (P : Addr) (a : List Int) (pb : Int → Bool) (g : Addr) (s5 : Shared) : Prop :=
  ∃ (fp wr : List Addr) (G : Array GenState → Array GenState → Prop) (F : Nat → Value → Prop) (St : Nat → Shared → Prop),
    WalksS X.prog X.w X.A.in1 g fp wr G a.length F St ∧ St 0 s5 ∧
    TruthOf X.prog X.w X.A.in1 F (trI pb a) ∧
    ∀ s', Moved wr G s5 s' → ∃ H2, Tabbed P H1 H2 ∧ Inv X pins σ H2 s'
theorem gen_ints {c P : Addr} {elt src : Expr} {x : Str} {px gp : Pos} {sco : Scope} {pb : Int → Bool} {te : TE} {k : Nat} {Z : Value → Shared → Prop} {R : List Int → Hp → Prop}
    (hr : Room k X.A) (TB : TabB X.base X.mg c P) (hco : X.env.code = .ref c) (S : GenS X.env sco x) (hi : PE X src te) (hel : EltI X.prog X.w X.mg sco x elt pb)
    (hs : ∀ v, genFold src X.env v = pure v) (I : Inv X pins σ H s) (h : te σ H fun v H1 => ∃ (yl : Addr) (a : List Int), v = .ref yl ∧ SqL X.K H1 yl (a.map V.int) ∧ TabG H1 P ∧ R a H1)
    (hZ : ∀ a H1 g z, R a H1 → ReadyI X pins σ H1 P a pb g z → Z (.ref g) z) :
    wpAny (model X.prog X.w) X.A (eval (.GeneratorExp elt [⟨.Name x px, src, [], 0⟩] sco gp) X.env) Z X.xe s := by
  refine wpAny_GeneratorExp_walksQ hr.hd S.co (closure_ok S.free) S.cell S.dot S.loc S.kind (by have d := hr.dp; omega) ?_ hs
  refine thn (hi.run pins s σ H _ I h) fun xv z1 ⟨v, H1, J, r1, q⟩ => ?_
  obtain ⟨yl, a, rfl, hyl, ⟨ps, hP, ht⟩, q⟩ := q
  obtain rfl : xv = Value.ref yl := r1
  obtain ⟨its, rv, hl, hz⟩ := J.list hyl
  have hIL := hl.isList
  have hlen : its.length = a.length := by rw [← rv.length, List.length_map]
  have hat : ∀ (i : Nat) (v : Value), its.toArray[i]? = some v → ∃ (n : Int) (u : Tok), a[i]? = some n ∧ v = .int n u := fun i v hv => by
    have hv2 : its[i]? = some v := by simpa using hv
    have hi2 : i < its.length := (List.getElem?_eq_some_iff.mp hv2).1
    obtain ⟨n, ha⟩ : ∃ n, a[i]? = some n := ⟨a[i]'(by omega), List.getElem?_eq_getElem _⟩
    have hb : (a.map V.int)[i]? = some (V.int n) := by rw [List.getElem?_map, ha] <;> rfl
    obtain ⟨u, hu, ru⟩ := rv.get hb
    rw [hv2] at hu
    cases hu
    obtain ⟨t, e⟩ := (show ∃ t, v = Value.int n t from ru)
    exact ⟨n, t, ha, e⟩
  refine wpAny_pyIter_list hIL ?_
  generalize ho : ({ cls := .type "list_iterator", data := .fields #[.ref yl, .int 0 0] } : Obj) = it
  have hitr : (z1.heap.push it).IsListIter z1.heap.objs.size yl 0 := by
    subst ho
    exact ⟨_, Heap.get?_push_size _ rfl, rfl, rfl⟩
  have hylt : yl < z1.heap.objs.size := by
    obtain ⟨_, e, _⟩ := _root_.id hIL
    exact Heap.lt_size e
  have gP : z1.heap.get? P = some { cls := .none, data := .fields ps } := J.hok P _ hP
  have gP2 : (z1.heap.push it).get? P = some { cls := .none, data := .fields ps } := Heap.get?_push_of_some _ gP
  have ltP : P < z1.heap.objs.size := Heap.lt_size gP
  have hd2 : PySem.W.CodeHd (z1.heap.push it) c P := TB.code.keeps fun b u e => Heap.get?_push_of_some _ (J.bk b u e)
  have nl2 : (z1.heap.push it).NoLimit := J.nolimit.push it
  have go : ∀ (code : Value) (hh : Heap) (tk : Nat) (qs : Array Value), Heap.ExtBut P (z1.heap.push it) hh → (z1.heap.push it).objs.size ≤ hh.objs.size →
      hh.get? P = some { cls := .none, data := .fields qs } → (∃ more, qs = ps ++ more) → TriplesOk qs.toList →
      wpAny (model X.prog X.w) X.A (builtinsFor X.env.globals X.env.builtins) (fun bi s₄ =>
        ∃ Ia fp wr n₀ Pf St₀ pz F, Value.ref z1.heap.objs.size = .ref Ia ∧ (∀ A' : Around, A'.handled = none → Walks X.prog X.w A' Ia fp wr n₀ Pf St₀) ∧
          St₀ 0 s₄.heap ∧ (∀ b ∈ fp, b < s₄.heap.objs.size) ∧ s₄.heap.NoLimit ∧ cStatics ∉ wr ∧
          (∀ hf : Heap, (∀ b o, s₄.heap.get? b = some o → hf.get? b = some o) →
            QuietGen X.prog X.w (genEnv sco (cloFrom X.env.cells sco.names []) s₄.heap.objs.size code bi X.env) x [] elt (List.range s₄.heap.objs.size) wr Pf pz F hf) ∧
          (∀ a h₅ tk gs, gs.bare = true → s₄.heap.objs.size < a → h₅.objs.size = a + 1 → (∀ b o, s₄.heap.get? b = some o → h₅.get? b = some o) →
            WalksS X.prog X.w X.A.in4 a (a :: s₄.heap.objs.size :: List.range s₄.heap.objs.size) (s₄.heap.objs.size :: wr) (GenOnlyQ s₄.gens.size)
              (passing pz n₀ 0).length (fun j y => ∃ i, (passing pz n₀ 0)[j]? = some i ∧ F i y)
              (GenAt X.prog X.w X.A.in4 a s₄.gens.size s₄.heap.objs.size (List.range s₄.heap.objs.size) wr pz n₀ F) →
            GenAt X.prog X.w X.A.in4 a s₄.gens.size s₄.heap.objs.size (List.range s₄.heap.objs.size) wr pz n₀ F 0 { s₄ with gens := s₄.gens.push gs, toks := tk, heap := h₅ } →
            Z (.ref a) { s₄ with gens := s₄.gens.push gs, toks := tk, heap := h₅ })) X.xe { z1 with heap := hh, toks := tk } := by
    intro code hh tk qs ex sz gq mr tq
    obtain ⟨bm, ob, b1, b2, b3, b4, b5, b6, b7, b8⟩ := TB.bm
    have neS : cStatics ≠ P := fun e => by
      obtain ⟨_, ns, _⟩ := J.nolimit
      obtain ⟨oo, es, ep, go1, gd, _⟩ := ns
      rw [e, gP] at go1
      cases go1
      cases gd
    have ltS : cStatics < z1.heap.objs.size := let ⟨_, ns, _⟩ := J.nolimit; ns.lt
    have szp : (z1.heap.push it).objs.size = z1.heap.objs.size + 1 := Heap.size_push ..
    have kp : ∀ b u, b ≠ P → z1.heap.get? b = some u → hh.get? b = some u := fun b u hb e => ex b u hb (Heap.get?_push_of_some _ e)
    have gl1 : z1.heap.Ns mainGlobals X.mg := J.mod.glob.keeps J.bk
    have glh : hh.Ns mainGlobals X.mg := (gl1.push it).extBut ex TB.gP
    refine wpAny_builtinsFor (m := X.mg) (by rw [J.ok.glob]; exact glh) b1 b2 (kp _ _ b4 (J.bk _ _ b5)) b6 b7 b8 ?_
    have hylP : yl ≠ P := fun z => by
      obtain ⟨_, e, hc1, _, hd1⟩ := _root_.id hIL
      rw [z, gP] at e
      cases e
      cases hd1
    have hIL3 : hh.IsList yl its.toArray := by
      obtain ⟨ob, e, r⟩ := _root_.id hIL
      exact ⟨ob, kp _ _ hylP e, r⟩
    have hItr3 : hh.IsListIter z1.heap.objs.size yl 0 := hitr.at fun u e => ex _ u (Nat.ne_of_gt ltP) e
    refine ⟨z1.heap.objs.size, [z1.heap.objs.size, yl], [z1.heap.objs.size], its.toArray.size, (fun i v => its.toArray[i]? = some v), (fun i h => h.IsListIter z1.heap.objs.size yl i ∧ h.IsList yl its.toArray), (fun _ => true),
      (fun i y => ∃ n : Int, a[i]? = some n ∧ y = .bool (pb n)), rfl, (fun A' hA => Walks.list hA _ _ (Nat.ne_of_lt hylt) _), ⟨hItr3, hIL3⟩, ?_, nl2.extBut ex neS, ?_, ?_, ?_⟩
    · intro b hb
      rcases List.mem_cons.mp hb with z | z
      · rw [z]
        show z1.heap.objs.size < hh.objs.size
        omega
      · rw [List.mem_singleton.mp z]
        have e9 : z1.heap.objs.size ≤ hh.objs.size := by omega
        exact Nat.lt_of_lt_of_le hylt e9
    · exact fun m => Nat.ne_of_lt ltS (List.mem_singleton.mp m)
    · intro hf keep
      refine ⟨fun A' E' i v z2 m2 _ _ _ _ _ => ?_, fun A' E' i v z2 m2 _ hv _ hn hm hk => ?_⟩
      · simp only [List.forIn_nil]
        exact wpAny_pure ⟨rfl, keeps_refl _⟩
      · obtain ⟨cc, u, hcc, rfl⟩ := hat i v hv
        have ngl : z2.heap.Ns mainGlobals X.mg := by
          have lt1 : mainGlobals < z1.heap.objs.size := gl1.lt
          obtain ⟨og, es, ep, e1, er⟩ := glh
          exact ⟨og, es, ep, hk mainGlobals (List.mem_range.mpr (Heap.lt_size e1)) (fun m => Nat.ne_of_lt lt1 (List.mem_singleton.mp m)) og (keep _ _ e1), er⟩
        exact wpAny_mono (hel _ A' E' cc u z2 m2 rfl J.ok.glob ngl hn hm) (fun y z3 r => ⟨⟨cc, hcc, r.1⟩, r.2⟩) fun _ _ e => e
    · intro g h5 tk5 gs bare lt5 sz5 k5 W5 at5
      simp only [GxR.passing_true, List.length_range] at W5
      have hn5 : its.toArray.size = a.length := by rw [List.size_toArray, hlen]
      rw [hn5] at W5 at5
      refine hZ a H1 g _ q ⟨_, _, _, _, _, W5.in4_1, at5, ?_, fun z' mv => ?_⟩
      · intro j y sj Qj Ej hy hQj
        obtain ⟨i, hij, cc, hcc, rfl⟩ := hy
        obtain ⟨lj, ej⟩ := List.getElem?_eq_some_iff.mp hij
        rw [List.getElem_range] at ej
        subst ej
        have hQ2 : Qj (trI pb a j) sj := hQj
        rw [trI_some hcc] at hQ2
        exact wpAny_truthy_bool hQ2
      · obtain ⟨more, em⟩ := mr
        have out : ∀ b u, z1.heap.get? b = some u → b ∉ hh.objs.size :: [z1.heap.objs.size] := fun b u e hb => by
          have lt := Heap.lt_size e
          rcases List.mem_cons.mp hb with y | y
          · rw [y] at lt
            have lt' : (hh.objs.size : Nat) < z1.heap.objs.size := lt
            omega
          · rw [List.mem_singleton.mp y] at lt
            exact Nat.lt_irrefl _ lt
        have J2 := inv_tab (more := more) (h' := z'.heap) (g' := z'.gens) (d' := z'.drawn) (t' := z'.toks) J hP
          (fun b u hb e => mv.heap b u (out b u e) (k5 b u (kp b u hb e)))
          (by rw [← em]; exact mv.heap P _ (out P _ gP) (k5 P _ gq))
          (AllBare.movedS (J.bare.push bare) mv)
        rw [sh_eta z1 z' mv.os] at J2
        exact ⟨upd H1 P (.tbl (ps ++ more)), ⟨⟨ps ++ more, upd_same, by rw [← em]; exact tq⟩, fun b hb => upd_ne hb⟩, J2⟩
  refine ⟨nl2, ?_⟩
  cases hf : codeAmong gp ps.toList with
  | none =>
    refine wpAny_genexprCodeX hco (hd2.code gP2 ht) (hd2.tab gP2) hf fun c' h' tk ex ge lt hc' _ tab' _ => ?_
    obtain ⟨_, _, _, _, _, _, _, _, _, _, _, _, _, _, _, _, _, _, _, tr, _⟩ := hc'
    exact go _ h' tk _ ex (Nat.le_trans ge (Nat.le_of_lt lt)) tab'.2 ⟨_, rfl⟩ tr
  | some cv =>
    refine wpAny_genexprCode_hit hco (hd2.code gP2 ht) hf ?_
    exact go cv (z1.heap.push it) z1.toks ps (Heap.ExtBut.refl _ _) (Nat.le_refl _) gP2 ⟨#[], by simp⟩ ht
def tAllI (K : PySem.W.Frag) (P : Addr) (pb : Int → Bool) (te : TE) : TE := fun σ H Q => te σ H fun v H1 => ∃ (yl : Addr) (a : List Int), v = .ref yl ∧ SqL K H1 yl (a.map V.int) ∧ TabG H1 P ∧ ∀ H2, Tabbed P H1 H2 → Q (.bl (a.all pb)) H2
theorem pe_allI {c P : Addr} {elt src : Expr} {x : Str} {px p pos gp : Pos} {sco : Scope} {pb : Int → Bool} {te : TE} {k : Nat}
    (hr : Room k X.A) (hg : Gl X "all") (hm : X.mg "all" = none) (hb : bootBuiltins "all" = some (.builtin "all")) (TB : TabB X.base X.mg c P) (hco : X.env.code = .ref c) (S : GenS X.env sco x) (hi : PE X src te) (hel : EltI X.prog X.w X.mg sco x elt pb)
    (hs : ∀ v, genFold src X.env v = pure v)
    (he : starEach [.GeneratorExp elt [⟨.Name x px, src, [], 0⟩] sco gp] X.env = (false, eval (.GeneratorExp elt [⟨.Name x px, src, [], 0⟩] sco gp) X.env) :: starEach [] X.env := by rfl) :
    PE X (.Call (.Name "all" p) [.GeneratorExp elt [⟨.Name x px, src, [], 0⟩] sco gp] [] pos) (tAllI X.K P pb te) := by
  refine ⟨fun pins z σ H Q I h => ?_⟩
  refine wpAny_Call_Name_kw (ld_blt I hg hm hb (PyProof.Rows.callWith_builtin1 ?_ he (by rfl)))
  rw [he]
  show wpAny _ _ (spliced ((false, eval (.GeneratorExp elt [⟨.Name x px, src, [], 0⟩] sco gp) X.env) :: backTo pos (starEach [] X.env))) _ _ z
  refine Calls.spliced_cons (gen_ints (R := fun a H1 => ∀ H2, Tabbed P H1 H2 → Q (.bl (a.all pb)) H2) hr TB hco S hi hel hs I h fun a H1 g z5 hR hG => ?_)
  obtain ⟨fp, wr, G, F, St, W, st0, tru, fin⟩ := hG
  refine Calls.spliced_nil (call_all_walkS (W.self 0 _ _ _ st0 ⟨g, fp, wr, G, _, F, St, _, rfl, W, st0, tru, fun z' mv => ?_⟩))
  obtain ⟨H2, tb, J⟩ := fin z' mv
  refine ⟨.bl _, H2, J, rfl, ?_⟩
  rw [all_trI a pb]
  exact hR H2 tb
end

/-! ### all(f(x) for x in a list of ints): f a def whose body is one return -/
section
open GxR
variable {X : Cx} {pins : List (Addr × Obj)} {σ : L2.St} {H : Hp} {s : Shared}
def EltD (prog : Program) (w : World) (K : PySem.W.Frag) (mg : Str → Option Value) (sco : Scope) (x : Str) (elt : Expr) (pb : Int → Bool) (D : Nat) : Prop :=
  ∀ (en : Env) (B : Around) (F : Value → Shared → Prop) (c : Int) (t : Tok) (z : Shared) (m : Str → Option Value),
    B.handled = none → B.depth ≤ D → en.scope = sco → en.globals = mainGlobals → z.heap.Ns mainGlobals mg → K.In z.heap → z.heap.NoLimit → z.heap.Ns en.locals m → m x = some (.int c t) →
    wpAny (model prog w) B (eval elt en) (fun y z' => y = .bool (pb c) ∧ Keeps z z') F z
theorem elt_call {prog : Program} {w : World} {K : PySem.W.Frag} {mg : Str → Option Value} {sco : Scope} {x fn y : Str} {f : Addr} {fd : FuncData} {st : Stmt} {e : Expr} {pb : Int → Bool} {N : List Str} {p p1 pos p4 : Pos} {D : Nat}
    (Fn : Fun K fn fn st f fd) (hg : mg fn = some (.ref f)) (hb : Binds K fd [y] []) (S : FnScope N [y] (defScope st)) (nc : ∀ q ∈ (defScope st).names, q.2 ≠ .cell) (hbd : defBody st = [.Return (some e) p4]) (hel : EltI prog w mg (defScope st) y e pb)
    (kf : sco.kind = .function) (lx : sco.names.lookup x = some .local) (lf : sco.names.lookup fn = some .globalImplicit) (ly : (defScope st).names.lookup y = some .local) (hD : D < recursionLimit)
    (dx : (x == ("__debug__" : Str)) = false := by decide) (df : (fn == ("__debug__" : Str)) = false := by decide) :
    EltD prog w K mg sco x (.Call (.Name fn p) [.Name x p1] [] pos) pb D := by
  intro en B F c t z m hh hd es eg ng kin nl nlc hm
  have kf' : en.scope.kind = .function := by rw [es]; exact kf
  refine wpAny_Call_Name_kw (Calls.Name_function_global kf' (show en.scope.names.lookup fn = some .globalImplicit by rw [es]; exact lf) (Calls.loadGlobal_global (mg := mg) (by rw [eg]; exact ng) hg ?_) df)
  refine PySem.W.callWith_K (K := K) (first := []) kin Fn.kp ?_ (by rfl) (by rfl)
  refine Calls.spliced_cons (wpAny_Name (wpAny_loadName_local kf' (show en.scope.names.lookup x = some .local by rw [es]; exact lx) nlc hm (Calls.spliced_nil ⟨kin, ?_⟩)) dx)
  refine wpAny_call ?_
  obtain ⟨oc, od, kV, doc, pm, an, cdv, ct, osl, rfl, lk, cd⟩ := Fn.ex
  refine codeAny_call_function (Nat.lt_of_le_of_lt hd hD) (kin _ _ lk) rfl S.co S.gen rfl (PySem.W.codeRec_of kin cd) (hb _ _ kin rfl _ _ _ _ ?_)
  refine wpAny_newFunctionEnv nc (fun q hq => ?_) (fun h0 hns hsb => ⟨nl.fresh _ hsb, codeAny_func ?_⟩) S.kind
  · rw [List.mem_singleton.mp hq]
    exact ly
  · have ext : ∀ b o, z.heap.get? b = some o → h0.get? b = some o := fun b o e => hsb.extBut b o (Nat.ne_of_lt (Heap.lt_size e)) (Heap.get?_push_of_some _ e)
    rw [hbd]
    refine wpAny_execs_cons (wpAny_Return_some ?_)
    refine wpAny_mono (hel _ _ _ c t _ _ rfl rfl (ng.keeps ext) hns (by simp [List.lookup])) (fun v z' r => ?_) fun _ _ q => q
    obtain ⟨rv, h1, k1, rfl, ex1⟩ := r
    exact ⟨rv, h1, k1, rfl, fun b o e => ex1 b o (ext b o e)⟩
theorem gen_intsD {c P : Addr} {elt src : Expr} {x : Str} {px gp : Pos} {sco : Scope} {pb : Int → Bool} {te : TE} {k : Nat} {Z : Value → Shared → Prop} {R : List Int → Hp → Prop}
    (hr : Room k X.A) (TB : TabB X.base X.mg c P) (hco : X.env.code = .ref c) (S : GenS X.env sco x) (hi : PE X src te) (hel : EltD X.prog X.w X.K X.mg sco x elt pb (X.A.depth + 1))
    (hs : ∀ v, genFold src X.env v = pure v) (I : Inv X pins σ H s) (h : te σ H fun v H1 => ∃ (yl : Addr) (a : List Int), v = .ref yl ∧ SqL X.K H1 yl (a.map V.int) ∧ TabG H1 P ∧ R a H1)
    (hZ : ∀ a H1 g z, R a H1 → ReadyI X pins σ H1 P a pb g z → Z (.ref g) z) :
    wpAny (model X.prog X.w) X.A (eval (.GeneratorExp elt [⟨.Name x px, src, [], 0⟩] sco gp) X.env) Z X.xe s := by
  refine wpAny_GeneratorExp_walksQD hr.hd S.co (closure_ok S.free) S.cell S.dot S.loc S.kind (by have d := hr.dp; omega) ?_ hs
  refine thn (hi.run pins s σ H _ I h) fun xv z1 ⟨v, H1, J, r1, q⟩ => ?_
  obtain ⟨yl, a, rfl, hyl, ⟨ps, hP, ht⟩, q⟩ := q
  obtain rfl : xv = Value.ref yl := r1
  obtain ⟨its, rv, hl, hz⟩ := J.list hyl
  have hIL := hl.isList
  have hlen : its.length = a.length := by rw [← rv.length, List.length_map]
  have hat : ∀ (i : Nat) (v : Value), its.toArray[i]? = some v → ∃ (n : Int) (u : Tok), a[i]? = some n ∧ v = .int n u := fun i v hv => by
    have hv2 : its[i]? = some v := by simpa using hv
    have hi2 : i < its.length := (List.getElem?_eq_some_iff.mp hv2).1
    obtain ⟨n, ha⟩ : ∃ n, a[i]? = some n := ⟨a[i]'(by omega), List.getElem?_eq_getElem _⟩
    have hb : (a.map V.int)[i]? = some (V.int n) := by rw [List.getElem?_map, ha] <;> rfl
    obtain ⟨u, hu, ru⟩ := rv.get hb
    rw [hv2] at hu
    cases hu
    obtain ⟨t, e⟩ := (show ∃ t, v = Value.int n t from ru)
    exact ⟨n, t, ha, e⟩
  refine wpAny_pyIter_list hIL ?_
  generalize ho : ({ cls := .type "list_iterator", data := .fields #[.ref yl, .int 0 0] } : Obj) = it
  have hitr : (z1.heap.push it).IsListIter z1.heap.objs.size yl 0 := by
    subst ho
    exact ⟨_, Heap.get?_push_size _ rfl, rfl, rfl⟩
  have hylt : yl < z1.heap.objs.size := by
    obtain ⟨_, e, _⟩ := _root_.id hIL
    exact Heap.lt_size e
  have gP : z1.heap.get? P = some { cls := .none, data := .fields ps } := J.hok P _ hP
  have gP2 : (z1.heap.push it).get? P = some { cls := .none, data := .fields ps } := Heap.get?_push_of_some _ gP
  have ltP : P < z1.heap.objs.size := Heap.lt_size gP
  have hd2 : PySem.W.CodeHd (z1.heap.push it) c P := TB.code.keeps fun b u e => Heap.get?_push_of_some _ (J.bk b u e)
  have nl2 : (z1.heap.push it).NoLimit := J.nolimit.push it
  have go : ∀ (code : Value) (hh : Heap) (tk : Nat) (qs : Array Value), Heap.ExtBut P (z1.heap.push it) hh → (z1.heap.push it).objs.size ≤ hh.objs.size →
      hh.get? P = some { cls := .none, data := .fields qs } → (∃ more, qs = ps ++ more) → TriplesOk qs.toList →
      wpAny (model X.prog X.w) X.A (builtinsFor X.env.globals X.env.builtins) (fun bi s₄ =>
        ∃ Ia fp wr n₀ Pf St₀ pz F, Value.ref z1.heap.objs.size = .ref Ia ∧ (∀ A' : Around, A'.handled = none → Walks X.prog X.w A' Ia fp wr n₀ Pf St₀) ∧
          St₀ 0 s₄.heap ∧ (∀ b ∈ fp, b < s₄.heap.objs.size) ∧ s₄.heap.NoLimit ∧ cStatics ∉ wr ∧
          (∀ hf : Heap, (∀ b o, s₄.heap.get? b = some o → hf.get? b = some o) →
            QuietGenD X.prog X.w (genEnv sco (cloFrom X.env.cells sco.names []) s₄.heap.objs.size code bi X.env) x [] elt (List.range s₄.heap.objs.size) wr Pf pz F hf (X.A.depth + 1) (X.A.units + 8)) ∧
          (∀ a h₅ tk gs, gs.bare = true → s₄.heap.objs.size < a → h₅.objs.size = a + 1 → (∀ b o, s₄.heap.get? b = some o → h₅.get? b = some o) →
            WalksS X.prog X.w X.A.in4 a (a :: s₄.heap.objs.size :: List.range s₄.heap.objs.size) (s₄.heap.objs.size :: wr) (GenOnlyQ s₄.gens.size)
              (passing pz n₀ 0).length (fun j y => ∃ i, (passing pz n₀ 0)[j]? = some i ∧ F i y)
              (GenAt X.prog X.w X.A.in4 a s₄.gens.size s₄.heap.objs.size (List.range s₄.heap.objs.size) wr pz n₀ F) →
            GenAt X.prog X.w X.A.in4 a s₄.gens.size s₄.heap.objs.size (List.range s₄.heap.objs.size) wr pz n₀ F 0 { s₄ with gens := s₄.gens.push gs, toks := tk, heap := h₅ } →
            Z (.ref a) { s₄ with gens := s₄.gens.push gs, toks := tk, heap := h₅ })) X.xe { z1 with heap := hh, toks := tk } := by
    intro code hh tk qs ex sz gq mr tq
    obtain ⟨bm, ob, b1, b2, b3, b4, b5, b6, b7, b8⟩ := TB.bm
    have neS : cStatics ≠ P := fun e => by
      obtain ⟨_, ns, _⟩ := J.nolimit
      obtain ⟨oo, es, ep, go1, gd, _⟩ := ns
      rw [e, gP] at go1
      cases go1
      cases gd
    have ltS : cStatics < z1.heap.objs.size := let ⟨_, ns, _⟩ := J.nolimit; ns.lt
    have szp : (z1.heap.push it).objs.size = z1.heap.objs.size + 1 := Heap.size_push ..
    have kp : ∀ b u, b ≠ P → z1.heap.get? b = some u → hh.get? b = some u := fun b u hb e => ex b u hb (Heap.get?_push_of_some _ e)
    have gl1 : z1.heap.Ns mainGlobals X.mg := J.mod.glob.keeps J.bk
    have glh : hh.Ns mainGlobals X.mg := (gl1.push it).extBut ex TB.gP
    refine wpAny_builtinsFor (m := X.mg) (by rw [J.ok.glob]; exact glh) b1 b2 (kp _ _ b4 (J.bk _ _ b5)) b6 b7 b8 ?_
    have hylP : yl ≠ P := fun z => by
      obtain ⟨_, e, hc1, _, hd1⟩ := _root_.id hIL
      rw [z, gP] at e
      cases e
      cases hd1
    have hIL3 : hh.IsList yl its.toArray := by
      obtain ⟨ob, e, r⟩ := _root_.id hIL
      exact ⟨ob, kp _ _ hylP e, r⟩
    have hItr3 : hh.IsListIter z1.heap.objs.size yl 0 := hitr.at fun u e => ex _ u (Nat.ne_of_gt ltP) e
    refine ⟨z1.heap.objs.size, [z1.heap.objs.size, yl], [z1.heap.objs.size], its.toArray.size, (fun i v => its.toArray[i]? = some v), (fun i h => h.IsListIter z1.heap.objs.size yl i ∧ h.IsList yl its.toArray), (fun _ => true),
      (fun i y => ∃ n : Int, a[i]? = some n ∧ y = .bool (pb n)), rfl, (fun A' hA => Walks.list hA _ _ (Nat.ne_of_lt hylt) _), ⟨hItr3, hIL3⟩, ?_, nl2.extBut ex neS, ?_, ?_, ?_⟩
    · intro b hb
      rcases List.mem_cons.mp hb with z | z
      · rw [z]
        show z1.heap.objs.size < hh.objs.size
        omega
      · rw [List.mem_singleton.mp z]
        have e9 : z1.heap.objs.size ≤ hh.objs.size := by omega
        exact Nat.lt_of_lt_of_le hylt e9
    · exact fun m => Nat.ne_of_lt ltS (List.mem_singleton.mp m)
    · intro hf keep
      refine ⟨fun A' E' i v z2 m2 _ _ _ _ _ _ _ => ?_, fun A' E' i v z2 m2 hhd hdp _ hv _ hn hm hk => ?_⟩
      · simp only [List.forIn_nil]
        exact wpAny_pure ⟨rfl, keeps_refl _⟩
      · obtain ⟨cc, u, hcc, rfl⟩ := hat i v hv
        have ngl : z2.heap.Ns mainGlobals X.mg := by
          have lt1 : mainGlobals < z1.heap.objs.size := gl1.lt
          obtain ⟨og, es, ep, e1, er⟩ := glh
          exact ⟨og, es, ep, hk mainGlobals (List.mem_range.mpr (Heap.lt_size e1)) (fun m => Nat.ne_of_lt lt1 (List.mem_singleton.mp m)) og (keep _ _ e1), er⟩
        have up2 : ∀ b o, b ≠ P → b < z1.heap.objs.size → z1.heap.get? b = some o → z2.heap.get? b = some o := fun b o hb hlt e =>
          hk b (List.mem_range.mpr (Heap.lt_size (kp b o hb e))) (fun m => Nat.ne_of_lt hlt (List.mem_singleton.mp m)) o (keep _ _ (kp b o hb e))
        have kin2 : X.K.In z2.heap := fun b o e => by
          have e1 := J.kIn b o e
          refine up2 b o (fun q => ?_) (Heap.lt_size e1) e1
          have bs1 := (J.bs b o (J.ok.mod.kin b o e)).2
          rw [q, hP] at bs1
          cases bs1
        have nl3 : z2.heap.NoLimit := by
          obtain ⟨mc, hns, hnn⟩ := J.nolimit
          exact ⟨mc, hns.at' fun o e => up2 cStatics o neS ltS e, hnn⟩
        exact wpAny_mono (hel _ A' E' cc u z2 m2 hhd hdp rfl J.ok.glob ngl kin2 nl3 hn hm) (fun y z3 r => ⟨⟨cc, hcc, r.1⟩, r.2⟩) fun _ _ e => e
    · intro g h5 tk5 gs bare lt5 sz5 k5 W5 at5
      simp only [GxR.passing_true, List.length_range] at W5
      have hn5 : its.toArray.size = a.length := by rw [List.size_toArray, hlen]
      rw [hn5] at W5 at5
      refine hZ a H1 g _ q ⟨_, _, _, _, _, W5.in4_1, at5, ?_, fun z' mv => ?_⟩
      · intro j y sj Qj Ej hy hQj
        obtain ⟨i, hij, cc, hcc, rfl⟩ := hy
        obtain ⟨lj, ej⟩ := List.getElem?_eq_some_iff.mp hij
        rw [List.getElem_range] at ej
        subst ej
        have hQ2 : Qj (trI pb a j) sj := hQj
        rw [trI_some hcc] at hQ2
        exact wpAny_truthy_bool hQ2
      · obtain ⟨more, em⟩ := mr
        have out : ∀ b u, z1.heap.get? b = some u → b ∉ hh.objs.size :: [z1.heap.objs.size] := fun b u e hb => by
          have lt := Heap.lt_size e
          rcases List.mem_cons.mp hb with y | y
          · rw [y] at lt
            have lt' : (hh.objs.size : Nat) < z1.heap.objs.size := lt
            omega
          · rw [List.mem_singleton.mp y] at lt
            exact Nat.lt_irrefl _ lt
        have J2 := inv_tab (more := more) (h' := z'.heap) (g' := z'.gens) (d' := z'.drawn) (t' := z'.toks) J hP
          (fun b u hb e => mv.heap b u (out b u e) (k5 b u (kp b u hb e)))
          (by rw [← em]; exact mv.heap P _ (out P _ gP) (k5 P _ gq))
          (AllBare.movedS (J.bare.push bare) mv)
        rw [sh_eta z1 z' mv.os] at J2
        exact ⟨upd H1 P (.tbl (ps ++ more)), ⟨⟨ps ++ more, upd_same, by rw [← em]; exact tq⟩, fun b hb => upd_ne hb⟩, J2⟩
  refine ⟨nl2, ?_⟩
  cases hf : codeAmong gp ps.toList with
  | none =>
    refine wpAny_genexprCodeX hco (hd2.code gP2 ht) (hd2.tab gP2) hf fun c' h' tk ex ge lt hc' _ tab' _ => ?_
    obtain ⟨_, _, _, _, _, _, _, _, _, _, _, _, _, _, _, _, _, _, _, tr, _⟩ := hc'
    exact go _ h' tk _ ex (Nat.le_trans ge (Nat.le_of_lt lt)) tab'.2 ⟨_, rfl⟩ tr
  | some cv =>
    refine wpAny_genexprCode_hit hco (hd2.code gP2 ht) hf ?_
    exact go cv (z1.heap.push it) z1.toks ps (Heap.ExtBut.refl _ _) (Nat.le_refl _) gP2 ⟨#[], by simp⟩ ht
theorem pe_allD {c P : Addr} {elt src : Expr} {x : Str} {px p pos gp : Pos} {sco : Scope} {pb : Int → Bool} {te : TE} {k : Nat}
    (hr : Room k X.A) (hg : Gl X "all") (hm : X.mg "all" = none) (hb : bootBuiltins "all" = some (.builtin "all")) (TB : TabB X.base X.mg c P) (hco : X.env.code = .ref c) (S : GenS X.env sco x) (hi : PE X src te) (hel : EltD X.prog X.w X.K X.mg sco x elt pb (X.A.depth + 1))
    (hs : ∀ v, genFold src X.env v = pure v)
    (he : starEach [.GeneratorExp elt [⟨.Name x px, src, [], 0⟩] sco gp] X.env = (false, eval (.GeneratorExp elt [⟨.Name x px, src, [], 0⟩] sco gp) X.env) :: starEach [] X.env := by rfl) :
    PE X (.Call (.Name "all" p) [.GeneratorExp elt [⟨.Name x px, src, [], 0⟩] sco gp] [] pos) (tAllI X.K P pb te) := by
  refine ⟨fun pins z σ H Q I h => ?_⟩
  refine wpAny_Call_Name_kw (ld_blt I hg hm hb (PyProof.Rows.callWith_builtin1 ?_ he (by rfl)))
  rw [he]
  show wpAny _ _ (spliced ((false, eval (.GeneratorExp elt [⟨.Name x px, src, [], 0⟩] sco gp) X.env) :: backTo pos (starEach [] X.env))) _ _ z
  refine Calls.spliced_cons (gen_intsD (R := fun a H1 => ∀ H2, Tabbed P H1 H2 → Q (.bl (a.all pb)) H2) hr TB hco S hi hel hs I h fun a H1 g z5 hR hG => ?_)
  obtain ⟨fp, wr, G, F, St, W, st0, tru, fin⟩ := hG
  refine Calls.spliced_nil (call_all_walkS (W.self 0 _ _ _ st0 ⟨g, fp, wr, G, _, F, St, _, rfl, W, st0, tru, fun z' mv => ?_⟩))
  obtain ⟨H2, tb, J⟩ := fin z' mv
  refine ⟨.bl _, H2, J, rfl, ?_⟩
  rw [all_trI a pb]
  exact hR H2 tb
end

/-! ### a def whose code object is known, a method that may raise in a try, the end with a table -/
structure FunC (K : PySem.W.Frag) (x qual : Str) (st : Stmt) (f : Addr) (fd : FuncData) (c : Addr) : Prop where
  ex : ∃ (oc : Value) (od : Option Addr) (kV doc pm : Value) (an : Option Addr) (ct : Value) (osl : Array (Option Value)),
    fd = PySem.W.fnOf x qual (defArgs st) (defBody st) (defScope st) .none kV doc pm an (.ref c) ct ∧ K.lookup f = some ⟨oc, od, .func fd, osl⟩ ∧ PySem.W.codeIn K (.ref c) qual = true
theorem FunC.ok {P : Program} {w : World} {K : PySem.W.Frag} {mg : Str → Option Value} {base : Heap} {x qual : Str} {st : Stmt} {f c : Addr} {fd : FuncData} {N ps : List Str} {k : Nat} {sp : Sp} (F : FunC K x qual st f fd c) (S : FnScope N ps (defScope st)) (len : ∀ vs H Q E, sp vs H Q E → vs.length = ps.length)
    (body : ∀ (A : Around) (outer : List Env) (s : Shared) (H : Hp) (vs : List V) (Q : VK) (E : XK), Room k (A.deeper (envOfC qual (defScope st) s.heap.objs.size f (.ref c))) → sp vs H Q E →
      ∃ t, PSs (cxOf CX0 P w K mg base N qual (defScope st) f (.ref c) A outer s H E).nox (defBody st) t ∧ t { nx := fun _ H' => Q .non H', rt := Q } (start N vs) H) : FnOk P w K mg base CX0 (k + 1) f fd ps sp := by
  obtain ⟨oc, od, kV, doc, pm, an, ct, osl, rfl, lk, cd⟩ := F.ex
  refine fn_of lk cd S len fun A outer s H vs Q E hr hs => ?_
  obtain ⟨t, h, q⟩ := body A outer s H vs Q E hr hs
  exact ⟨t, h.nox, q⟩
theorem noFree {names : List (Str × NameKind)} {cells : List (Str × Addr)} (h : names.all (fun y => decide (y.2 ≠ .free)) = true) : ∀ y ∈ names, y.2 = .free → ∃ c, cells.lookup y.1 = some c := fun y hy e =>
  absurd e (of_decide_eq_true (List.all_eq_true.mp h y hy))
theorem noCell {names : List (Str × NameKind)} (h : names.all (fun y => decide (y.2 ≠ .cell)) = true) : ∀ y ∈ names, y.2 ≠ .cell := fun y hy => of_decide_eq_true (List.all_eq_true.mp h y hy)
section
variable {X : Cx} {CX : CXT} {k : Nat} {C f : Addr} {fd : FuncData} {ps : List Str} {sp : Sp} {m : Str} {o e : Expr} {es : List Expr} {ta : TE} {t : TA} {E : L2.St → XK} {apos pos : Pos}
def tMethE (C : Addr) (m : Str) (sp : Sp) (E : L2.St → XK) (ta : TE) (t : TA) : TE := fun σ H Q => ta σ H fun x H1 => ∃ a dx fs, x = .ref a ∧ H1 a = some (.ins C dx fs) ∧ fs.lookup m = none ∧ t σ H1 fun vs H2 => sp (.ref a :: vs) H2 Q (E σ)
theorem pe_methE {pl : Sem Bool} (he : PE X o ta) (c : Cls X.K C) (hm : Meth X.K C m f) (F : FnOk X.prog X.w X.K X.mg X.base CX k f fd ps sp) (hr : Room k X.A) (hb : Binds X.K fd ps []) (hx : ∀ σ, PassesAt CX X σ (E σ)) (ha : PA X (e :: es) t)
    (s1 : starEach (e :: es) X.env = (false, eval e X.env) :: starEach es X.env := by rfl) (s2 : (backTo pos (starEach es X.env)).any (·.1) = false := by rfl)
    (ht : eval (.Call (.Attribute o m apos) (e :: es) [] pos) X.env = (do
      let v ← eval o X.env
      standAt apos.atName
      let (g, fst) ← holding [v] (getMethod v m pl)
      callWith pos g fst (backTo pos (starEach (e :: es) X.env)) (backToKw pos (keywordEach [] X.env))) := by rfl) :
    PE X (.Call (.Attribute o m apos) (e :: es) [] pos) (tMethE C m sp E ta t) := by
  refine ⟨fun pins z σ H Q I h => ?_⟩
  refine PySem.W.methodCall_KW (pl := pl) (thn (he.run pins z σ H _ I h) fun u z1 ⟨x, H1, J, rx, a, dx, fs, ex, ea, l, q⟩ => ?_) ht
  subst ex
  obtain rfl : u = Value.ref a := rx
  refine getmeth_ok J ea c hm l ?_
  refine PySem.W.callWith_K (first := [.ref a]) (h₀ := X.base) I.ok.mod.kin hm.kp (thn (ha.run pos pins z1 σ H1 _ J q) fun us z2 ⟨vs, H2, J2, r, q2⟩ => ⟨J2.kIn, ?_⟩) s1 s2
  exact run_fnS (us := .ref a :: us) (vs := .ref a :: vs) F hr hb (hx σ) J2 (.cons rfl r) q2
end
theorem walk_tab {l : PySem.W.OpenLaw} {n k : Nat} {q : Program} {loose : List Str} {XP : (Str → Option Value) → Heap → Prop} {YP : World → Heap → Prop} {d : DefRec} {K : Params → PySem.W.Frag} {CX : World → CXT} {x : Str} (nms : List Str)
    (hn : l.most = some n) (hz : n ≤ sizeLine) (hdf : d.params.defaults = []) (hr : Room k callerA) (hrec : nms.all (fun y => (recsOf q).any fun e => e.name == y) = true) (hY : ∀ (w : World) (h : Heap), YP w h → (K w.params).In h)
    (F : ∀ (w : World) (mg : Str → Option Value) (fa : Addr) (h : Heap), (K w.params).In h → h.Ns mainGlobals mg → mg d.name = some (.ref fa) → (∀ y ∈ nms, ∀ f, mg y = some (.ref f) → LamX.OwnTab (K w.params) f h) → LamX.LawAtS l w (K w.params) (CX w) k n x mg fa h)
    (hCX : ∀ (w : World) (H : Hp) (s : Shared) (e : Value) (s' : Shared), CX w [] H s (fun _ _ _ => False) e s' → False) :
    PySem.W.WalkO q loose XP YP l.row.toRowW d [] (fun f vs => PySem.call f vs) := by
  refine Att.attach_callB hn hdf fun w s0 s1 mg mb fa o pm cd doc a vs ns G Y ho hd hcd hmg hob hin hlen hbits hg => ?_
  have KX := hY w _ Y
  have own : ∀ y ∈ nms, ∀ f, mg y = some (.ref f) → LamX.OwnTab (K w.params) f s1.heap := fun y hy f hf c P o1 fd1 e dd us sl k1 k2 k3 k4 k5 => by
    obtain ⟨dl, hm, he⟩ := List.any_eq_true.mp (List.all_eq_true.mp hrec y hy)
    have en : dl.name = y := beq_iff_eq.mp he
    obtain ⟨a', o', fd', c', P', t1, t2, t3, t4, t5, t6⟩ := G.T.tab dl hm
    rw [en, hf] at t1
    cases t1
    rw [KX _ _ k1] at t2
    cases t2
    rw [k2] at t3
    cases t3
    rw [k3] at t4
    cases t4
    obtain ⟨⟨oc, vc, u1, _, u3, u4⟩, hP⟩ := t6
    rw [KX _ _ k4] at u1
    cases u1
    cases u3
    rw [k5] at u4
    cases u4
    exact hP
  obtain ⟨fd, cs, sp, hT, nT, C, hb, hsp, hF⟩ := F w mg fa _ KX G.T.g hmg own
  exact LamX.law_callTs KX G.T.g G.T.b G.T.builtins G.T.nolimit hg hT nT C G.T.bmain hob hin (Nat.le_trans hlen hz) hr hF hb (fun H hH hS => hsp H a ns hlen hbits hH hS) fun H e s' => hCX w H s1 e s'
theorem codeHd_mk {K : PySem.W.Frag} {h : Heap} {c P : Addr} {dd : Option Addr} {vs : Array Value} {sl : Array (Option Value)} {fl : Str} {tf tg tt : Tok} {fg tx : Int} {b : Bool} (X : K.In h) (l : K.lookup c = some ⟨.type "code", dd, .fields vs, sl⟩) (h11 : vs[11]? = some (.ref P)) (h18 : vs.getD 18 .none = .str fl tf)
    (h7 : vs.getD 7 .none = .int fg tg) (h9 : vs.getD 9 .none = .bool b) (h10 : vs.getD 10 .none = .int tx tt) (ne : c ≠ P) : PySem.W.CodeHd h c P :=
  ⟨_, vs, fl, tf, fg, tg, b, tx, tt, X _ _ l, rfl, rfl, h11, by rw [Array.getD_eq_getD_getElem?, h11]; rfl, h18, h7, h9, h10, ne⟩

/-! ### all(x == G for x in ints), any(x != G for x in ints): G a module's int -/
section
open GxR
variable {X : Cx} {pins : List (Addr × Obj)} {σ : L2.St} {H : Hp} {s : Shared}
theorem elt_eqG {prog : Program} {w : World} {mg : Str → Option Value} {sco : Scope} {x g : Str} {hi : Int} {tl : Tok} {p1 p2 p3 : Pos} (kf : sco.kind = .function) (lx : sco.names.lookup x = some .local) (lg : sco.names.lookup g = some .globalImplicit)
    (hL : mg g = some (.int hi tl)) (dx : (x == ("__debug__" : Str)) = false := by decide) (dg : (g == ("__debug__" : Str)) = false := by decide) :
    EltI prog w mg sco x (.Compare (.Name x p1) [.Eq] [.Name g p2] p3) (fun c => c == hi) := by
  intro en B F c t z m es eg ng nl hm
  have kk : en.scope.kind = .function := by rw [es]; exact kf
  refine wpAny_Compare1 ?_ rfl
  refine wpAny_Name (wpAny_loadName_local kk (show en.scope.names.lookup x = some .local by rw [es]; exact lx) nl hm ?_) dx
  refine Calls.Name_function_global kk (show en.scope.names.lookup g = some .globalImplicit by rw [es]; exact lg) (Calls.loadGlobal_global (mg := mg) (by rw [eg]; exact ng) hL ?_) dg
  exact PyProof.Rows.eq_int ⟨rfl, keeps_refl _⟩
theorem elt_neG {prog : Program} {w : World} {mg : Str → Option Value} {sco : Scope} {x g : Str} {hi : Int} {tl : Tok} {p1 p2 p3 : Pos} (kf : sco.kind = .function) (lx : sco.names.lookup x = some .local) (lg : sco.names.lookup g = some .globalImplicit)
    (hL : mg g = some (.int hi tl)) (dx : (x == ("__debug__" : Str)) = false := by decide) (dg : (g == ("__debug__" : Str)) = false := by decide) :
    EltI prog w mg sco x (.Compare (.Name x p1) [.NotEq] [.Name g p2] p3) (fun c => c != hi) := by
  intro en B F c t z m es eg ng nl hm
  have kk : en.scope.kind = .function := by rw [es]; exact kf
  refine wpAny_Compare1 ?_ rfl
  refine wpAny_Name (wpAny_loadName_local kk (show en.scope.names.lookup x = some .local by rw [es]; exact lx) nl hm ?_) dx
  refine Calls.Name_function_global kk (show en.scope.names.lookup g = some .globalImplicit by rw [es]; exact lg) (Calls.loadGlobal_global (mg := mg) (by rw [eg]; exact ng) hL ?_) dg
  exact PyProof.Rows.ne_int ⟨rfl, keeps_refl _⟩
theorem any_trI (l : List Int) (pb : Int → Bool) : (List.range l.length).any (trI pb l) = l.any pb := by
  rw [Bool.eq_iff_iff, List.any_eq_true, List.any_eq_true]
  constructor
  · rintro ⟨j, hj, h⟩
    have hj' := List.mem_range.mp hj
    rw [trI_some (List.getElem?_eq_getElem hj')] at h
    exact ⟨_, List.getElem_mem hj', h⟩
  · rintro ⟨b, hb, h⟩
    obtain ⟨j, hj, e⟩ := List.mem_iff_getElem.mp hb
    exact ⟨j, List.mem_range.mpr hj, by rw [trI_some (List.getElem?_eq_getElem hj), e]; exact h⟩
def tAnyI (K : PySem.W.Frag) (P : Addr) (pb : Int → Bool) (te : TE) : TE := fun σ H Q => te σ H fun v H1 => ∃ (yl : Addr) (a : List Int), v = .ref yl ∧ SqL K H1 yl (a.map V.int) ∧ TabG H1 P ∧ ∀ H2, Tabbed P H1 H2 → Q (.bl (a.any pb)) H2
theorem pe_anyI {c P : Addr} {elt src : Expr} {x : Str} {px p pos gp : Pos} {sco : Scope} {pb : Int → Bool} {te : TE} {k : Nat}
    (hr : Room k X.A) (hg : Gl X "any") (hm : X.mg "any" = none) (hb : bootBuiltins "any" = some (.builtin "any")) (TB : TabB X.base X.mg c P) (hco : X.env.code = .ref c) (S : GenS X.env sco x) (hi : PE X src te) (hel : EltI X.prog X.w X.mg sco x elt pb)
    (hs : ∀ v, genFold src X.env v = pure v)
    (he : starEach [.GeneratorExp elt [⟨.Name x px, src, [], 0⟩] sco gp] X.env = (false, eval (.GeneratorExp elt [⟨.Name x px, src, [], 0⟩] sco gp) X.env) :: starEach [] X.env := by rfl) :
    PE X (.Call (.Name "any" p) [.GeneratorExp elt [⟨.Name x px, src, [], 0⟩] sco gp] [] pos) (tAnyI X.K P pb te) := by
  refine ⟨fun pins z σ H Q I h => ?_⟩
  refine wpAny_Call_Name_kw (ld_blt I hg hm hb (PyProof.Rows.callWith_builtin1 ?_ he (by rfl)))
  rw [he]
  show wpAny _ _ (spliced ((false, eval (.GeneratorExp elt [⟨.Name x px, src, [], 0⟩] sco gp) X.env) :: backTo pos (starEach [] X.env))) _ _ z
  refine Calls.spliced_cons (gen_ints (R := fun a H1 => ∀ H2, Tabbed P H1 H2 → Q (.bl (a.any pb)) H2) hr TB hco S hi hel hs I h fun a H1 g z5 hR hG => ?_)
  obtain ⟨fp, wr, G, F, St, W, st0, tru, fin⟩ := hG
  refine Calls.spliced_nil (call_any_walkS (W.self 0 _ _ _ st0 ⟨g, fp, wr, G, _, F, St, _, rfl, W, st0, tru, fun z' mv => ?_⟩))
  obtain ⟨H2, tb, J⟩ := fin z' mv
  refine ⟨.bl _, H2, J, rfl, ?_⟩
  rw [any_trI a pb]
  exact hR H2 tb
end

theorem FunC.okX {P : Program} {w : World} {K : PySem.W.Frag} {mg : Str → Option Value} {base : Heap} {x qual : Str} {st : Stmt} {f c : Addr} {fd : FuncData} {N ps : List Str} {k : Nat} {sp : Sp} (F : FunC K x qual st f fd c) (S : FnScope N ps (defScope st)) (len : ∀ vs H Q E, sp vs H Q E → vs.length = ps.length)
    (body : ∀ (A : Around) (outer : List Env) (s : Shared) (H : Hp) (vs : List V) (Q : VK) (E : XK), Room k (A.deeper (envOfC qual (defScope st) s.heap.objs.size f (.ref c))) → sp vs H Q E →
      ∃ t, PSs (cxOf (L2.CX P w) P w K mg base N qual (defScope st) f (.ref c) A outer s H E) (defBody st) t ∧ t { nx := fun _ H' => Q .non H', rt := Q } (start N vs) H) : FnOk P w K mg base (L2.CX P w) (k + 1) f fd ps sp := by
  obtain ⟨oc, od, kV, doc, pm, an, ct, osl, rfl, lk, cd⟩ := F.ex
  exact fn_of lk cd S len fun A outer s H vs Q E hr hs => body A outer s H vs Q E hr hs

/-! ### sorted of data: a list of tuples of one shape -/
def sortD (ds : List PyData) : List PyData := ds.mergeSort (PySem.W.dataLe false id)
theorem each_of {K : PySem.W.Frag} {H : Hp} : ∀ {xs : List V} {us : List Value} {ds : List PyData}, Vals xs us → DpAll K H xs ds → PySem.W.EachIs (fun v d => ∃ x, RelV x v ∧ Dp K H x d) us ds
  | [], _, _, r, h => by
    cases r
    cases h
    exact .nil
  | x :: xs, _, _, r, h => by
    cases r with
    | cons r1 r2 =>
      cases h with
      | cons h1 h2 => exact .cons ⟨x, r1, h1⟩ (each_of r2 h2)
theorem each_back {K : PySem.W.Frag} {H : Hp} : ∀ {us : List Value} {ds : List PyData}, PySem.W.EachIs (fun v d => ∃ x, RelV x v ∧ Dp K H x d) us ds → ∃ ys, Vals ys us ∧ DpAll K H ys ds
  | _, _, .nil => ⟨[], .nil, .nil⟩
  | _, _, .cons ⟨x, r, h⟩ t => by
    obtain ⟨ys, a, b⟩ := each_back t
    exact ⟨x :: ys, .cons r a, .cons h b⟩
def rSortedD (K : PySem.W.Frag) : List V → Hp → VK → Prop := fun vs H Q => ∃ (a : Addr) (xs : List V) (ds : List PyData), vs = [V.ref a] ∧ SqL K H a xs ∧ DpAll K H xs ds ∧ PySem.W.AllAlike ds ∧ PySem.W.Sortable ds ∧ (∀ d ∈ ds, d.depth ≤ 60) ∧
  ∀ ys p, DpAll K H ys (sortD ds) → H p = none → Q (.ref p) (upd H p (.lst ys))
section
variable {X : Cx}
theorem cr_sortedD (hu : X.A.units + 65 < cLine) : CallR X (.builtin "sorted") (rSortedD X.K) := by
  intro pins s σ H vs us Q I r h
  obtain ⟨a, xs, ds, rfl, hs, hd, hal, hsb, hdp, q⟩ := h
  obtain ⟨its, rv, hl, hz⟩ := I.list hs
  obtain ⟨u, rfl, ru⟩ := vals1 r
  obtain rfl : u = Value.ref a := ru
  have e := each_of rv hd
  have er : PySem.W.EachIs (fun v d => ∃ as, Reads s.heap v (id d) as) its ds := e.mono fun v d ⟨x, r, h⟩ => Dp.reads I d x v h r
  have hlen : ds.length ≤ sizeLine := by rw [← DpAll.len hd]; exact hz
  refine PySem.W.sorted_data (enc := id) (bs := ds) hl.isList e er (by rw [List.map_id]; exact hal) (by rw [List.map_id]; exact hsb) hlen (fun d m => ?_) fun out ho eo => ?_
  · have z := hdp d m
    show X.A.units + 2 + d.depth < cLine
    omega
  · obtain ⟨ys, v1, v2⟩ := each_back eo
    obtain ⟨n, hn⟩ := sortedAll_at s.heap its out.toArray
    refine ⟨.ref (s.heap.objs.size + 1), upd H (s.heap.objs.size + 1) (.lst ys), I.laid (t' := s.toks) (fun b o e => sortedAll_old e) (Nat.le_succ _) ⟨?_, out, n, v1, hn⟩, rfl, q ys _ v2 (I.hok.fresh (Nat.le_succ _))⟩
    rw [v1.length, ho]
    exact hlen
end
theorem hu65 {A : Around} {k : Nat} (hr : Room k A) : A.units + 65 < cLine := by
  have z := hr.un
  omega
theorem op_notInDK {X : Cx} (K : PySem.W.Frag) (h : X.K = K) (hu : X.A.units + 65 < cLine) : OpR X (compareOp .NotIn) (rNotInD K) := h ▸ op_notInD hu

/-! ### d.items() of a locked dict whose keys are tuples -/
theorem raw_pairs {X : Cx} {pins : List (Addr × Obj)} {σ : L2.St} {H : Hp} {s : Shared} {d : Addr} {o : Obj} {kvs : List (List Key × V)} (I : Inv X pins σ H s) (h : H d = some (.frz o (.dT kvs))) :
    (d == sysModules) = false ∧ ∃ (es : Array DictEntry) (ep : Nat), o.data = .dict es ep ∧ s.heap.DictRaw d es ep ∧ es.size = kvs.length ∧
      ∀ (i : Nat) (hi : i < es.size) (k : List Key) (v : V), kvs[i]? = some (k, v) → ∃ q : Addr, es[i].key = .ref q ∧ H q = some (.tup (k.map kV)) ∧ RelV v es[i].val := by
  obtain ⟨g0, _, g1, xs, pr, o1, es, ep, g2, g3, g4, g5, _⟩ := I.hok d _ h
  have eo : o = o1 := Option.some.inj (g0.symm.trans g2)
  subst eo
  have hn : es.size = xs.length := by
    have z := congrArg List.length g5
    rw [List.length_map, Array.length_toList] at z
    exact z
  refine ⟨g1, es, ep, g4, ⟨o, g2, g3, g4⟩, by rw [hn]; exact (Paired.length pr).symm, fun i hi k v hk => ?_⟩
  obtain ⟨b, hb, b1, b2, b3⟩ := L2.paired_get pr hk
  have hl : es.toList[i]? = some (entryOfKey (tupleKind (mixKind X.prog X.w)) b) := by
    rw [g5, List.getElem?_map, hb]
    rfl
  have hv : es[i] = entryOfKey (tupleKind (mixKind X.prog X.w)) b := by
    rw [Array.getElem?_toList, Array.getElem?_eq_getElem hi] at hl
    exact Option.some.inj hl
  rw [hv]
  exact ⟨b.2.1, rfl, b2, b3⟩
def Itit (d : Addr) (o : Obj) (kvs : List (List Key × V)) : It where
  go := fun i H => H d = some (.frz o (.dT kvs)) ∧ i < kvs.length
  yld := fun i H x H' => ∃ (T q : Addr) (k : List Key) (v : V), kvs[i]? = some (k, v) ∧ x = .ref T ∧ H T = none ∧ H q = some (.tup (k.map kV)) ∧ H' = upd H T (.tup [.ref q, v])
  stop := fun i H => H d = some (.frz o (.dT kvs)) ∧ kvs.length ≤ i
/-- where the iterator stands: behind i of n entries -/
def ItAt (d it : Addr) (n ep i : Nat) (h : Heap) : Prop := ∃ ok ov, IsItemIter h it d i n ep ok ov
theorem turn_pairs {P : Program} {w : World} {K : PySem.W.Frag} {d : Addr} {o : Obj} {es : Array DictEntry} {ep : Nat} {kvs : List (List Key × V)} {elts : List Expr} {c : Nat} {pos : Pos} (it : Addr) (hod : o.data = .dict es ep) :
    Turn P w K (.Tuple elts c pos) (Itit d o kvs) [it] it (ItAt d it kvs.length ep) := by
  have one : ∀ b : Addr, b ∈ [it] → b = it := fun b hb => List.mem_singleton.mp hb
  refine ⟨List.mem_singleton.mpr rfl, fun i h st b hb => ?_, fun i h h' st k => ?_, ?_, ?_, fun A i s Q E st h => ?_⟩
  · obtain ⟨ok, ov, e⟩ := st
    rw [one b hb]
    exact ⟨_, e, fun v z => by cases z⟩
  · obtain ⟨ok, ov, e⟩ := st
    exact ⟨ok, ov, k it (List.mem_singleton.mpr rfl) _ e⟩
  · intro X hP hw hK hc i pins s σ H E I hf st hg
    subst hP hw hK
    obtain ⟨hd, hi⟩ := hg
    obtain ⟨hs, es2, ep2, hd2, hraw, hsz, hat⟩ := raw_pairs I hd
    rw [hod] at hd2
    cases hd2
    obtain ⟨k, v, hkv⟩ : ∃ k v, kvs[i]? = some (k, v) := ⟨_, _, List.getElem?_eq_getElem hi⟩
    have hie : i < es.size := by rw [hsz]; exact hi
    obtain ⟨q, key, hq, hv⟩ := hat i hie k v hkv
    obtain ⟨ok, ov, he⟩ := st
    rw [← hsz] at he
    have hlt := Heap.lt_size he
    refine wpAny_pyNext_items_item_raw he hraw hie fun h1 out tup sz kept => ⟨_, rfl, ?_⟩
    refine wpAny_letOwnedTupleGo_items (s := { s with heap := h1 }) out fun h2 at2 sb => ?_
    have tup2 := (sb.2 _ (Nat.ne_of_gt hlt)).trans tup
    have okn : ObjOk X.prog X.w (upd H s.heap.objs.size (.tup [.ref q, v])) h2 s.heap.objs.size (.tup [.ref q, v]) :=
      ⟨szl (by show 2 ≤ 100000; decide), [es[i].key, es[i].val], .cons (by rw [key]; rfl) (.cons hv .nil), ⟨_, tup2, rfl, _, rfl⟩⟩
    have I2 := I.turnedNew (t' := s.toks) (ch := [it]) (fun b ob hb e => (sb.2 b fun z => hb (by rw [z]; exact List.mem_singleton.mpr rfl)).trans (kept b ob (fun z => hb (by rw [z]; exact List.mem_singleton.mpr rfl)) e)) hf (Nat.le_refl _) okn
    refine ⟨.ref s.heap.objs.size, _, I2, rfl, ⟨_, q, k, v, hkv, rfl, I.hok.fresh (Nat.le_refl _), hq, rfl⟩, ⟨_, _, by rw [← hsz]; exact at2⟩, fun b hb => ?_⟩
    rw [one b hb, upd_ne (Nat.ne_of_lt hlt)]
    exact (hf it (List.mem_singleton.mpr rfl)).1
  · intro X hP hw hK hc i pins s σ H E I hf st hg
    subst hP hw hK
    obtain ⟨hd, hi⟩ := hg
    obtain ⟨hs, es2, ep2, hd2, hraw, hsz, hat⟩ := raw_pairs I hd
    rw [hod] at hd2
    cases hd2
    obtain ⟨f0, f1, f2, f3, f4, f5⟩ := hf it (List.mem_singleton.mpr rfl)
    obtain ⟨ok, ov, he⟩ := st
    rw [← hsz] at he
    exact wpAny_pyNext_items_end_raw (I.ok.hd hc) he hraw (by rw [hsz]; exact hi) fun h1 eb => ⟨rfl, I.turned (t' := s.toks) (fun b ob hb e => eb b ob hb e) f0 f1 f3 f4 f5⟩
  · obtain ⟨_, _, e⟩ := st
    exact wpAny_pyIter_itemiter e h
def iPairs (td : TE) : TI := fun σ H R => td σ H fun x H1 => ∃ (d : Addr) (o : Obj) (kvs : List (List Key × V)), x = .ref d ∧ H1 d = some (.frz o (.dT kvs)) ∧ R (Itit d o kvs) H1
theorem pi_pairs {X : Cx} {e : Expr} {td : TE} {apos cpos : Pos} {elts : List Expr} {c : Nat} {pos : Pos} (he : PE X e td) (hbase : attributeBase e "items" X.env (eval e X.env) = eval e X.env := by rfl) (hl : (apos.endLine == cpos.line) = true := by rfl) :
    PI X (.Tuple elts c pos) (.Call (.Attribute e "items" apos) [] [] cpos) (iPairs td) := by
  refine ⟨fun pins s σ H R I h => wpAny_Call_method (T := "dict") (id := "dict.items") hbase rfl hl F.plainAttrs_dict F.slot_dict_items F.type_dict_items (thn (he.run pins s σ H _ I h) fun u s1 z => ?_)⟩
  obtain ⟨x, H1, I1, rx, d, o, kvs, rfl, hd, q⟩ := z
  obtain rfl : u = Value.ref d := rx
  obtain ⟨hs, es, ep, hod, hraw, hsz, _⟩ := raw_pairs I1 hd
  have hraw0 := hraw
  obtain ⟨ob, b1, b2, b3⟩ := hraw0
  have I2 : Inv X pins σ H1 { s1 with heap := s1.heap.push { cls := .type "dict_items", data := .fields #[.ref d] } } := I1.kept (t' := s1.toks) fun _ _ g => Heap.get?_push_of_some _ g
  have fin : wpAny (model X.prog X.w) X.A (pyIter (.ref s1.heap.objs.size)) (PIE X pins σ (.Tuple elts c pos) R) X.xe { s1 with heap := s1.heap.push { cls := .type "dict_items", data := .fields #[.ref d] } } := by
    refine wpAny_pyIter_items_raw (d := d) (es := es) (ep := ep) ⟨_, Heap.get?_push_size _ rfl, rfl, rfl⟩ (hraw.at fun _ g => Heap.get?_push_of_some _ g) (pi_one (tk := s1.toks) I2 _ (turn_pairs _ hod) ⟨.none, .none, ?_⟩ q)
    rw [← hsz]
    exact Heap.get?_push_size _ rfl
  refine ⟨hraw.typeIs, ?_, ?_⟩
  · intro a2 e2
    cases e2
    exact ⟨ob, b1, b2.2.1⟩
  · show wpAny _ _ (callWith cpos (.builtin "dict.items") [.ref d] [] []) _ X.xe s1
    exact method_meetsIn F.slot_dict_items F.entry_dict_items rfl (PySem.evalArgs_none ⟨rfl, hraw.typeIs, F.args_dict_items_1 _, _, meets_dict_items_raw d hs, ⟨es, ep, hraw⟩, fin⟩)
theorem walk_pairs {d : Addr} {o : Obj} {kvs : List (List Key × V)} : Walk (Itit d o kvs) kvs.length (fun H => H d = some (.frz o (.dT kvs))) (fun i H x H' => ∃ (T q : Addr) (k : List Key) (v : V), kvs[i]? = some (k, v) ∧ x = .ref T ∧ H T = none ∧ H q = some (.tup (k.map kV)) ∧ H' = upd H T (.tup [.ref q, v])) := by
  constructor
  · exact fun i H hi g => And.intro g hi
  · exact fun H g => And.intro g (Nat.le_refl _)
  · exact fun i H x H' hi g y => y

/-! ### del d[k] of a dict whose keys are tuples -/
theorem KT.drop {H : Hp} {kvs : List (List Key × V)} {xs : List (List Key × Addr × Value)} (r : KT H kvs xs) (k : List Key) : KT H (dropK kvs k) (withoutH xs k) := by
  unfold dropK withoutH
  induction r with
  | nil => exact .nil
  | @cons p q ps qs h t ih =>
    obtain ⟨h1, h2, h3⟩ := h
    by_cases e : p.1 = k
    · have e' : q.1 = k := h1.symm.trans e
      rw [List.filter_cons_of_neg (by simp [e]), List.filter_cons_of_neg (by simp [e'])]
      exact ih
    · have e' : ¬ q.1 = k := fun z => e (h1.trans z)
      rw [List.filter_cons_of_pos (by simp [e]), List.filter_cons_of_pos (by simp [e'])]
      exact .cons ⟨h1, h2, h3⟩ ih
section
variable {X : Cx} {pins : List (Addr × Obj)} {σ : L2.St} {H : Hp} {s : Shared} {a b : Addr} {kvs : List (List Key × V)} {k : List Key} {A : Around} {E : Value → Shared → Prop}
theorem d_delItemT {Q : Unit → Shared → Prop} (hu : A.units + 1 < cLine) (I : Inv X pins σ H s) (e : H a = some (.dT kvs)) (eb : H b = some (.tup (k.map kV))) (l : (valV kvs k).isSome = true) (h : ∀ s', Inv X pins σ (upd H a (.dT (dropK kvs k))) s' → Q () s') :
    wpAny (model X.prog X.w) A (delItem (.ref a) (.ref b)) Q E s := by
  obtain ⟨z, hd, xs, rel, dd⟩ := dt_of I.hok e
  have hz : xs.length ≤ sizeLine := by rw [← Paired.length rel]; exact z
  have hl : (dropK kvs k).length ≤ sizeLine := Nat.le_trans (dropK_le kvs k) z
  obtain ⟨p, hp⟩ : ∃ p, atKey xs k = some p := by
    have q := (rel.val k).isSome_eq
    rw [l, Option.isSome_map] at q
    exact Option.isSome_iff_exists.mp q.symm
  refine wpAny_delItem_heap (hsz := hz) (tupleKind_room_in1 hu) (key_of I.hok eb) hd dd hp fun h' dd' hs => h _ ?_
  obtain ⟨q, es, ep, hq, h2, h3, h4, _, h5⟩ := dd'
  refine d_write I (by rw [e]; exact True.intro) hs ⟨q, hq⟩ ⟨hl, hd, _, L2.KT.keeps (KT.drop rel k) fun c ys ec => ?_, q, es, ep, hq, h2, h3, h4, h5⟩
  rw [upd_ne (ne_of ec e (fun z => nomatch z))]
  exact ec
end
section
variable {X : Cx} {o i : Expr} {td ty : TE} {tpos pos : Pos}
def sDDelT (td ty : TE) : TS := fun D σ H => td σ H fun x H1 => ty σ H1 fun y H2 => ∃ (a b : Addr) (kvs : List (List Key × V)) (k : List Key), x = .ref a ∧ y = .ref b ∧ H2 a = some (.dT kvs) ∧ H2 b = some (.tup (k.map kV)) ∧ (valV kvs k).isSome = true ∧ D.nx σ (upd H2 a (.dT (dropK kvs k)))
theorem ps_ddelT (hu : X.A.units + 1 < cLine) (ho : PE X o td) (hi : PE X i ty) : PS X (.Delete [.Subscript o i tpos] pos) (sDDelT td ty) := by
  refine ⟨fun pins s σ H D I h => ?_⟩
  refine wpAny_Delete (wpAny_deleteEach_cons (wpAny_delete_Subscript (thn (ho.run pins s σ H _ I h) fun u s1 ⟨x, H1, I1, rx, q1⟩ => thn (hi.run pins s1 σ H1 _ I1 q1) fun iv s2 ⟨y, H2, I2, ry, a, b, kvs, k, ex, ey, e, eb, l, q2⟩ => ?_)))
  subst ex ey
  obtain rfl : u = Value.ref a := rx
  obtain rfl : iv = Value.ref b := ry
  exact d_delItemT hu I2 e eb l fun s3 I3 => wpAny_deleteEach_nil ⟨σ, _, I3, q2⟩
end

/-! ### str of an int or a text -/
def rStrA : List V → Hp → VK → Prop := fun xs H Q => (∃ i : Int, xs = [.int i] ∧ i.natAbs.log2 < 1920 ∧ Q (.str (toString i)) H) ∨ ∃ a, xs = [.str a] ∧ Q (.str a) H
theorem call_strA {X : Cx} : CallR X (.type "str") rStrA := by
  intro pins s σ H xs us Q I rs h
  rcases h with h | h
  · exact call_str_int pins s σ H xs us Q I rs h
  · exact SkE.call_str_str pins s σ H xs us Q I rs h

/-! ### d.update(e) of dicts with texts and ints as keys -/
def mergeV (kd ko : List (L2.Key × V)) : List (L2.Key × V) := ko.foldl (fun acc kv => putK acc kv.1 kv.2) kd
theorem KV.merge {kd : List (L2.Key × V)} {vd : List (L2.Key × Value)} (r : KV kd vd) : ∀ {ko : List (L2.Key × V)} {vo : List (L2.Key × Value)}, KV ko vo → KV (mergeV kd ko) (merged vd vo) := by
  intro ko vo h
  induction h generalizing kd vd with
  | nil => exact r
  | cons h _ ih =>
    rename_i p q _ _ _
    obtain ⟨e, rv⟩ := h
    have := r.put p.1 rv
    rw [show stored vd p.1 q.2 = stored vd q.1 q.2 by rw [e]] at this
    exact ih this
theorem merge_len (ko : List (L2.Key × V)) : ∀ kd : List (L2.Key × V), (mergeV kd ko).length ≤ kd.length + ko.length := by
  induction ko with
  | nil => intro kd; exact Nat.le_refl _
  | cons p r ih =>
    intro kd
    have h1 := ih (putK kd p.1 p.2)
    have h2 := length_putK kd p.1 p.2
    show (mergeV (putK kd p.1 p.2) r).length ≤ _
    simp only [List.length_cons]
    omega
def rUpdate : V → List V → Hp → VK → Prop := fun x xs H Q => ∃ (d o : Addr) (kd ko : List (L2.Key × V)), x = .ref d ∧ xs = [.ref o] ∧ H d = some (.dK kd) ∧ H o = some (.dK ko) ∧ d ≠ o ∧ kd.length + ko.length ≤ sizeLine ∧ Q .non (upd H d (.dK (mergeV kd ko)))
theorem mt_update {X : Cx} : MtR X "dict.update" rUpdate := by
  intro pins s σ H x xs v us Q I rx rxs h
  obtain ⟨d, o, kd, ko, rfl, rfl, hd, ho, ne, z, q⟩ := h
  cases rx
  obtain ⟨u1, rfl, r1⟩ := vals1 rxs
  cases r1
  obtain ⟨zd, ld, vd, rd, dd⟩ := I.hok d _ hd
  obtain ⟨zo, lo, vo, ro, dO⟩ := I.hok o _ ho
  have e1 : kd.length = vd.length := Paired.length rd
  have e2 : ko.length = vo.length := Paired.length ro
  refine call_meetsIn PySem.F.slot_dict_update dd.typeIs PySem.F.entry_dict_update (PySem.F.args_dict_update_2 _ _) (meets_dict_update (mixKind X.prog X.w) d o ne lo)
    ⟨vd, vo, dd, dO, (by rw [← e1, ← e2]; exact z), fun h' hm _ hs => ?_⟩
  obtain ⟨ob, es, ep, hq, hx⟩ := hm
  have I2 : Inv X pins σ (upd H d (.dK (mergeV kd ko))) { s with heap := h' } :=
    d_write I (by rw [hd]; exact True.intro) hs ⟨ob, hq⟩ ⟨Nat.le_trans (merge_len ko kd) z, ld, _, KV.merge rd ro, ob, es, ep, hq, hx⟩
  exact ⟨.non, _, I2, rfl, q⟩

/-! ### min(list of ints, default=..) -/
theorem foldl_min : ∀ (ns : List Int) (n : Int), (ns.foldl min n = n ∨ ns.foldl min n ∈ ns) ∧ ns.foldl min n ≤ n ∧ ∀ y ∈ ns, ns.foldl min n ≤ y
  | [], n => ⟨.inl rfl, Int.le_refl _, by simp⟩
  | k :: r, n => by
    obtain ⟨h1, h2, h3⟩ := foldl_min r (min n k)
    rw [List.foldl_cons]
    refine ⟨?_, by omega, fun y hy => ?_⟩
    · rcases h1 with h1 | h1
      · by_cases c : n ≤ k
        · exact .inl (h1.trans (by omega))
        · exact .inr (by rw [h1, show min n k = k by omega]; exact List.mem_cons_self)
      · exact .inr (List.mem_cons_of_mem _ h1)
    · rcases List.mem_cons.mp hy with rfl | hy
      · omega
      · exact h3 y hy
def rMinDf (K : PySem.W.Frag) : List V → List V → Hp → VK → Prop := fun vs zs H Q => ∃ (a : Addr) (ns : List Int) (d : V), vs = [V.ref a] ∧ zs = [d] ∧ SqL K H a (ns.map V.int) ∧ (ns = [] → Q d H) ∧ ∀ m, m ∈ ns → (∀ y, y ∈ ns → m ≤ y) → Q (.int m) H
section
variable {X : Cx}
theorem alike_ints (ns : List Int) : PySem.W.AlikeAll (ns.map PyData.int) := by
  refine ⟨fun x hx y hy => ?_, fun x hx => ?_⟩
  · obtain ⟨a, _, rfl⟩ := List.mem_map.mp hx
    obtain ⟨b, _, rfl⟩ := List.mem_map.mp hy
    rfl
  · obtain ⟨a, _, rfl⟩ := List.mem_map.mp hx
    intro z
    cases z
theorem dep_intsM : ∀ ns : List Int, PyData.depthAll (ns.map PyData.int) ≤ 1
  | [] => by simp [PyData.depthAll]
  | n :: r => by
    have h := dep_intsM r
    simp only [List.map_cons, PyData.depthAll, PyData.depth]
    omega
theorem cr_minDf (hc : X.calm = true) (hu : X.A.units + 64 < cLine) : CallRK X (.builtin "min") ["default"] (rMinDf X.K) := by
  intro pins s σ H xs zs us ws Q I r1 r2 h
  obtain ⟨a, ns, d, rfl, rfl, hs, h0, h1⟩ := h
  obtain ⟨its, rv, hl, _⟩ := I.list hs
  rw [Vals.ref1 r1]
  obtain ⟨u, rfl, ru⟩ := vals1 r2
  show wpAny _ _ (call (.builtin "min") [.ref a] [(Str.ofString "default", u)]) _ _ _
  refine PySem.W.min_list_default (I.ok.hd hc) hl.isList (IntsAre.reads _ rv.ints) (alike_ints ns) (by have := dep_intsM ns; omega) (fun e h' tk hk => ⟨d, H, I.kept hk, ru, h0 (List.map_eq_nil_iff.mp e)⟩) fun y ys i v h' tk bs e hv hr hk => ?_
  cases ns with
  | nil => cases e
  | cons n r =>
    rw [List.map_cons] at e
    obtain ⟨rfl, rfl⟩ := List.cons.inj e
    rw [PySem.W.minD_ints] at hr
    cases hr
    obtain ⟨g1, g2, g3⟩ := foldl_min r n
    refine ⟨.int _, H, I.kept hk, ⟨_, rfl⟩, h1 _ ?_ fun y hy => ?_⟩
    · rcases g1 with g1 | g1
      · rw [g1]
        exact List.mem_cons_self
      · exact List.mem_cons_of_mem _ g1
    · rcases List.mem_cons.mp hy with rfl | hy
      · exact g2
      · exact g3 y hy
end

/-! ### list(zip(a, b)) of two lists: the list keeps every pair that it is given -/
section
variable {prog : Program} {w : World} {A : Around} {E : Value → Shared → Prop} {s : Shared} {z TI TO i1 i2 a b S lo : Addr} {xs ys : Array Value}
theorem zl_len : typeLookup (.type "zip") "__len__" = pure none := PySem.am_miss_of_fast (by decide +kernel)
theorem zl_hint : typeLookup (.type "zip") "__length_hint__" = pure none := PySem.am_miss_of_fast (by decide +kernel)
/-- a zip on its way, while the list S is being filled -/
structure ZOn (z TI TO i1 i2 a b S : Addr) (xs ys : Array Value) (i : Nat) (h : Heap) : Prop where
  ti : IsPair h TI (.ref i1) (.ref i2)
  n1 : h.IsListIter i1 a i
  n2 : h.IsListIter i2 b i
  la : h.IsList a xs
  lb : h.IsList b ys
  zz : (IsZip h z TI TO .none ∧ ∃ u v, IsPair h TO u v) ∨ ∃ T f oT, IsZipHeld h z TI TO T f ∧ h.get? T = some oT ∧ T ≠ z ∧ T ≠ i1 ∧ T ≠ i2 ∧ T ≠ S
/-- S is none of the objects of the zip -/
structure ZOff (z TI TO i1 i2 a b S : Addr) : Prop where
  z : z ≠ S
  ti : TI ≠ S
  to : TO ≠ S
  n1 : i1 ≠ S
  n2 : i2 ≠ S
  la : a ≠ S
  lb : b ≠ S
theorem ZOn.keep {i : Nat} {h h' : Heap} (st : ZOn z TI TO i1 i2 a b S xs ys i h) (f : ZOff z TI TO i1 i2 a b S) (k : ∀ c o, c ≠ S → h.get? c = some o → h'.get? c = some o) : ZOn z TI TO i1 i2 a b S xs ys i h' := by
  refine ⟨k _ _ f.ti st.ti, st.n1.at fun o e => k _ o f.n1 e, st.n2.at fun o e => k _ o f.n2 e, st.la.at fun o e => k _ o f.la e, st.lb.at fun o e => k _ o f.lb e, ?_⟩
  rcases st.zz with ⟨hz, u, v, ho⟩ | ⟨T, g, oT, hz, hT, r1, r2, r3, r4⟩
  · exact .inl ⟨k _ _ f.z hz, u, v, k _ _ f.to ho⟩
  · exact .inr ⟨T, g, oT, k _ _ f.z hz, k _ _ r4 hT, r1, r2, r3, r4⟩
theorem ZOn.item {i : Nat} {x y : Value} {Q : Option Value → Shared → Prop} (D : ZipApart z TI TO i1 i2 a b) (st : ZOn z TI TO i1 i2 a b S xs ys i s.heap) (hx : xs[i]? = some x) (hy : ys[i]? = some y) (hS : S < s.heap.objs.size)
    (q : ∀ h', ZOn z TI TO i1 i2 a b S xs ys (i + 1) h' → IsPair h' s.heap.objs.size x y → (∀ c o, c ≠ z → c ≠ TO → c ≠ i1 → c ≠ i2 → s.heap.get? c = some o → h'.get? c = some o) → Q (some (.ref s.heap.objs.size)) { s with heap := h' }) :
    wpAny (model prog w) A (pyNext (.ref z)) Q E s := by
  have new : ∀ {c : Addr} {o : Obj}, s.heap.get? c = some o → s.heap.objs.size ≠ c := fun e => Nat.ne_of_gt (Heap.lt_size e)
  have m1 : s.heap.objs.size ≠ i1 := by
    obtain ⟨_, e, _⟩ := st.n1
    exact new e
  have m2 : s.heap.objs.size ≠ i2 := by
    obtain ⟨_, e, _⟩ := st.n2
    exact new e
  rcases st.zz with ⟨hz, u, v, ho⟩ | ⟨T, g, oT, hz, hT, r1, r2, r3, r4⟩
  · refine wpAny_pyNext_zip_item D hz st.ti ho st.n1 st.n2 st.la st.lb hx hy fun h' g1 g2 g3 g4 g5 g6 k => q h' ⟨k _ _ D.TIz D.TITO D.TIi1 D.TIi2 st.ti, g3, g4, ?_, ?_, ?_⟩ g5 k
    · exact st.la.at fun o e => k _ o D.l1z D.l1TO D.l1i1 D.l1i2 e
    · exact st.lb.at fun o e => k _ o D.l2z D.l2TO D.l2i1 D.l2i2 e
    · exact .inr ⟨_, false, _, g1, g5, new hz, m1, m2, Nat.ne_of_gt hS⟩
  · refine wpAny_pyNext_zip_item_held D hz hT st.ti st.n1 st.n2 st.la st.lb hx hy fun h' g1 g3 g4 g5 g6 k => q h' ⟨k _ _ D.TIz D.TIi1 D.TIi2 st.ti, g3, g4, ?_, ?_, ?_⟩ g5 fun c o c1 _ c3 c4 e => k c o c1 c3 c4 e
    · exact st.la.at fun o e => k _ o D.l1z D.l1i1 D.l1i2 e
    · exact st.lb.at fun o e => k _ o D.l2z D.l2i1 D.l2i2 e
    · exact .inr ⟨T, true, oT, g1, k _ _ r1 r2 r3 hT, r1, r2, r3, r4⟩
theorem ZOn.stop {i : Nat} {Q : Option Value → Shared → Prop} (hh : A.handled = none) (D : ZipApart z TI TO i1 i2 a b) (st : ZOn z TI TO i1 i2 a b S xs ys i s.heap) (he : xs[i]? = none ∨ ys[i]? = none)
    (q : ∀ h', (∀ c o, c ≠ z → c ≠ TO → c ≠ i1 → c ≠ i2 → s.heap.get? c = some o → h'.get? c = some o) → Q none { s with heap := h' }) : wpAny (model prog w) A (pyNext (.ref z)) Q E s := by
  rcases st.zz with ⟨hz, u, v, ho⟩ | ⟨T, g, oT, hz, hT, r1, r2, r3, r4⟩
  · exact wpAny_pyNext_zip_end hh D hz st.ti ho st.n1 st.n2 st.la st.lb he q
  · exact wpAny_pyNext_zip_end_held hh D hz hT st.ti st.n1 st.n2 st.la st.lb he fun h' k => q h' fun c o c1 _ c3 c4 e => k c o c1 c3 c4 e
/-- the pairs told so far -/
structure ZGot (xs ys : Array Value) (lo : Addr) (h : Heap) (ts : List Addr) : Prop where
  rise : ts.Pairwise (· < ·)
  above : ∀ t ∈ ts, lo ≤ t
  pairs : ∀ (j : Nat) (t : Addr), ts[j]? = some t → ∃ x y, xs[j]? = some x ∧ ys[j]? = some y ∧ IsPair h t x y
theorem ZGot.there {h : Heap} {ts : List Addr} (g : ZGot xs ys lo h ts) {t : Addr} (m : t ∈ ts) : t < h.objs.size := by
  obtain ⟨j, e⟩ := List.mem_iff_getElem?.mp m
  obtain ⟨_, _, _, _, p⟩ := g.pairs j t e
  exact Heap.lt_size p
theorem ZGot.move {h h' : Heap} {ts : List Addr} (g : ZGot xs ys lo h ts) (k : ∀ t o, lo ≤ t → h.get? t = some o → h'.get? t = some o) : ZGot xs ys lo h' ts :=
  ⟨g.rise, g.above, fun j t e => by
    obtain ⟨x, y, e1, e2, e3⟩ := g.pairs j t e
    exact ⟨x, y, e1, e2, k t _ (g.above t (List.mem_of_getElem? e)) e3⟩⟩
theorem ZGot.more {h : Heap} {ts : List Addr} {t : Addr} {x y : Value} (g : ZGot xs ys lo h ts) (hx : xs[ts.length]? = some x) (hy : ys[ts.length]? = some y) (p : IsPair h t x y) (hl : lo ≤ t) (hr : ∀ u ∈ ts, u < t) : ZGot xs ys lo h (ts ++ [t]) := by
  refine ⟨List.pairwise_append.mpr ⟨g.rise, List.pairwise_singleton _ _, fun u hu v hv => ?_⟩, fun u hu => ?_, fun j u e => ?_⟩
  · rw [List.mem_singleton.mp hv]
    exact hr u hu
  · rcases List.mem_append.mp hu with hu | hu
    · exact g.above u hu
    · rw [List.mem_singleton.mp hu]
      exact hl
  · by_cases c : j < ts.length
    · rw [List.getElem?_append_left c] at e
      exact g.pairs j u e
    · by_cases c2 : j = ts.length
      · subst c2
        obtain rfl : t = u := by simpa using e
        exact ⟨x, y, hx, hy, p⟩
      · rw [List.getElem?_eq_none (by rw [List.length_append, List.length_singleton]; omega)] at e
        cases e
structure ZLow (z TO i1 i2 S lo : Addr) : Prop where
  z : z < lo
  to : TO < lo
  n1 : i1 < lo
  n2 : i2 < lo
  s : S < lo
theorem zl_ne {x t lo : Addr} (h : x < lo) (k : lo ≤ t) : t ≠ x := Nat.ne_of_gt (Nat.lt_of_lt_of_le h k)
theorem zl_loop {R : Result → Shared → Prop} {h₁ : Heap} (hh : A.handled = none) (D : ZipApart z TI TO i1 i2 a b) (F : ZOff z TI TO i1 i2 a b S) (L : ZLow z TO i1 i2 S lo) (res : Value) (hn : min xs.size ys.size ≤ sizeLine)
    (q : ∀ h' tk acc c ts, (∀ d o, d ≠ S → d ≠ z → d ≠ TO → d ≠ i1 → d ≠ i2 → h₁.get? d = some o → h'.get? d = some o) → h'.get? S = some { cls := .type "list", dict := none, data := .seq acc c, slots := #[] } →
      ts.length = min xs.size ys.size → ZGot xs ys lo h' ts → acc.toList = ts.map Value.ref → R (.ok (.ret res)) { s with heap := h', toks := tk }) :
    ∀ (k i : Nat) (h : Heap) (tk c : Nat) (acc : Array Value) (ts : List Addr), min xs.size ys.size - i = k → i ≤ min xs.size ys.size → ZOn z TI TO i1 i2 a b S xs ys i h →
      (∀ d o, d ≠ S → d ≠ z → d ≠ TO → d ≠ i1 → d ≠ i2 → h₁.get? d = some o → h.get? d = some o) → h.get? S = some { cls := .type "list", dict := none, data := .seq acc c, slots := #[] } →
      acc.toList = ts.map Value.ref → ts.length = i → ZGot xs ys lo h ts → lo ≤ h.objs.size →
      codeAny (model prog w) A (.builtin "list.extend.loop" ⟨[.ref S, .ref z, res], []⟩) R { s with heap := h, toks := tk } := by
  intro k
  induction k with
  | zero =>
    intro i h tk c acc ts hk hi st kp hS ha hl g hlo
    refine codeAny_builtin PySem.F.entry_extend_loop (by
      rw [Around.under_plainId PySem.F.plain_extend_loop _]
      show wpAny _ A.in1 (pyNext (.ref z) >>= _) _ _ _
      refine wpAny_bind (ZOn.stop (s := { s with heap := h, toks := tk }) (A := A.in1) hh D st ?_ fun h' kz => ?_)
      · rcases Nat.le_total xs.size ys.size with c1 | c1
        · exact .inl (Array.getElem?_eq_none (by omega))
        · exact .inr (Array.getElem?_eq_none (by omega))
      · refine wpAny_pure (q h' tk acc c ts (fun d o d0 d1 d2 d3 d4 e => kz d o d1 d2 d3 d4 (kp d o d0 d1 d2 d3 d4 e)) (kz S _ (Ne.symm F.z) (Ne.symm F.to) (Ne.symm F.n1) (Ne.symm F.n2) hS) (by omega) (g.move fun t o ht e => ?_) ha)
        exact kz t o (zl_ne L.z ht) (zl_ne L.to ht) (zl_ne L.n1 ht) (zl_ne L.n2 ht) e)
  | succ k ih =>
    intro i h tk c acc ts hk hi st kp hS ha hl g hlo
    have hlt : i < min xs.size ys.size := by omega
    have hx : xs[i]? = some (xs[i]'(by omega)) := Array.getElem?_eq_getElem _
    have hy : ys[i]? = some (ys[i]'(by omega)) := Array.getElem?_eq_getElem _
    have hsz : acc.size = i := by rw [← Array.length_toList, ha, List.length_map, hl]
    refine codeAny_builtin PySem.F.entry_extend_loop (by
      rw [Around.under_plainId PySem.F.plain_extend_loop _]
      show wpAny _ A.in1 (pyNext (.ref z) >>= _) _ _ _
      refine wpAny_bind (ZOn.item (s := { s with heap := h, toks := tk }) (S := S) D st hx hy (Heap.lt_size hS) fun h' st' ht kz => ?_)
      dsimp only at ht kz ⊢
      have hS' := kz S _ (Ne.symm F.z) (Ne.symm F.to) (Ne.symm F.n1) (Ne.symm F.n2) hS
      have up : ∀ d o, d ≠ S → h'.get? d = some o → (h'.update S (Obj.mapSeq (·.push (Value.ref h.objs.size)))).get? d = some o := fun d o hd e => (Heap.get?_update_other _ _ (Ne.symm hd)).trans e
      have hSl : S < h.objs.size := Heap.lt_size hS
      have ht' : IsPair (h'.update S (Obj.mapSeq (·.push (Value.ref h.objs.size)))) h.objs.size _ _ := up _ _ (Nat.ne_of_gt hSl) ht
      have g' : ZGot xs ys lo (h'.update S (Obj.mapSeq (·.push (Value.ref h.objs.size)))) ts := g.move fun t o hl e => up t o (zl_ne L.s hl) (kz t o (zl_ne L.z hl) (zl_ne L.to hl) (zl_ne L.n1 hl) (zl_ne L.n2 hl) e)
      show wpAny _ A.in1 (updateSeq S (·.push (Value.ref h.objs.size)) >>= _) _ _ _
      refine wpAny_bind (wpAny_updateSeq hS' rfl (wpAny_pure ⟨plainId_quiet PySem.F.plain_extend_loop _, ih (i + 1) _ tk _ (acc.push (Value.ref h.objs.size)) (ts ++ [h.objs.size]) (by omega) hlt (st'.keep F up)
        (fun d o d0 d1 d2 d3 d4 e => up d o d0 (kz d o d1 d2 d3 d4 (kp d o d0 d1 d2 d3 d4 e))) (Heap.get?_update_self _ hS' rfl) (by rw [Array.toList_push, ha, List.map_append]; rfl) (by rw [List.length_append, hl]; rfl)
        (g'.more (by rw [hl]; exact hx) (by rw [hl]; exact hy) ht' hlo fun u hu => g.there hu) ?_⟩) (by rw [hsz]; omega) (by show (acc.push (Value.ref h.objs.size)).size ≤ sizeLine + 1; rw [Array.size_push, hsz]; omega))
      exact Nat.le_trans hlo (Nat.le_of_lt (Heap.lt_size ht')))
end
section
variable {prog : Program} {w : World} {A : Around} {E : Value → Shared → Prop} {s : Shared} {z TI TO i1 i2 a b S lo : Addr} {xs ys : Array Value}
/-- a zip that nothing has been taken of -/
structure ZNew (z TI TO i1 i2 a b : Addr) (xs ys : Array Value) (h : Heap) : Prop where
  ti : IsPair h TI (.ref i1) (.ref i2)
  n1 : h.IsListIter i1 a 0
  n2 : h.IsListIter i2 b 0
  la : h.IsList a xs
  lb : h.IsList b ys
  zz : IsZip h z TI TO .none
  to : ∃ u v, IsPair h TO u v
theorem ZNew.keep {h h' : Heap} (st : ZNew z TI TO i1 i2 a b xs ys h) (k : ∀ c o, c < h.objs.size → h.get? c = some o → h'.get? c = some o) : ZNew z TI TO i1 i2 a b xs ys h' := by
  have kk : ∀ c o, h.get? c = some o → h'.get? c = some o := fun c o e => k c o (Heap.lt_size e) e
  obtain ⟨u, v, ho⟩ := st.to
  exact ⟨kk _ _ st.ti, st.n1.at fun o e => kk _ o e, st.n2.at fun o e => kk _ o e, st.la.at fun o e => kk _ o e, st.lb.at fun o e => kk _ o e, kk _ _ st.zz, u, v, kk _ _ ho⟩
theorem ZNew.on {h : Heap} (st : ZNew z TI TO i1 i2 a b xs ys h) : ZOn z TI TO i1 i2 a b S xs ys 0 h := ⟨st.ti, st.n1, st.n2, st.la, st.lb, .inl ⟨st.zz, st.to⟩⟩
theorem ZNew.lt {h : Heap} (st : ZNew z TI TO i1 i2 a b xs ys h) (hS : h.objs.size ≤ S) : ZOff z TI TO i1 i2 a b S := by
  have lt : ∀ {c : Addr} {o : Obj}, h.get? c = some o → c ≠ S := fun e => Nat.ne_of_lt (Nat.lt_of_lt_of_le (Heap.lt_size e) hS)
  obtain ⟨u, v, ho⟩ := st.to
  obtain ⟨_, e1, _⟩ := st.n1
  obtain ⟨_, e2, _⟩ := st.n2
  obtain ⟨_, e3, _⟩ := st.la
  obtain ⟨_, e4, _⟩ := st.lb
  exact ⟨lt st.zz, lt st.ti, lt ho, lt e1, lt e2, lt e3, lt e4⟩
theorem ZNew.low {h : Heap} (st : ZNew z TI TO i1 i2 a b xs ys h) (hS : h.objs.size ≤ S) : ZLow z TO i1 i2 S (S + 1) := by
  have lt : ∀ {c : Addr} {o : Obj}, h.get? c = some o → c < S + 1 := fun e => Nat.lt_succ_of_lt (Nat.lt_of_lt_of_le (Heap.lt_size e) hS)
  obtain ⟨u, v, ho⟩ := st.to
  obtain ⟨_, e1, _⟩ := st.n1
  obtain ⟨_, e2, _⟩ := st.n2
  exact ⟨lt st.zz, lt ho, lt e1, lt e2, Nat.lt_succ_self _⟩
theorem zl_extend {R : Result → Shared → Prop} {c₀ : Nat} (hh : A.handled = none) (D : ZipApart z TI TO i1 i2 a b) (st : ZNew z TI TO i1 i2 a b xs ys s.heap) (F : ZOff z TI TO i1 i2 a b S) (L : ZLow z TO i1 i2 S lo) (hlo : lo ≤ s.heap.objs.size) (res : Value)
    (hS : s.heap.get? S = some { cls := .type "list", data := .seq #[] c₀ }) (hn : min xs.size ys.size ≤ sizeLine)
    (q : ∀ h' tk acc c ts, (∀ d o, d ≠ S → d ≠ z → d ≠ TO → d ≠ i1 → d ≠ i2 → s.heap.get? d = some o → h'.get? d = some o) → h'.get? S = some { cls := .type "list", dict := none, data := .seq acc c, slots := #[] } →
      ts.length = min xs.size ys.size → ZGot xs ys lo h' ts → acc.toList = ts.map Value.ref → R (.ok (.ret res)) { s with heap := h', toks := tk }) :
    wpAny (model prog w) A.in1 (Builtin.List.listExtendWith (.ref S) (.ref z) res)
      (fun fin s' => match fin with | .done f => R (.ok f) s' | .again c' => c'.quiet = true ∧ codeAny (model prog w) A c' R s') (fun e s' => R (.error e) s') s := by
  have hT : s.TypeIs (.ref z) "zip" := ⟨_, st.zz, rfl⟩
  have h1 : Builtin.List.listSameRef (.ref S) (.ref z) = false := by
    have := F.z
    simp [Builtin.List.listSameRef, Ne.symm this]
  unfold Builtin.List.listExtendWith
  refine wpAny_bind (wpAny_typeOf hT ?_)
  rw [if_neg (by rw [h1]; decide)]
  refine wpAny_bind (wpAny_pyIter_zip st.zz (wpAny_bind (wpAny_holding ?_)))
  unfold Builtin.List.listLengthHint
  refine wpAny_bind (wpAny_specialOf hT zl_len ?_)
  show wpAny _ A.in1 (specialOf (Value.ref z) (Str.ofString "__length_hint__") >>= _) _ _ _
  refine wpAny_bind (wpAny_specialOf hT zl_hint (wpAny_pure ?_))
  show wpAny _ A.in1 (rule "list.extend.makes-room" >>= fun _ => Builtin.List.listTouch (.ref S) >>= fun _ => again (.builtin "list.extend.loop" ⟨[.ref S, .ref z, res], []⟩)) _ _ _
  refine wpAny_bind (wpAny_rule (wpAny_bind ?_))
  show wpAny _ A.in1 (updateSeq S (·.push .none) >>= fun _ => updateSeq S (·.pop)) _ _ _
  have hS2 := Heap.get?_update_self (Obj.mapSeq (·.push Value.none)) hS rfl
  have hS3 := Heap.get?_update_self (Obj.mapSeq (·.pop)) hS2 rfl
  have up : ∀ d o, d ≠ S → s.heap.get? d = some o → ((s.heap.update S (Obj.mapSeq (·.push Value.none))).update S (Obj.mapSeq (·.pop))).get? d = some o := fun d o hd e =>
    (Heap.get?_update_other _ _ (Ne.symm hd)).trans ((Heap.get?_update_other _ _ (Ne.symm hd)).trans e)
  refine wpAny_bind (wpAny_updateSeq hS rfl (wpAny_updateSeq (hz := by seq_fits) hS2 rfl (wpAny_pure ⟨plainId_quiet PySem.F.plain_extend_loop _, ?_⟩)))
  refine zl_loop (s := s) (h₁ := s.heap) hh D F L res hn q (min xs.size ys.size) 0 _ s.toks _ #[] [] (Nat.sub_zero _) (Nat.zero_le _) (st.on.keep F up) (fun d o d0 _ _ _ _ e => up d o d0 e) hS3 rfl rfl ⟨List.Pairwise.nil, (fun _ m => nomatch m), (fun j t e => by simp at e)⟩ ?_
  have z1 := (Heap.SameBut.update s.heap S (Obj.mapSeq (·.push Value.none))).1
  have z2 := (Heap.SameBut.update (s.heap.update S (Obj.mapSeq (·.push Value.none))) S (Obj.mapSeq (·.pop))).1
  exact Nat.le_trans hlo (Nat.le_of_eq (z1.symm.trans z2.symm))
end
section
variable {prog : Program} {w : World} {A : Around} {E : Value → Shared → Prop} {s : Shared} {z TI TO i1 i2 a b S lo : Addr} {xs ys : Array Value}
theorem zl_init {R : Result → Shared → Prop} (hh : A.handled = none) (D : ZipApart z TI TO i1 i2 a b) (st : ZNew z TI TO i1 i2 a b xs ys s.heap) (F : ZOff z TI TO i1 i2 a b S) (L : ZLow z TO i1 i2 S lo) (hlo : lo ≤ s.heap.objs.size)
    (hS : s.heap.get? S = some { cls := .type "list", data := .seq #[] }) (hn : min xs.size ys.size ≤ sizeLine)
    (q : ∀ h' tk acc c ts, (∀ d o, d ≠ S → d ≠ z → d ≠ TO → d ≠ i1 → d ≠ i2 → s.heap.get? d = some o → h'.get? d = some o) → h'.get? S = some { cls := .type "list", dict := none, data := .seq acc c, slots := #[] } →
      ts.length = min xs.size ys.size → ZGot xs ys lo h' ts → acc.toList = ts.map Value.ref → R (.ok (.ret .none)) { s with heap := h', toks := tk }) :
    wpAny (model prog w) A.in1 (Builtin.«list.__init__» ⟨[.ref S, .ref z], []⟩)
      (fun fin s' => match fin with | .done f => R (.ok f) s' | .again c' => c'.quiet = true ∧ codeAny (model prog w) A c' R s') (fun e s' => R (.error e) s') s := by
  show wpAny _ _ (Builtin.List.listItems (.ref S) >>= fun old => Builtin.List.listUpdate (.ref S) (fun _ => #[]) >>= fun _ => letGo old.toList.reverse >>= fun _ => Builtin.List.listExtendWith (.ref S) (.ref z) .none) _ _ s
  refine wpAny_bind ?_
  unfold Builtin.List.listItems
  refine wpAny_bind (wpAny_seqItems hS rfl (wpAny_pure ?_))
  show wpAny _ _ (updateSeq S (fun _ => #[]) >>= fun _ => letGo (#[] : Array Value).toList.reverse >>= fun _ => _) _ _ s
  have hS2 := Heap.get?_update_self (Obj.mapSeq (fun _ => (#[] : Array Value))) hS rfl
  have up : ∀ d o, d ≠ S → s.heap.get? d = some o → (s.heap.update S (Obj.mapSeq (fun _ => (#[] : Array Value)))).get? d = some o := fun d o hd e => (Heap.get?_update_other _ _ (Ne.symm hd)).trans e
  obtain ⟨u, v, ho⟩ := st.to
  refine wpAny_bind (wpAny_updateSeq hS rfl (wpAny_bind (wpAny_letGo ?_)))
  refine zl_extend hh D ⟨up _ _ F.ti st.ti, st.n1.at fun o e => up _ o F.n1 e, st.n2.at fun o e => up _ o F.n2 e, st.la.at fun o e => up _ o F.la e, st.lb.at fun o e => up _ o F.lb e, up _ _ F.z st.zz, u, v, up _ _ F.to ho⟩ F L
    (Nat.le_trans hlo (Nat.le_of_eq (Heap.SameBut.update s.heap S (Obj.mapSeq (fun _ => (#[] : Array Value)))).1.symm)) .none hS2 hn fun h' tk acc c ts k => q h' tk acc c ts fun d o d0 d1 d2 d3 d4 e => k d o d0 d1 d2 d3 d4 (up d o d0 e)
theorem zl_call {Q : Value → Shared → Prop} (hh : A.handled = none) (D : ZipApart z TI TO i1 i2 a b) (st : ZNew z TI TO i1 i2 a b xs ys s.heap) (hn : min xs.size ys.size ≤ sizeLine)
    (q : ∀ h' tk acc c ts, (∀ d o, d ≠ z → d ≠ TO → d ≠ i1 → d ≠ i2 → s.heap.get? d = some o → h'.get? d = some o) → h'.get? s.heap.objs.size = some { cls := .type "list", dict := none, data := .seq acc c, slots := #[] } →
      ts.length = min xs.size ys.size → ZGot xs ys (s.heap.objs.size + 1) h' ts → acc.toList = ts.map Value.ref → Q (.ref s.heap.objs.size) { s with heap := h', toks := tk }) :
    wpAny (model prog w) A (call (.type "list") [.ref z]) Q E s := by
  refine callType_codes (Q₁ := fun obj r => obj = .ref s.heap.objs.size ∧ r = { s with heap := s.heap.push { cls := .type "list", data := .seq #[] } }) PySem.F.called_list (PySem.F.typeCall_list_1 _) PySem.F.entry_list_init (code_list_new _ ⟨rfl, rfl⟩) fun obj r hr => ?_
  obtain ⟨rfl, rfl⟩ := hr
  have hS : (s.heap.push { cls := .type "list", data := .seq #[] }).get? s.heap.objs.size = some { cls := .type "list", data := .seq (#[] : Array Value) } := Heap.get?_push_size _ rfl
  have F : ZOff z TI TO i1 i2 a b s.heap.objs.size := st.lt (Nat.le_refl _)
  refine ⟨⟨_, hS, rfl⟩, PySem.F.args_list_init_2 _ _, zl_init (A := A.in1) hh D (st.keep fun c o _ e => Heap.get?_push_of_some _ e) F (st.low (Nat.le_refl _)) (Nat.le_of_eq (Heap.size_push ..).symm) hS hn fun h' tk acc c ts k h2 h3 h4 h5 => ?_⟩
  exact ⟨rfl, q h' tk acc c ts (fun d o d1 d2 d3 d4 e => k d o (Nat.ne_of_lt (Heap.lt_size e)) d1 d2 d3 d4 (Heap.get?_push_of_some _ e)) h2 h3 h4 h5⟩
end
/-! .. as a rule: the list is new, its pairs are new -/
def layT : Hp → List (Addr × V × V) → Hp
  | H, [] => H
  | H, p :: r => layT (upd H p.1 (.tup [p.2.1, p.2.2])) r
theorem layT_old : ∀ (ps : List (Addr × V × V)) {H : Hp} {c : Addr} {o : HO}, (∀ p ∈ ps, p.1 ≠ c) → H c = some o → layT H ps c = some o
  | [], _, _, _, _, e => e
  | p :: r, _, _, _, h, e => layT_old r (fun q m => h q (List.mem_cons_of_mem _ m)) (by rw [upd_ne (Ne.symm (h p List.mem_cons_self))]; exact e)
theorem layT_none : ∀ (ps : List (Addr × V × V)) {H : Hp} {c : Addr}, (∀ p ∈ ps, p.1 ≠ c) → H c = none → layT H ps c = none
  | [], _, _, _, e => e
  | p :: r, _, _, h, e => layT_none r (fun q m => h q (List.mem_cons_of_mem _ m)) (by rw [upd_ne (Ne.symm (h p List.mem_cons_self))]; exact e)
theorem layT_at : ∀ (ps : List (Addr × V × V)) {H : Hp}, (ps.map (·.1)).Pairwise (· < ·) → ∀ p ∈ ps, layT H ps p.1 = some (.tup [p.2.1, p.2.2])
  | [], _, _, _, m => nomatch m
  | q :: r, H, h, p, m => by
    have h' := List.pairwise_cons.mp h
    rcases List.mem_cons.mp m with rfl | m
    · exact layT_old r (fun u mu => Nat.ne_of_gt (h'.1 u.1 (List.mem_map_of_mem mu))) (upd_same ..)
    · exact layT_at r h'.2 p m
theorem zl_lt {n c : Nat} (h : c < n) (k : Nat) : c ≠ n + k := by omega
theorem zl_ab {n m t : Nat} (h : m + 1 ≤ t) (e : m = n + 5) : n ≤ t ∧ t ≠ m := by omega
theorem zl_out {h : Heap} {c : Addr} (hc : h.objs.size ≤ c) : h.get? c = none := by
  cases e : h.get? c with
  | none => rfl
  | some o => exact absurd (Heap.lt_size e) (Nat.not_lt.mpr hc)
section
variable {X : Cx} {pins : List (Addr × Obj)} {σ : L2.St}
theorem lay_pairs : ∀ (ps : List (Addr × V × V)) {H : Hp} {s : Shared} {h' : Heap} (tk : Nat), Inv X pins σ H s → (∀ c o, s.heap.get? c = some o → h'.get? c = some o) → (ps.map (·.1)).Pairwise (· < ·) → (∀ p ∈ ps, s.heap.get? p.1 = none ∧ H p.1 = none) →
    (∀ p ∈ ps, ∃ u v, RelV p.2.1 u ∧ RelV p.2.2 v ∧ IsPair h' p.1 u v) → Inv X pins σ (layT H ps) { s with heap := h', toks := tk }
  | [], _, _, _, _, I, k, _, _, _ => I.kept k
  | p :: r, H, s, h', tk, I, k, hr, hn, hp => by
    have hr' := List.pairwise_cons.mp hr
    obtain ⟨G, g1, g2⟩ := restrict h' fun c => decide (c ∉ r.map (·.1))
    have ne : ∀ q ∈ r, q.1 ≠ p.1 := fun q m => Nat.ne_of_gt (hr'.1 q.1 (List.mem_map_of_mem m))
    have gp : G.get? p.1 = h'.get? p.1 := g1 _ (decide_eq_true fun m => by
      obtain ⟨q, m1, m2⟩ := List.mem_map.mp m
      exact ne q m1 m2)
    obtain ⟨u, v, ru, rv, e⟩ := hp p List.mem_cons_self
    have I1 : Inv X pins σ (upd H p.1 (.tup [p.2.1, p.2.2])) { s with heap := G, toks := tk } := by
      refine I.laidN (fun c o e => ?_) (hn p List.mem_cons_self).1 (hn p List.mem_cons_self).2 ⟨by show 2 ≤ sizeLine; decide, [u, v], .cons ru (.cons rv .nil), ⟨_, gp.trans e, rfl, _, rfl⟩⟩
      rw [g1 c (decide_eq_true fun m => ?_)]
      · exact k c o e
      · obtain ⟨q, m1, m2⟩ := List.mem_map.mp m
        have z := (hn q (List.mem_cons_of_mem _ m1)).1
        rw [m2, e] at z
        cases z
    refine lay_pairs r (s := { s with heap := G, toks := tk }) tk I1 (fun c o e => ?_) hr'.2 (fun q m => ⟨g2 _ (decide_eq_false fun z => z (List.mem_map_of_mem m)), ?_⟩) fun q m => hp q (List.mem_cons_of_mem _ m)
    · by_cases c1 : c ∈ r.map (·.1)
      · rw [show G.get? c = none from g2 c (decide_eq_false fun z => z c1)] at e
        cases e
      · rw [← g1 c (decide_eq_true c1)]
        exact e
    · rw [upd_ne (ne q m)]
      exact (hn q (List.mem_cons_of_mem _ m)).2
/-- list(zip(a, b)), both lists -/
def tListZip (K : PySem.W.Frag) (ta : TA) : TE := fun σ H Q => ta σ H fun vs H1 => ∃ a b xs ys, vs = [.ref a, .ref b] ∧ SqL K H1 a xs ∧ SqL K H1 b ys ∧
  ∀ (H2 : Hp) (p : Addr) (ts : List Addr), (∀ c o, H1 c = some o → H2 c = some o) → H1 p = none → (∀ t ∈ ts, H1 t = none) → H2 p = some (.lst (ts.map V.ref)) → ts.length = min xs.length ys.length →
    (∀ (j : Nat) (t : Addr), ts[j]? = some t → ∃ x y, xs[j]? = some x ∧ ys[j]? = some y ∧ H2 t = some (.tup [x, y])) → Q (.ref p) H2
theorem zl_trip {us vs : Array Value} {xs ys : List V} {lo : Addr} {h : Heap} {ts : List Addr} (g : ZGot us vs lo h ts) (r1 : Vals xs us.toList) (r2 : Vals ys vs.toList) (hl : ts.length = min us.size vs.size) :
    ∃ ps : List (Addr × V × V), ps.map (·.1) = ts ∧ (∀ (j : Nat) (p : Addr × V × V), ps[j]? = some p → xs[j]? = some p.2.1 ∧ ys[j]? = some p.2.2) ∧ ∀ p ∈ ps, ∃ u v, RelV p.2.1 u ∧ RelV p.2.2 v ∧ IsPair h p.1 u v := by
  have l1 : xs.length = us.size := by rw [r1.length, Array.length_toList]
  have l2 : ys.length = vs.size := by rw [r2.length, Array.length_toList]
  have lz : ts.length = (xs.zip ys).length := by rw [List.length_zip, hl, l1, l2]
  have at' : ∀ (j : Nat) (p : Addr × V × V), (ts.zip (xs.zip ys))[j]? = some p → ts[j]? = some p.1 ∧ xs[j]? = some p.2.1 ∧ ys[j]? = some p.2.2 := fun j p e => by
    obtain ⟨e1, e2⟩ := List.getElem?_zip_eq_some.mp e
    obtain ⟨e3, e4⟩ := List.getElem?_zip_eq_some.mp e2
    exact ⟨e1, e3, e4⟩
  refine ⟨ts.zip (xs.zip ys), ?_, fun j p e => (at' j p e).2, fun p m => ?_⟩
  · exact List.map_fst_zip (Nat.le_of_eq lz)
  · obtain ⟨j, e⟩ := List.mem_iff_getElem?.mp m
    obtain ⟨e1, e2, e3⟩ := at' j p e
    obtain ⟨u, v, f1, f2, f3⟩ := g.pairs j _ e1
    obtain ⟨u', q1, q2⟩ := r1.get e2
    obtain ⟨v', q3, q4⟩ := r2.get e3
    rw [Array.getElem?_toList, f1] at q1
    rw [Array.getElem?_toList, f2] at q3
    cases q1
    cases q3
    exact ⟨u, v, q2, q4, f3⟩
theorem pe_listZip {X : Cx} {e e2 : Expr} {ta : TA} {p1 q1 p2 q2 : Pos} (hc : X.calm = true) (hg : Gl X "list") (hm : X.mg "list" = none) (hg2 : Gl X "zip") (hm2 : X.mg "zip" = none) (ha : PA X [e, e2] ta)
    (na : starEach [Expr.Call (.Name "zip" p2) [e, e2] [] q2] X.env = (false, eval (.Call (.Name "zip" p2) [e, e2] [] q2) X.env) :: starEach [] X.env := by rfl)
    (hs : starEach [e, e2] X.env = (false, eval e X.env) :: starEach [e2] X.env := by rfl) (hpl : (backTo q2 (starEach [e2] X.env)).any (·.1) = false := by rfl) :
    PE X (.Call (.Name "list" p1) [.Call (.Name "zip" p2) [e, e2] [] q2] [] q1) (tListZip X.K ta) := by
  refine ⟨fun pins s σ H Q I h => ?_⟩
  have inner : wpAny (model X.prog X.w) X.A (eval (.Call (.Name "zip" p2) [e, e2] [] q2) X.env) (fun v s2 => ∃ (s1 : Shared) (H1 : Hp) (a b : Addr) (xs ys : List V) (us vs : Array Value), Inv X pins σ H1 s1 ∧ v = .ref (s1.heap.objs.size + 4) ∧ s2 = { s1 with heap := s2.heap } ∧
      ZipApart (s1.heap.objs.size + 4) (s1.heap.objs.size + 2) (s1.heap.objs.size + 3) s1.heap.objs.size (s1.heap.objs.size + 1) a b ∧ ZNew (s1.heap.objs.size + 4) (s1.heap.objs.size + 2) (s1.heap.objs.size + 3) s1.heap.objs.size (s1.heap.objs.size + 1) a b us vs s2.heap ∧
      (∀ c o, s1.heap.get? c = some o → s2.heap.get? c = some o) ∧ s2.heap.objs.size = s1.heap.objs.size + 5 ∧ Vals xs us.toList ∧ Vals ys vs.toList ∧ us.size ≤ sizeLine ∧
      ∀ (H2 : Hp) (p : Addr) (ts : List Addr), (∀ c o, H1 c = some o → H2 c = some o) → H1 p = none → (∀ t ∈ ts, H1 t = none) → H2 p = some (.lst (ts.map V.ref)) → ts.length = min xs.length ys.length →
        (∀ (j : Nat) (t : Addr), ts[j]? = some t → ∃ x y, xs[j]? = some x ∧ ys[j]? = some y ∧ H2 t = some (.tup [x, y])) → Q (.ref p) H2) X.xe s := by
    refine Call_ (ld_blt I hg2 hm2 PyProof.Rows.boot_zip (PyProof.Rows.callWith_type1 (thn (ha.run q2 pins s σ H _ I h) fun us s1 ⟨vs, H1, I1, r1, q⟩ => ?_) hs hpl))
    obtain ⟨a, b, xs, ys, ex, sx, sy, q⟩ := q
    subst ex
    cases r1 with
    | cons r rr =>
      cases rr with
      | cons r' rr =>
        cases rr
        cases r
        cases r'
        obtain ⟨its, rv, t1, z1⟩ := I1.list sx
        obtain ⟨its2, rv2, t2, _⟩ := I1.list sy
        refine call_zip_2 t1.isList t2.isList fun h' hz hTI hTO n1 n2 hsz hk => ?_
        refine ⟨s1, H1, a, b, xs, ys, its.toArray, its2.toArray, I1, rfl, rfl, PySem.W.ktu_apart s1.heap.objs.size a b t1.lt t2.lt, ⟨hTI, n1, n2, t1.isList.at fun o e => hk _ o e, t2.isList.at fun o e => hk _ o e, hz, _, _, hTO⟩, hk, hsz, rv, rv2, ?_, q⟩
        rw [List.size_toArray, ← rv.length]
        exact z1
  refine Call_ (ld_blt I hg hm boot_list (PyProof.Rows.callWith_type1 (args_cons (thn inner fun v s2 ⟨s1, H1, a, b, xs, ys, us, vs, I1, ev, es, D, st, kp, hsz, rv, rv2, hn, q⟩ => args_nil ?_) na) na))
  subst ev
  have hd : X.A.handled = none := I1.ok.hd hc
  have hmin : min us.size vs.size ≤ sizeLine := Nat.le_trans (Nat.min_le_left ..) hn
  refine zl_call hd D st hmin fun h' tk acc c ts k hS hl g hacc => ?_
  have keep : ∀ c o, s1.heap.get? c = some o → h'.get? c = some o := fun c o e => by
    have lt := Heap.lt_size e
    exact k c o (zl_lt lt 4) (zl_lt lt 3) (zl_lt lt 0) (zl_lt lt 1) (kp c o e)
  have new : ∀ c, s1.heap.objs.size ≤ c → s1.heap.get? c = none ∧ H1 c = none := fun c hc => ⟨zl_out hc, I1.hok.fresh hc⟩
  have above : ∀ t ∈ ts, s1.heap.objs.size ≤ t ∧ t ≠ s2.heap.objs.size := fun t m => by
    have z := g.above t m
    exact zl_ab z hsz
  obtain ⟨ps, e1, e2, e3⟩ := zl_trip g rv rv2 hl
  have mem : ∀ p ∈ ps, p.1 ∈ ts := fun p m => by rw [← e1]; exact List.mem_map_of_mem m
  obtain ⟨G, g1, g2⟩ := restrict h' fun c => decide (c ≠ s2.heap.objs.size)
  have I2 : Inv X pins σ (layT H1 ps) { s1 with heap := G, toks := tk } := by
    refine lay_pairs ps tk I1 (fun c o e => ?_) (by rw [e1]; exact g.rise) (fun p m => new _ (above _ (mem p m)).1) fun p m => ?_
    · rw [g1 c (decide_eq_true fun z => ?_)]
      · exact keep c o e
      · have lt := Heap.lt_size e
        rw [z, hsz] at lt
        exact absurd lt (Nat.not_lt.mpr (Nat.le_add_right _ 5))
    · obtain ⟨u, v, f1, f2, f3⟩ := e3 p m
      exact ⟨u, v, f1, f2, (g1 _ (decide_eq_true (above _ (mem p m)).2)).trans f3⟩
  have hp0 : H1 s2.heap.objs.size = none := (new _ (by rw [hsz]; omega)).2
  have hn0 : layT H1 ps s2.heap.objs.size = none := layT_none ps (fun p m => (above _ (mem p m)).2) hp0
  have I3 : Inv X pins σ (upd (layT H1 ps) s2.heap.objs.size (.lst (ts.map V.ref))) { s1 with heap := h', toks := tk } := by
    refine I2.laidN (fun c o e => ?_) (g2 _ (decide_eq_false fun z => z rfl)) hn0 ⟨?_, acc.toList, c, ?_, ?_⟩
    · by_cases cc : c = s2.heap.objs.size
      · rw [cc, show G.get? s2.heap.objs.size = none from g2 _ (decide_eq_false fun z => z rfl)] at e
        cases e
      · rw [← g1 c (decide_eq_true cc)]
        exact e
    · rw [List.length_map, hl]
      exact hmin
    · rw [hacc]
      exact vals_refs ts
    · rw [Array.toArray_toList]
      exact hS
  have old : ∀ c o, H1 c = some o → ∀ t, H1 t = none → t ≠ c := fun c o e t n z => by
    rw [z, e] at n
    cases n
  have l1 : xs.length = us.size := by rw [rv.length, Array.length_toList]
  have l2 : ys.length = vs.size := by rw [rv2.length, Array.length_toList]
  rw [es]
  refine ⟨.ref s2.heap.objs.size, _, I3, rfl, q _ _ ts (fun c o e => ?_) hp0 (fun t m => (new t (above t m).1).2) (upd_same ..) (by rw [hl, l1, l2]) fun j t e => ?_⟩
  · rw [upd_ne (Ne.symm (old c o e _ hp0))]
    exact layT_old ps (fun p m => old c o e _ (new _ (above _ (mem p m)).1).2) e
  · rw [← e1, List.getElem?_map] at e
    cases ej : ps[j]? with
    | none =>
      rw [ej] at e
      cases e
    | some p =>
      rw [ej] at e
      obtain rfl : p.1 = t := by simpa using e
      obtain ⟨f1, f2⟩ := e2 j p ej
      refine ⟨p.2.1, p.2.2, f1, f2, ?_⟩
      rw [upd_ne (above _ (mem p (List.mem_of_getElem? ej))).2]
      exact layT_at ps (by rw [e1]; exact g.rise) p (List.mem_of_getElem? ej)
end

/-! ### xs[i] op= e of a list -/
theorem get_list {X : Cx} : PGet X (rIxL X.K) := by
  intro pins s σ H x y v u Q I rx ry h
  obtain ⟨p, xs, i, z, rfl, rfl, hq, he, q⟩ := h
  cases rx
  obtain ⟨t, rfl⟩ := ry
  obtain ⟨its, r, pl, hz⟩ := I.list hq
  obtain ⟨j, h1, h2, h3, h4, h5⟩ := atI_get he
  obtain ⟨w, ew, rw'⟩ := r.get h2
  have hl := r.length
  have hn := line63
  have fin : EP X pins σ Q w s := ⟨z, H, I, rw', q⟩
  by_cases h0 : 0 ≤ i
  · have hj : i.toNat = j := by
      rw [seqIndex_of h0 h5] at h1
      exact Option.some.inj h1
    exact wpAny_getItem_list pl.isList h0 (by omega) (by rw [hj]; simpa using ew) fin
  · have hj : (i + (its.toArray.size : Int)).toNat = j := by
      rw [seqIndex_neg (by omega) h4] at h1
      rw [List.size_toArray, ← hl]
      exact Option.some.inj h1
    exact wpAny_getItem_list_neg pl.isList (by omega) (by rw [List.size_toArray] <;> omega) (by omega) (by rw [hj]; simpa using ew) fin

theorem funC_of {K : PySem.W.Frag} {x q : Str} {st : Stmt} {p : He.Defn} {fd : FuncData} (F : Fun K x q st (He.fAd K p) fd) : FunC K x q st (He.fAd K p) fd (He.codeOf K p) := by
  obtain ⟨oc, od, kV, doc, pm, an, cdv, ct, osl, rfl, lk, hcd⟩ := F.ex
  obtain ⟨c, rfl⟩ := He.codeIn_ref hcd
  have e := He.codeOf_eq lk rfl
  rw [e]
  exact ⟨oc, od, kV, doc, pm, an, ct, osl, rfl, lk, hcd⟩
abbrev Txt.a_MastError {K : PySem.W.Frag} {mg : Str → Option Value} (T : Txt K mg) : Addr := He.ga K "MastError"
theorem Txt.g_MastError {K : PySem.W.Frag} {mg : Str → Option Value} (T : Txt K mg) : mg "MastError" = some (.ref (T.a_MastError)) := (TopB.exc T 0 rfl : ExcT K mg "MastError").g
theorem Txt.x_MastError {K : PySem.W.Frag} {mg : Str → Option Value} (T : Txt K mg) : PySem.W.excIn K (T.a_MastError) He.veBase "ValueError.__new__" = true := (TopB.exc T 0 rfl : ExcT K mg "MastError").x
theorem Txt.k_MastError {K : PySem.W.Frag} {mg : Str → Option Value} (T : Txt K mg) : PySem.W.keepIn K (.ref (T.a_MastError)) = true := (TopB.exc T 0 rfl : ExcT K mg "MastError").k
theorem Txt.b_MastError {K : PySem.W.Frag} {mg : Str → Option Value} (T : Txt K mg) : PySem.W.subIn K (.ref (T.a_MastError)) (.type "BaseException") = some true := (TopB.exc T 0 rfl : ExcT K mg "MastError").b
theorem Txt.t_MastError {K : PySem.W.Frag} {mg : Str → Option Value} (T : Txt K mg) : PySem.W.typeIn K (.ref (T.a_MastError)) = some (.type "type") := (TopB.exc T 0 rfl : ExcT K mg "MastError").t
theorem Txt.i_MastError {K : PySem.W.Frag} {mg : Str → Option Value} (T : Txt K mg) : PySem.W.isClsIn K (T.a_MastError) = true := (TopB.exc T 0 rfl : ExcT K mg "MastError").i
theorem Txt.h_MastError {K : PySem.W.Frag} {mg : Str → Option Value} (T : Txt K mg) : PySem.W.hasDictIn K (T.a_MastError) = true := (TopB.exc T 0 rfl : ExcT K mg "MastError").h
theorem Txt.ga_MastError {K : PySem.W.Frag} {mg : Str → Option Value} (T : Txt K mg) : PySem.W.findIn K (.ref (T.a_MastError)) "__getattribute__" = some (some (.builtin "BaseException.__getattribute__")) := (TopB.exc T 0 rfl : ExcT K mg "MastError").ga
theorem Txt.gg_MastError {K : PySem.W.Frag} {mg : Str → Option Value} (T : Txt K mg) : PySem.W.findIn K (.ref (T.a_MastError)) "__getattr__" = some none := (TopB.exc T 0 rfl : ExcT K mg "MastError").gg
theorem Txt.cl_MastError {K : PySem.W.Frag} {mg : Str → Option Value} (T : Txt K mg) : PySem.W.findIn K (.ref (T.a_MastError)) "__class__" = some (some (.builtin "object.__class__")) := (TopB.exc T 0 rfl : ExcT K mg "MastError").cl
theorem Txt.mo_MastError {K : PySem.W.Frag} {mg : Str → Option Value} (T : Txt K mg) : PySem.W.mroIn K (T.a_MastError) (.type "object") = some true := (TopB.exc T 0 rfl : ExcT K mg "MastError").mo
abbrev Txt.a_BadCount {K : PySem.W.Frag} {mg : Str → Option Value} (T : Txt K mg) : Addr := He.ga K "BadCount"
theorem Txt.g_BadCount {K : PySem.W.Frag} {mg : Str → Option Value} (T : Txt K mg) : mg "BadCount" = some (.ref (T.a_BadCount)) := (TopB.exc T 1 rfl : ExcT K mg "BadCount").g
theorem Txt.x_BadCount {K : PySem.W.Frag} {mg : Str → Option Value} (T : Txt K mg) : PySem.W.excIn K (T.a_BadCount) He.veBase "ValueError.__new__" = true := (TopB.exc T 1 rfl : ExcT K mg "BadCount").x
theorem Txt.k_BadCount {K : PySem.W.Frag} {mg : Str → Option Value} (T : Txt K mg) : PySem.W.keepIn K (.ref (T.a_BadCount)) = true := (TopB.exc T 1 rfl : ExcT K mg "BadCount").k
theorem Txt.b_BadCount {K : PySem.W.Frag} {mg : Str → Option Value} (T : Txt K mg) : PySem.W.subIn K (.ref (T.a_BadCount)) (.type "BaseException") = some true := (TopB.exc T 1 rfl : ExcT K mg "BadCount").b
theorem Txt.t_BadCount {K : PySem.W.Frag} {mg : Str → Option Value} (T : Txt K mg) : PySem.W.typeIn K (.ref (T.a_BadCount)) = some (.type "type") := (TopB.exc T 1 rfl : ExcT K mg "BadCount").t
theorem Txt.i_BadCount {K : PySem.W.Frag} {mg : Str → Option Value} (T : Txt K mg) : PySem.W.isClsIn K (T.a_BadCount) = true := (TopB.exc T 1 rfl : ExcT K mg "BadCount").i
theorem Txt.h_BadCount {K : PySem.W.Frag} {mg : Str → Option Value} (T : Txt K mg) : PySem.W.hasDictIn K (T.a_BadCount) = true := (TopB.exc T 1 rfl : ExcT K mg "BadCount").h
theorem Txt.ga_BadCount {K : PySem.W.Frag} {mg : Str → Option Value} (T : Txt K mg) : PySem.W.findIn K (.ref (T.a_BadCount)) "__getattribute__" = some (some (.builtin "BaseException.__getattribute__")) := (TopB.exc T 1 rfl : ExcT K mg "BadCount").ga
theorem Txt.gg_BadCount {K : PySem.W.Frag} {mg : Str → Option Value} (T : Txt K mg) : PySem.W.findIn K (.ref (T.a_BadCount)) "__getattr__" = some none := (TopB.exc T 1 rfl : ExcT K mg "BadCount").gg
theorem Txt.cl_BadCount {K : PySem.W.Frag} {mg : Str → Option Value} (T : Txt K mg) : PySem.W.findIn K (.ref (T.a_BadCount)) "__class__" = some (some (.builtin "object.__class__")) := (TopB.exc T 1 rfl : ExcT K mg "BadCount").cl
theorem Txt.mo_BadCount {K : PySem.W.Frag} {mg : Str → Option Value} (T : Txt K mg) : PySem.W.mroIn K (T.a_BadCount) (.type "object") = some true := (TopB.exc T 1 rfl : ExcT K mg "BadCount").mo
theorem Txt.s_BadCount_MastError {K : PySem.W.Frag} {mg : Str → Option Value} (T : Txt K mg) : PySem.W.subIn K (.ref (T.a_BadCount)) (.ref (He.ga K "MastError")) = some true := (TopB.exc T 1 rfl : ExcT K mg "BadCount").s
abbrev Txt.a_NoMast {K : PySem.W.Frag} {mg : Str → Option Value} (T : Txt K mg) : Addr := He.ga K "NoMast"
theorem Txt.g_NoMast {K : PySem.W.Frag} {mg : Str → Option Value} (T : Txt K mg) : mg "NoMast" = some (.ref (T.a_NoMast)) := (TopB.exc T 2 rfl : ExcT K mg "NoMast").g
theorem Txt.x_NoMast {K : PySem.W.Frag} {mg : Str → Option Value} (T : Txt K mg) : PySem.W.excIn K (T.a_NoMast) He.veBase "ValueError.__new__" = true := (TopB.exc T 2 rfl : ExcT K mg "NoMast").x
theorem Txt.k_NoMast {K : PySem.W.Frag} {mg : Str → Option Value} (T : Txt K mg) : PySem.W.keepIn K (.ref (T.a_NoMast)) = true := (TopB.exc T 2 rfl : ExcT K mg "NoMast").k
theorem Txt.b_NoMast {K : PySem.W.Frag} {mg : Str → Option Value} (T : Txt K mg) : PySem.W.subIn K (.ref (T.a_NoMast)) (.type "BaseException") = some true := (TopB.exc T 2 rfl : ExcT K mg "NoMast").b
theorem Txt.t_NoMast {K : PySem.W.Frag} {mg : Str → Option Value} (T : Txt K mg) : PySem.W.typeIn K (.ref (T.a_NoMast)) = some (.type "type") := (TopB.exc T 2 rfl : ExcT K mg "NoMast").t
theorem Txt.i_NoMast {K : PySem.W.Frag} {mg : Str → Option Value} (T : Txt K mg) : PySem.W.isClsIn K (T.a_NoMast) = true := (TopB.exc T 2 rfl : ExcT K mg "NoMast").i
theorem Txt.h_NoMast {K : PySem.W.Frag} {mg : Str → Option Value} (T : Txt K mg) : PySem.W.hasDictIn K (T.a_NoMast) = true := (TopB.exc T 2 rfl : ExcT K mg "NoMast").h
theorem Txt.ga_NoMast {K : PySem.W.Frag} {mg : Str → Option Value} (T : Txt K mg) : PySem.W.findIn K (.ref (T.a_NoMast)) "__getattribute__" = some (some (.builtin "BaseException.__getattribute__")) := (TopB.exc T 2 rfl : ExcT K mg "NoMast").ga
theorem Txt.gg_NoMast {K : PySem.W.Frag} {mg : Str → Option Value} (T : Txt K mg) : PySem.W.findIn K (.ref (T.a_NoMast)) "__getattr__" = some none := (TopB.exc T 2 rfl : ExcT K mg "NoMast").gg
theorem Txt.cl_NoMast {K : PySem.W.Frag} {mg : Str → Option Value} (T : Txt K mg) : PySem.W.findIn K (.ref (T.a_NoMast)) "__class__" = some (some (.builtin "object.__class__")) := (TopB.exc T 2 rfl : ExcT K mg "NoMast").cl
theorem Txt.mo_NoMast {K : PySem.W.Frag} {mg : Str → Option Value} (T : Txt K mg) : PySem.W.mroIn K (T.a_NoMast) (.type "object") = some true := (TopB.exc T 2 rfl : ExcT K mg "NoMast").mo
theorem Txt.s_NoMast_MastError {K : PySem.W.Frag} {mg : Str → Option Value} (T : Txt K mg) : PySem.W.subIn K (.ref (T.a_NoMast)) (.ref (He.ga K "MastError")) = some true := (TopB.exc T 2 rfl : ExcT K mg "NoMast").s
abbrev Txt.a_BadWay {K : PySem.W.Frag} {mg : Str → Option Value} (T : Txt K mg) : Addr := He.ga K "BadWay"
theorem Txt.g_BadWay {K : PySem.W.Frag} {mg : Str → Option Value} (T : Txt K mg) : mg "BadWay" = some (.ref (T.a_BadWay)) := (TopB.exc T 3 rfl : ExcT K mg "BadWay").g
theorem Txt.x_BadWay {K : PySem.W.Frag} {mg : Str → Option Value} (T : Txt K mg) : PySem.W.excIn K (T.a_BadWay) He.veBase "ValueError.__new__" = true := (TopB.exc T 3 rfl : ExcT K mg "BadWay").x
theorem Txt.k_BadWay {K : PySem.W.Frag} {mg : Str → Option Value} (T : Txt K mg) : PySem.W.keepIn K (.ref (T.a_BadWay)) = true := (TopB.exc T 3 rfl : ExcT K mg "BadWay").k
theorem Txt.b_BadWay {K : PySem.W.Frag} {mg : Str → Option Value} (T : Txt K mg) : PySem.W.subIn K (.ref (T.a_BadWay)) (.type "BaseException") = some true := (TopB.exc T 3 rfl : ExcT K mg "BadWay").b
theorem Txt.t_BadWay {K : PySem.W.Frag} {mg : Str → Option Value} (T : Txt K mg) : PySem.W.typeIn K (.ref (T.a_BadWay)) = some (.type "type") := (TopB.exc T 3 rfl : ExcT K mg "BadWay").t
theorem Txt.i_BadWay {K : PySem.W.Frag} {mg : Str → Option Value} (T : Txt K mg) : PySem.W.isClsIn K (T.a_BadWay) = true := (TopB.exc T 3 rfl : ExcT K mg "BadWay").i
theorem Txt.h_BadWay {K : PySem.W.Frag} {mg : Str → Option Value} (T : Txt K mg) : PySem.W.hasDictIn K (T.a_BadWay) = true := (TopB.exc T 3 rfl : ExcT K mg "BadWay").h
theorem Txt.ga_BadWay {K : PySem.W.Frag} {mg : Str → Option Value} (T : Txt K mg) : PySem.W.findIn K (.ref (T.a_BadWay)) "__getattribute__" = some (some (.builtin "BaseException.__getattribute__")) := (TopB.exc T 3 rfl : ExcT K mg "BadWay").ga
theorem Txt.gg_BadWay {K : PySem.W.Frag} {mg : Str → Option Value} (T : Txt K mg) : PySem.W.findIn K (.ref (T.a_BadWay)) "__getattr__" = some none := (TopB.exc T 3 rfl : ExcT K mg "BadWay").gg
theorem Txt.cl_BadWay {K : PySem.W.Frag} {mg : Str → Option Value} (T : Txt K mg) : PySem.W.findIn K (.ref (T.a_BadWay)) "__class__" = some (some (.builtin "object.__class__")) := (TopB.exc T 3 rfl : ExcT K mg "BadWay").cl
theorem Txt.mo_BadWay {K : PySem.W.Frag} {mg : Str → Option Value} (T : Txt K mg) : PySem.W.mroIn K (T.a_BadWay) (.type "object") = some true := (TopB.exc T 3 rfl : ExcT K mg "BadWay").mo
theorem Txt.s_BadWay_MastError {K : PySem.W.Frag} {mg : Str → Option Value} (T : Txt K mg) : PySem.W.subIn K (.ref (T.a_BadWay)) (.ref (He.ga K "MastError")) = some true := (TopB.exc T 3 rfl : ExcT K mg "BadWay").s
abbrev Txt.a_BadSign {K : PySem.W.Frag} {mg : Str → Option Value} (T : Txt K mg) : Addr := He.ga K "BadSign"
theorem Txt.g_BadSign {K : PySem.W.Frag} {mg : Str → Option Value} (T : Txt K mg) : mg "BadSign" = some (.ref (T.a_BadSign)) := (TopB.exc T 4 rfl : ExcT K mg "BadSign").g
theorem Txt.x_BadSign {K : PySem.W.Frag} {mg : Str → Option Value} (T : Txt K mg) : PySem.W.excIn K (T.a_BadSign) He.veBase "ValueError.__new__" = true := (TopB.exc T 4 rfl : ExcT K mg "BadSign").x
theorem Txt.k_BadSign {K : PySem.W.Frag} {mg : Str → Option Value} (T : Txt K mg) : PySem.W.keepIn K (.ref (T.a_BadSign)) = true := (TopB.exc T 4 rfl : ExcT K mg "BadSign").k
theorem Txt.b_BadSign {K : PySem.W.Frag} {mg : Str → Option Value} (T : Txt K mg) : PySem.W.subIn K (.ref (T.a_BadSign)) (.type "BaseException") = some true := (TopB.exc T 4 rfl : ExcT K mg "BadSign").b
theorem Txt.t_BadSign {K : PySem.W.Frag} {mg : Str → Option Value} (T : Txt K mg) : PySem.W.typeIn K (.ref (T.a_BadSign)) = some (.type "type") := (TopB.exc T 4 rfl : ExcT K mg "BadSign").t
theorem Txt.i_BadSign {K : PySem.W.Frag} {mg : Str → Option Value} (T : Txt K mg) : PySem.W.isClsIn K (T.a_BadSign) = true := (TopB.exc T 4 rfl : ExcT K mg "BadSign").i
theorem Txt.h_BadSign {K : PySem.W.Frag} {mg : Str → Option Value} (T : Txt K mg) : PySem.W.hasDictIn K (T.a_BadSign) = true := (TopB.exc T 4 rfl : ExcT K mg "BadSign").h
theorem Txt.ga_BadSign {K : PySem.W.Frag} {mg : Str → Option Value} (T : Txt K mg) : PySem.W.findIn K (.ref (T.a_BadSign)) "__getattribute__" = some (some (.builtin "BaseException.__getattribute__")) := (TopB.exc T 4 rfl : ExcT K mg "BadSign").ga
theorem Txt.gg_BadSign {K : PySem.W.Frag} {mg : Str → Option Value} (T : Txt K mg) : PySem.W.findIn K (.ref (T.a_BadSign)) "__getattr__" = some none := (TopB.exc T 4 rfl : ExcT K mg "BadSign").gg
theorem Txt.cl_BadSign {K : PySem.W.Frag} {mg : Str → Option Value} (T : Txt K mg) : PySem.W.findIn K (.ref (T.a_BadSign)) "__class__" = some (some (.builtin "object.__class__")) := (TopB.exc T 4 rfl : ExcT K mg "BadSign").cl
theorem Txt.mo_BadSign {K : PySem.W.Frag} {mg : Str → Option Value} (T : Txt K mg) : PySem.W.mroIn K (T.a_BadSign) (.type "object") = some true := (TopB.exc T 4 rfl : ExcT K mg "BadSign").mo
theorem Txt.s_BadSign_MastError {K : PySem.W.Frag} {mg : Str → Option Value} (T : Txt K mg) : PySem.W.subIn K (.ref (T.a_BadSign)) (.ref (He.ga K "MastError")) = some true := (TopB.exc T 4 rfl : ExcT K mg "BadSign").s
abbrev Txt.a_Full {K : PySem.W.Frag} {mg : Str → Option Value} (T : Txt K mg) : Addr := He.ga K "Full"
theorem Txt.g_Full {K : PySem.W.Frag} {mg : Str → Option Value} (T : Txt K mg) : mg "Full" = some (.ref (T.a_Full)) := (TopB.exc T 5 rfl : ExcT K mg "Full").g
theorem Txt.x_Full {K : PySem.W.Frag} {mg : Str → Option Value} (T : Txt K mg) : PySem.W.excIn K (T.a_Full) He.veBase "ValueError.__new__" = true := (TopB.exc T 5 rfl : ExcT K mg "Full").x
theorem Txt.k_Full {K : PySem.W.Frag} {mg : Str → Option Value} (T : Txt K mg) : PySem.W.keepIn K (.ref (T.a_Full)) = true := (TopB.exc T 5 rfl : ExcT K mg "Full").k
theorem Txt.b_Full {K : PySem.W.Frag} {mg : Str → Option Value} (T : Txt K mg) : PySem.W.subIn K (.ref (T.a_Full)) (.type "BaseException") = some true := (TopB.exc T 5 rfl : ExcT K mg "Full").b
theorem Txt.t_Full {K : PySem.W.Frag} {mg : Str → Option Value} (T : Txt K mg) : PySem.W.typeIn K (.ref (T.a_Full)) = some (.type "type") := (TopB.exc T 5 rfl : ExcT K mg "Full").t
theorem Txt.i_Full {K : PySem.W.Frag} {mg : Str → Option Value} (T : Txt K mg) : PySem.W.isClsIn K (T.a_Full) = true := (TopB.exc T 5 rfl : ExcT K mg "Full").i
theorem Txt.h_Full {K : PySem.W.Frag} {mg : Str → Option Value} (T : Txt K mg) : PySem.W.hasDictIn K (T.a_Full) = true := (TopB.exc T 5 rfl : ExcT K mg "Full").h
theorem Txt.ga_Full {K : PySem.W.Frag} {mg : Str → Option Value} (T : Txt K mg) : PySem.W.findIn K (.ref (T.a_Full)) "__getattribute__" = some (some (.builtin "BaseException.__getattribute__")) := (TopB.exc T 5 rfl : ExcT K mg "Full").ga
theorem Txt.gg_Full {K : PySem.W.Frag} {mg : Str → Option Value} (T : Txt K mg) : PySem.W.findIn K (.ref (T.a_Full)) "__getattr__" = some none := (TopB.exc T 5 rfl : ExcT K mg "Full").gg
theorem Txt.cl_Full {K : PySem.W.Frag} {mg : Str → Option Value} (T : Txt K mg) : PySem.W.findIn K (.ref (T.a_Full)) "__class__" = some (some (.builtin "object.__class__")) := (TopB.exc T 5 rfl : ExcT K mg "Full").cl
theorem Txt.mo_Full {K : PySem.W.Frag} {mg : Str → Option Value} (T : Txt K mg) : PySem.W.mroIn K (T.a_Full) (.type "object") = some true := (TopB.exc T 5 rfl : ExcT K mg "Full").mo
theorem Txt.s_Full_MastError {K : PySem.W.Frag} {mg : Str → Option Value} (T : Txt K mg) : PySem.W.subIn K (.ref (T.a_Full)) (.ref (He.ga K "MastError")) = some true := (TopB.exc T 5 rfl : ExcT K mg "Full").s
abbrev Txt.a_NotReady {K : PySem.W.Frag} {mg : Str → Option Value} (T : Txt K mg) : Addr := He.ga K "NotReady"
theorem Txt.g_NotReady {K : PySem.W.Frag} {mg : Str → Option Value} (T : Txt K mg) : mg "NotReady" = some (.ref (T.a_NotReady)) := (TopB.exc T 6 rfl : ExcT K mg "NotReady").g
theorem Txt.x_NotReady {K : PySem.W.Frag} {mg : Str → Option Value} (T : Txt K mg) : PySem.W.excIn K (T.a_NotReady) He.veBase "ValueError.__new__" = true := (TopB.exc T 6 rfl : ExcT K mg "NotReady").x
theorem Txt.k_NotReady {K : PySem.W.Frag} {mg : Str → Option Value} (T : Txt K mg) : PySem.W.keepIn K (.ref (T.a_NotReady)) = true := (TopB.exc T 6 rfl : ExcT K mg "NotReady").k
theorem Txt.b_NotReady {K : PySem.W.Frag} {mg : Str → Option Value} (T : Txt K mg) : PySem.W.subIn K (.ref (T.a_NotReady)) (.type "BaseException") = some true := (TopB.exc T 6 rfl : ExcT K mg "NotReady").b
theorem Txt.t_NotReady {K : PySem.W.Frag} {mg : Str → Option Value} (T : Txt K mg) : PySem.W.typeIn K (.ref (T.a_NotReady)) = some (.type "type") := (TopB.exc T 6 rfl : ExcT K mg "NotReady").t
theorem Txt.i_NotReady {K : PySem.W.Frag} {mg : Str → Option Value} (T : Txt K mg) : PySem.W.isClsIn K (T.a_NotReady) = true := (TopB.exc T 6 rfl : ExcT K mg "NotReady").i
theorem Txt.h_NotReady {K : PySem.W.Frag} {mg : Str → Option Value} (T : Txt K mg) : PySem.W.hasDictIn K (T.a_NotReady) = true := (TopB.exc T 6 rfl : ExcT K mg "NotReady").h
theorem Txt.ga_NotReady {K : PySem.W.Frag} {mg : Str → Option Value} (T : Txt K mg) : PySem.W.findIn K (.ref (T.a_NotReady)) "__getattribute__" = some (some (.builtin "BaseException.__getattribute__")) := (TopB.exc T 6 rfl : ExcT K mg "NotReady").ga
theorem Txt.gg_NotReady {K : PySem.W.Frag} {mg : Str → Option Value} (T : Txt K mg) : PySem.W.findIn K (.ref (T.a_NotReady)) "__getattr__" = some none := (TopB.exc T 6 rfl : ExcT K mg "NotReady").gg
theorem Txt.cl_NotReady {K : PySem.W.Frag} {mg : Str → Option Value} (T : Txt K mg) : PySem.W.findIn K (.ref (T.a_NotReady)) "__class__" = some (some (.builtin "object.__class__")) := (TopB.exc T 6 rfl : ExcT K mg "NotReady").cl
theorem Txt.mo_NotReady {K : PySem.W.Frag} {mg : Str → Option Value} (T : Txt K mg) : PySem.W.mroIn K (T.a_NotReady) (.type "object") = some true := (TopB.exc T 6 rfl : ExcT K mg "NotReady").mo
theorem Txt.s_NotReady_MastError {K : PySem.W.Frag} {mg : Str → Option Value} (T : Txt K mg) : PySem.W.subIn K (.ref (T.a_NotReady)) (.ref (He.ga K "MastError")) = some true := (TopB.exc T 6 rfl : ExcT K mg "NotReady").s
abbrev Txt.a_NotRaising {K : PySem.W.Frag} {mg : Str → Option Value} (T : Txt K mg) : Addr := He.ga K "NotRaising"
theorem Txt.g_NotRaising {K : PySem.W.Frag} {mg : Str → Option Value} (T : Txt K mg) : mg "NotRaising" = some (.ref (T.a_NotRaising)) := (TopB.exc T 7 rfl : ExcT K mg "NotRaising").g
theorem Txt.x_NotRaising {K : PySem.W.Frag} {mg : Str → Option Value} (T : Txt K mg) : PySem.W.excIn K (T.a_NotRaising) He.veBase "ValueError.__new__" = true := (TopB.exc T 7 rfl : ExcT K mg "NotRaising").x
theorem Txt.k_NotRaising {K : PySem.W.Frag} {mg : Str → Option Value} (T : Txt K mg) : PySem.W.keepIn K (.ref (T.a_NotRaising)) = true := (TopB.exc T 7 rfl : ExcT K mg "NotRaising").k
theorem Txt.b_NotRaising {K : PySem.W.Frag} {mg : Str → Option Value} (T : Txt K mg) : PySem.W.subIn K (.ref (T.a_NotRaising)) (.type "BaseException") = some true := (TopB.exc T 7 rfl : ExcT K mg "NotRaising").b
theorem Txt.t_NotRaising {K : PySem.W.Frag} {mg : Str → Option Value} (T : Txt K mg) : PySem.W.typeIn K (.ref (T.a_NotRaising)) = some (.type "type") := (TopB.exc T 7 rfl : ExcT K mg "NotRaising").t
theorem Txt.i_NotRaising {K : PySem.W.Frag} {mg : Str → Option Value} (T : Txt K mg) : PySem.W.isClsIn K (T.a_NotRaising) = true := (TopB.exc T 7 rfl : ExcT K mg "NotRaising").i
theorem Txt.h_NotRaising {K : PySem.W.Frag} {mg : Str → Option Value} (T : Txt K mg) : PySem.W.hasDictIn K (T.a_NotRaising) = true := (TopB.exc T 7 rfl : ExcT K mg "NotRaising").h
theorem Txt.ga_NotRaising {K : PySem.W.Frag} {mg : Str → Option Value} (T : Txt K mg) : PySem.W.findIn K (.ref (T.a_NotRaising)) "__getattribute__" = some (some (.builtin "BaseException.__getattribute__")) := (TopB.exc T 7 rfl : ExcT K mg "NotRaising").ga
theorem Txt.gg_NotRaising {K : PySem.W.Frag} {mg : Str → Option Value} (T : Txt K mg) : PySem.W.findIn K (.ref (T.a_NotRaising)) "__getattr__" = some none := (TopB.exc T 7 rfl : ExcT K mg "NotRaising").gg
theorem Txt.cl_NotRaising {K : PySem.W.Frag} {mg : Str → Option Value} (T : Txt K mg) : PySem.W.findIn K (.ref (T.a_NotRaising)) "__class__" = some (some (.builtin "object.__class__")) := (TopB.exc T 7 rfl : ExcT K mg "NotRaising").cl
theorem Txt.mo_NotRaising {K : PySem.W.Frag} {mg : Str → Option Value} (T : Txt K mg) : PySem.W.mroIn K (T.a_NotRaising) (.type "object") = some true := (TopB.exc T 7 rfl : ExcT K mg "NotRaising").mo
theorem Txt.s_NotRaising_MastError {K : PySem.W.Frag} {mg : Str → Option Value} (T : Txt K mg) : PySem.W.subIn K (.ref (T.a_NotRaising)) (.ref (He.ga K "MastError")) = some true := (TopB.exc T 7 rfl : ExcT K mg "NotRaising").s
abbrev Txt.a_BadSlip {K : PySem.W.Frag} {mg : Str → Option Value} (T : Txt K mg) : Addr := He.ga K "BadSlip"
theorem Txt.g_BadSlip {K : PySem.W.Frag} {mg : Str → Option Value} (T : Txt K mg) : mg "BadSlip" = some (.ref (T.a_BadSlip)) := (TopB.exc T 8 rfl : ExcT K mg "BadSlip").g
theorem Txt.x_BadSlip {K : PySem.W.Frag} {mg : Str → Option Value} (T : Txt K mg) : PySem.W.excIn K (T.a_BadSlip) He.veBase "ValueError.__new__" = true := (TopB.exc T 8 rfl : ExcT K mg "BadSlip").x
theorem Txt.k_BadSlip {K : PySem.W.Frag} {mg : Str → Option Value} (T : Txt K mg) : PySem.W.keepIn K (.ref (T.a_BadSlip)) = true := (TopB.exc T 8 rfl : ExcT K mg "BadSlip").k
theorem Txt.b_BadSlip {K : PySem.W.Frag} {mg : Str → Option Value} (T : Txt K mg) : PySem.W.subIn K (.ref (T.a_BadSlip)) (.type "BaseException") = some true := (TopB.exc T 8 rfl : ExcT K mg "BadSlip").b
theorem Txt.t_BadSlip {K : PySem.W.Frag} {mg : Str → Option Value} (T : Txt K mg) : PySem.W.typeIn K (.ref (T.a_BadSlip)) = some (.type "type") := (TopB.exc T 8 rfl : ExcT K mg "BadSlip").t
theorem Txt.i_BadSlip {K : PySem.W.Frag} {mg : Str → Option Value} (T : Txt K mg) : PySem.W.isClsIn K (T.a_BadSlip) = true := (TopB.exc T 8 rfl : ExcT K mg "BadSlip").i
theorem Txt.h_BadSlip {K : PySem.W.Frag} {mg : Str → Option Value} (T : Txt K mg) : PySem.W.hasDictIn K (T.a_BadSlip) = true := (TopB.exc T 8 rfl : ExcT K mg "BadSlip").h
theorem Txt.ga_BadSlip {K : PySem.W.Frag} {mg : Str → Option Value} (T : Txt K mg) : PySem.W.findIn K (.ref (T.a_BadSlip)) "__getattribute__" = some (some (.builtin "BaseException.__getattribute__")) := (TopB.exc T 8 rfl : ExcT K mg "BadSlip").ga
theorem Txt.gg_BadSlip {K : PySem.W.Frag} {mg : Str → Option Value} (T : Txt K mg) : PySem.W.findIn K (.ref (T.a_BadSlip)) "__getattr__" = some none := (TopB.exc T 8 rfl : ExcT K mg "BadSlip").gg
theorem Txt.cl_BadSlip {K : PySem.W.Frag} {mg : Str → Option Value} (T : Txt K mg) : PySem.W.findIn K (.ref (T.a_BadSlip)) "__class__" = some (some (.builtin "object.__class__")) := (TopB.exc T 8 rfl : ExcT K mg "BadSlip").cl
theorem Txt.mo_BadSlip {K : PySem.W.Frag} {mg : Str → Option Value} (T : Txt K mg) : PySem.W.mroIn K (T.a_BadSlip) (.type "object") = some true := (TopB.exc T 8 rfl : ExcT K mg "BadSlip").mo
theorem Txt.s_BadSlip_MastError {K : PySem.W.Frag} {mg : Str → Option Value} (T : Txt K mg) : PySem.W.subIn K (.ref (T.a_BadSlip)) (.ref (He.ga K "MastError")) = some true := (TopB.exc T 8 rfl : ExcT K mg "BadSlip").s
abbrev Txt.a_Fogged {K : PySem.W.Frag} {mg : Str → Option Value} (T : Txt K mg) : Addr := He.ga K "Fogged"
theorem Txt.g_Fogged {K : PySem.W.Frag} {mg : Str → Option Value} (T : Txt K mg) : mg "Fogged" = some (.ref (T.a_Fogged)) := (TopB.exc T 9 rfl : ExcT K mg "Fogged").g
theorem Txt.x_Fogged {K : PySem.W.Frag} {mg : Str → Option Value} (T : Txt K mg) : PySem.W.excIn K (T.a_Fogged) He.veBase "ValueError.__new__" = true := (TopB.exc T 9 rfl : ExcT K mg "Fogged").x
theorem Txt.k_Fogged {K : PySem.W.Frag} {mg : Str → Option Value} (T : Txt K mg) : PySem.W.keepIn K (.ref (T.a_Fogged)) = true := (TopB.exc T 9 rfl : ExcT K mg "Fogged").k
theorem Txt.b_Fogged {K : PySem.W.Frag} {mg : Str → Option Value} (T : Txt K mg) : PySem.W.subIn K (.ref (T.a_Fogged)) (.type "BaseException") = some true := (TopB.exc T 9 rfl : ExcT K mg "Fogged").b
theorem Txt.t_Fogged {K : PySem.W.Frag} {mg : Str → Option Value} (T : Txt K mg) : PySem.W.typeIn K (.ref (T.a_Fogged)) = some (.type "type") := (TopB.exc T 9 rfl : ExcT K mg "Fogged").t
theorem Txt.i_Fogged {K : PySem.W.Frag} {mg : Str → Option Value} (T : Txt K mg) : PySem.W.isClsIn K (T.a_Fogged) = true := (TopB.exc T 9 rfl : ExcT K mg "Fogged").i
theorem Txt.h_Fogged {K : PySem.W.Frag} {mg : Str → Option Value} (T : Txt K mg) : PySem.W.hasDictIn K (T.a_Fogged) = true := (TopB.exc T 9 rfl : ExcT K mg "Fogged").h
theorem Txt.ga_Fogged {K : PySem.W.Frag} {mg : Str → Option Value} (T : Txt K mg) : PySem.W.findIn K (.ref (T.a_Fogged)) "__getattribute__" = some (some (.builtin "BaseException.__getattribute__")) := (TopB.exc T 9 rfl : ExcT K mg "Fogged").ga
theorem Txt.gg_Fogged {K : PySem.W.Frag} {mg : Str → Option Value} (T : Txt K mg) : PySem.W.findIn K (.ref (T.a_Fogged)) "__getattr__" = some none := (TopB.exc T 9 rfl : ExcT K mg "Fogged").gg
theorem Txt.cl_Fogged {K : PySem.W.Frag} {mg : Str → Option Value} (T : Txt K mg) : PySem.W.findIn K (.ref (T.a_Fogged)) "__class__" = some (some (.builtin "object.__class__")) := (TopB.exc T 9 rfl : ExcT K mg "Fogged").cl
theorem Txt.mo_Fogged {K : PySem.W.Frag} {mg : Str → Option Value} (T : Txt K mg) : PySem.W.mroIn K (T.a_Fogged) (.type "object") = some true := (TopB.exc T 9 rfl : ExcT K mg "Fogged").mo
theorem Txt.s_Fogged_MastError {K : PySem.W.Frag} {mg : Str → Option Value} (T : Txt K mg) : PySem.W.subIn K (.ref (T.a_Fogged)) (.ref (He.ga K "MastError")) = some true := (TopB.exc T 9 rfl : ExcT K mg "Fogged").s
abbrev Txt.a_Busy {K : PySem.W.Frag} {mg : Str → Option Value} (T : Txt K mg) : Addr := He.ga K "Busy"
theorem Txt.g_Busy {K : PySem.W.Frag} {mg : Str → Option Value} (T : Txt K mg) : mg "Busy" = some (.ref (T.a_Busy)) := (TopB.exc T 10 rfl : ExcT K mg "Busy").g
theorem Txt.x_Busy {K : PySem.W.Frag} {mg : Str → Option Value} (T : Txt K mg) : PySem.W.excIn K (T.a_Busy) He.veBase "ValueError.__new__" = true := (TopB.exc T 10 rfl : ExcT K mg "Busy").x
theorem Txt.k_Busy {K : PySem.W.Frag} {mg : Str → Option Value} (T : Txt K mg) : PySem.W.keepIn K (.ref (T.a_Busy)) = true := (TopB.exc T 10 rfl : ExcT K mg "Busy").k
theorem Txt.b_Busy {K : PySem.W.Frag} {mg : Str → Option Value} (T : Txt K mg) : PySem.W.subIn K (.ref (T.a_Busy)) (.type "BaseException") = some true := (TopB.exc T 10 rfl : ExcT K mg "Busy").b
theorem Txt.t_Busy {K : PySem.W.Frag} {mg : Str → Option Value} (T : Txt K mg) : PySem.W.typeIn K (.ref (T.a_Busy)) = some (.type "type") := (TopB.exc T 10 rfl : ExcT K mg "Busy").t
theorem Txt.i_Busy {K : PySem.W.Frag} {mg : Str → Option Value} (T : Txt K mg) : PySem.W.isClsIn K (T.a_Busy) = true := (TopB.exc T 10 rfl : ExcT K mg "Busy").i
theorem Txt.h_Busy {K : PySem.W.Frag} {mg : Str → Option Value} (T : Txt K mg) : PySem.W.hasDictIn K (T.a_Busy) = true := (TopB.exc T 10 rfl : ExcT K mg "Busy").h
theorem Txt.ga_Busy {K : PySem.W.Frag} {mg : Str → Option Value} (T : Txt K mg) : PySem.W.findIn K (.ref (T.a_Busy)) "__getattribute__" = some (some (.builtin "BaseException.__getattribute__")) := (TopB.exc T 10 rfl : ExcT K mg "Busy").ga
theorem Txt.gg_Busy {K : PySem.W.Frag} {mg : Str → Option Value} (T : Txt K mg) : PySem.W.findIn K (.ref (T.a_Busy)) "__getattr__" = some none := (TopB.exc T 10 rfl : ExcT K mg "Busy").gg
theorem Txt.cl_Busy {K : PySem.W.Frag} {mg : Str → Option Value} (T : Txt K mg) : PySem.W.findIn K (.ref (T.a_Busy)) "__class__" = some (some (.builtin "object.__class__")) := (TopB.exc T 10 rfl : ExcT K mg "Busy").cl
theorem Txt.mo_Busy {K : PySem.W.Frag} {mg : Str → Option Value} (T : Txt K mg) : PySem.W.mroIn K (T.a_Busy) (.type "object") = some true := (TopB.exc T 10 rfl : ExcT K mg "Busy").mo
theorem Txt.s_Busy_MastError {K : PySem.W.Frag} {mg : Str → Option Value} (T : Txt K mg) : PySem.W.subIn K (.ref (T.a_Busy)) (.ref (He.ga K "MastError")) = some true := (TopB.exc T 10 rfl : ExcT K mg "Busy").s
abbrev Txt.a_NoRow {K : PySem.W.Frag} {mg : Str → Option Value} (T : Txt K mg) : Addr := He.ga K "NoRow"
theorem Txt.g_NoRow {K : PySem.W.Frag} {mg : Str → Option Value} (T : Txt K mg) : mg "NoRow" = some (.ref (T.a_NoRow)) := (TopB.exc T 11 rfl : ExcT K mg "NoRow").g
theorem Txt.x_NoRow {K : PySem.W.Frag} {mg : Str → Option Value} (T : Txt K mg) : PySem.W.excIn K (T.a_NoRow) He.veBase "ValueError.__new__" = true := (TopB.exc T 11 rfl : ExcT K mg "NoRow").x
theorem Txt.k_NoRow {K : PySem.W.Frag} {mg : Str → Option Value} (T : Txt K mg) : PySem.W.keepIn K (.ref (T.a_NoRow)) = true := (TopB.exc T 11 rfl : ExcT K mg "NoRow").k
theorem Txt.b_NoRow {K : PySem.W.Frag} {mg : Str → Option Value} (T : Txt K mg) : PySem.W.subIn K (.ref (T.a_NoRow)) (.type "BaseException") = some true := (TopB.exc T 11 rfl : ExcT K mg "NoRow").b
theorem Txt.t_NoRow {K : PySem.W.Frag} {mg : Str → Option Value} (T : Txt K mg) : PySem.W.typeIn K (.ref (T.a_NoRow)) = some (.type "type") := (TopB.exc T 11 rfl : ExcT K mg "NoRow").t
theorem Txt.i_NoRow {K : PySem.W.Frag} {mg : Str → Option Value} (T : Txt K mg) : PySem.W.isClsIn K (T.a_NoRow) = true := (TopB.exc T 11 rfl : ExcT K mg "NoRow").i
theorem Txt.h_NoRow {K : PySem.W.Frag} {mg : Str → Option Value} (T : Txt K mg) : PySem.W.hasDictIn K (T.a_NoRow) = true := (TopB.exc T 11 rfl : ExcT K mg "NoRow").h
theorem Txt.ga_NoRow {K : PySem.W.Frag} {mg : Str → Option Value} (T : Txt K mg) : PySem.W.findIn K (.ref (T.a_NoRow)) "__getattribute__" = some (some (.builtin "BaseException.__getattribute__")) := (TopB.exc T 11 rfl : ExcT K mg "NoRow").ga
theorem Txt.gg_NoRow {K : PySem.W.Frag} {mg : Str → Option Value} (T : Txt K mg) : PySem.W.findIn K (.ref (T.a_NoRow)) "__getattr__" = some none := (TopB.exc T 11 rfl : ExcT K mg "NoRow").gg
theorem Txt.cl_NoRow {K : PySem.W.Frag} {mg : Str → Option Value} (T : Txt K mg) : PySem.W.findIn K (.ref (T.a_NoRow)) "__class__" = some (some (.builtin "object.__class__")) := (TopB.exc T 11 rfl : ExcT K mg "NoRow").cl
theorem Txt.mo_NoRow {K : PySem.W.Frag} {mg : Str → Option Value} (T : Txt K mg) : PySem.W.mroIn K (T.a_NoRow) (.type "object") = some true := (TopB.exc T 11 rfl : ExcT K mg "NoRow").mo
theorem Txt.s_NoRow_MastError {K : PySem.W.Frag} {mg : Str → Option Value} (T : Txt K mg) : PySem.W.subIn K (.ref (T.a_NoRow)) (.ref (He.ga K "MastError")) = some true := (TopB.exc T 11 rfl : ExcT K mg "NoRow").s
abbrev Txt.a_NoBook {K : PySem.W.Frag} {mg : Str → Option Value} (T : Txt K mg) : Addr := He.ga K "NoBook"
theorem Txt.g_NoBook {K : PySem.W.Frag} {mg : Str → Option Value} (T : Txt K mg) : mg "NoBook" = some (.ref (T.a_NoBook)) := (TopB.exc T 12 rfl : ExcT K mg "NoBook").g
theorem Txt.x_NoBook {K : PySem.W.Frag} {mg : Str → Option Value} (T : Txt K mg) : PySem.W.excIn K (T.a_NoBook) He.veBase "ValueError.__new__" = true := (TopB.exc T 12 rfl : ExcT K mg "NoBook").x
theorem Txt.k_NoBook {K : PySem.W.Frag} {mg : Str → Option Value} (T : Txt K mg) : PySem.W.keepIn K (.ref (T.a_NoBook)) = true := (TopB.exc T 12 rfl : ExcT K mg "NoBook").k
theorem Txt.b_NoBook {K : PySem.W.Frag} {mg : Str → Option Value} (T : Txt K mg) : PySem.W.subIn K (.ref (T.a_NoBook)) (.type "BaseException") = some true := (TopB.exc T 12 rfl : ExcT K mg "NoBook").b
theorem Txt.t_NoBook {K : PySem.W.Frag} {mg : Str → Option Value} (T : Txt K mg) : PySem.W.typeIn K (.ref (T.a_NoBook)) = some (.type "type") := (TopB.exc T 12 rfl : ExcT K mg "NoBook").t
theorem Txt.i_NoBook {K : PySem.W.Frag} {mg : Str → Option Value} (T : Txt K mg) : PySem.W.isClsIn K (T.a_NoBook) = true := (TopB.exc T 12 rfl : ExcT K mg "NoBook").i
theorem Txt.h_NoBook {K : PySem.W.Frag} {mg : Str → Option Value} (T : Txt K mg) : PySem.W.hasDictIn K (T.a_NoBook) = true := (TopB.exc T 12 rfl : ExcT K mg "NoBook").h
theorem Txt.ga_NoBook {K : PySem.W.Frag} {mg : Str → Option Value} (T : Txt K mg) : PySem.W.findIn K (.ref (T.a_NoBook)) "__getattribute__" = some (some (.builtin "BaseException.__getattribute__")) := (TopB.exc T 12 rfl : ExcT K mg "NoBook").ga
theorem Txt.gg_NoBook {K : PySem.W.Frag} {mg : Str → Option Value} (T : Txt K mg) : PySem.W.findIn K (.ref (T.a_NoBook)) "__getattr__" = some none := (TopB.exc T 12 rfl : ExcT K mg "NoBook").gg
theorem Txt.cl_NoBook {K : PySem.W.Frag} {mg : Str → Option Value} (T : Txt K mg) : PySem.W.findIn K (.ref (T.a_NoBook)) "__class__" = some (some (.builtin "object.__class__")) := (TopB.exc T 12 rfl : ExcT K mg "NoBook").cl
theorem Txt.mo_NoBook {K : PySem.W.Frag} {mg : Str → Option Value} (T : Txt K mg) : PySem.W.mroIn K (T.a_NoBook) (.type "object") = some true := (TopB.exc T 12 rfl : ExcT K mg "NoBook").mo
theorem Txt.s_NoBook_MastError {K : PySem.W.Frag} {mg : Str → Option Value} (T : Txt K mg) : PySem.W.subIn K (.ref (T.a_NoBook)) (.ref (He.ga K "MastError")) = some true := (TopB.exc T 12 rfl : ExcT K mg "NoBook").s
abbrev Txt.a_Lost {K : PySem.W.Frag} {mg : Str → Option Value} (T : Txt K mg) : Addr := He.ga K "Lost"
theorem Txt.g_Lost {K : PySem.W.Frag} {mg : Str → Option Value} (T : Txt K mg) : mg "Lost" = some (.ref (T.a_Lost)) := (TopB.exc T 13 rfl : ExcT K mg "Lost").g
theorem Txt.x_Lost {K : PySem.W.Frag} {mg : Str → Option Value} (T : Txt K mg) : PySem.W.excIn K (T.a_Lost) He.veBase "ValueError.__new__" = true := (TopB.exc T 13 rfl : ExcT K mg "Lost").x
theorem Txt.k_Lost {K : PySem.W.Frag} {mg : Str → Option Value} (T : Txt K mg) : PySem.W.keepIn K (.ref (T.a_Lost)) = true := (TopB.exc T 13 rfl : ExcT K mg "Lost").k
theorem Txt.b_Lost {K : PySem.W.Frag} {mg : Str → Option Value} (T : Txt K mg) : PySem.W.subIn K (.ref (T.a_Lost)) (.type "BaseException") = some true := (TopB.exc T 13 rfl : ExcT K mg "Lost").b
theorem Txt.t_Lost {K : PySem.W.Frag} {mg : Str → Option Value} (T : Txt K mg) : PySem.W.typeIn K (.ref (T.a_Lost)) = some (.type "type") := (TopB.exc T 13 rfl : ExcT K mg "Lost").t
theorem Txt.i_Lost {K : PySem.W.Frag} {mg : Str → Option Value} (T : Txt K mg) : PySem.W.isClsIn K (T.a_Lost) = true := (TopB.exc T 13 rfl : ExcT K mg "Lost").i
theorem Txt.h_Lost {K : PySem.W.Frag} {mg : Str → Option Value} (T : Txt K mg) : PySem.W.hasDictIn K (T.a_Lost) = true := (TopB.exc T 13 rfl : ExcT K mg "Lost").h
theorem Txt.ga_Lost {K : PySem.W.Frag} {mg : Str → Option Value} (T : Txt K mg) : PySem.W.findIn K (.ref (T.a_Lost)) "__getattribute__" = some (some (.builtin "BaseException.__getattribute__")) := (TopB.exc T 13 rfl : ExcT K mg "Lost").ga
theorem Txt.gg_Lost {K : PySem.W.Frag} {mg : Str → Option Value} (T : Txt K mg) : PySem.W.findIn K (.ref (T.a_Lost)) "__getattr__" = some none := (TopB.exc T 13 rfl : ExcT K mg "Lost").gg
theorem Txt.cl_Lost {K : PySem.W.Frag} {mg : Str → Option Value} (T : Txt K mg) : PySem.W.findIn K (.ref (T.a_Lost)) "__class__" = some (some (.builtin "object.__class__")) := (TopB.exc T 13 rfl : ExcT K mg "Lost").cl
theorem Txt.mo_Lost {K : PySem.W.Frag} {mg : Str → Option Value} (T : Txt K mg) : PySem.W.mroIn K (T.a_Lost) (.type "object") = some true := (TopB.exc T 13 rfl : ExcT K mg "Lost").mo
theorem Txt.s_Lost_MastError {K : PySem.W.Frag} {mg : Str → Option Value} (T : Txt K mg) : PySem.W.subIn K (.ref (T.a_Lost)) (.ref (He.ga K "MastError")) = some true := (TopB.exc T 13 rfl : ExcT K mg "Lost").s
abbrev Txt.a_BadPlace {K : PySem.W.Frag} {mg : Str → Option Value} (T : Txt K mg) : Addr := He.ga K "BadPlace"
theorem Txt.g_BadPlace {K : PySem.W.Frag} {mg : Str → Option Value} (T : Txt K mg) : mg "BadPlace" = some (.ref (T.a_BadPlace)) := (TopB.exc T 14 rfl : ExcT K mg "BadPlace").g
theorem Txt.x_BadPlace {K : PySem.W.Frag} {mg : Str → Option Value} (T : Txt K mg) : PySem.W.excIn K (T.a_BadPlace) He.veBase "ValueError.__new__" = true := (TopB.exc T 14 rfl : ExcT K mg "BadPlace").x
theorem Txt.k_BadPlace {K : PySem.W.Frag} {mg : Str → Option Value} (T : Txt K mg) : PySem.W.keepIn K (.ref (T.a_BadPlace)) = true := (TopB.exc T 14 rfl : ExcT K mg "BadPlace").k
theorem Txt.b_BadPlace {K : PySem.W.Frag} {mg : Str → Option Value} (T : Txt K mg) : PySem.W.subIn K (.ref (T.a_BadPlace)) (.type "BaseException") = some true := (TopB.exc T 14 rfl : ExcT K mg "BadPlace").b
theorem Txt.t_BadPlace {K : PySem.W.Frag} {mg : Str → Option Value} (T : Txt K mg) : PySem.W.typeIn K (.ref (T.a_BadPlace)) = some (.type "type") := (TopB.exc T 14 rfl : ExcT K mg "BadPlace").t
theorem Txt.i_BadPlace {K : PySem.W.Frag} {mg : Str → Option Value} (T : Txt K mg) : PySem.W.isClsIn K (T.a_BadPlace) = true := (TopB.exc T 14 rfl : ExcT K mg "BadPlace").i
theorem Txt.h_BadPlace {K : PySem.W.Frag} {mg : Str → Option Value} (T : Txt K mg) : PySem.W.hasDictIn K (T.a_BadPlace) = true := (TopB.exc T 14 rfl : ExcT K mg "BadPlace").h
theorem Txt.ga_BadPlace {K : PySem.W.Frag} {mg : Str → Option Value} (T : Txt K mg) : PySem.W.findIn K (.ref (T.a_BadPlace)) "__getattribute__" = some (some (.builtin "BaseException.__getattribute__")) := (TopB.exc T 14 rfl : ExcT K mg "BadPlace").ga
theorem Txt.gg_BadPlace {K : PySem.W.Frag} {mg : Str → Option Value} (T : Txt K mg) : PySem.W.findIn K (.ref (T.a_BadPlace)) "__getattr__" = some none := (TopB.exc T 14 rfl : ExcT K mg "BadPlace").gg
theorem Txt.cl_BadPlace {K : PySem.W.Frag} {mg : Str → Option Value} (T : Txt K mg) : PySem.W.findIn K (.ref (T.a_BadPlace)) "__class__" = some (some (.builtin "object.__class__")) := (TopB.exc T 14 rfl : ExcT K mg "BadPlace").cl
theorem Txt.mo_BadPlace {K : PySem.W.Frag} {mg : Str → Option Value} (T : Txt K mg) : PySem.W.mroIn K (T.a_BadPlace) (.type "object") = some true := (TopB.exc T 14 rfl : ExcT K mg "BadPlace").mo
theorem Txt.s_BadPlace_MastError {K : PySem.W.Frag} {mg : Str → Option Value} (T : Txt K mg) : PySem.W.subIn K (.ref (T.a_BadPlace)) (.ref (He.ga K "MastError")) = some true := (TopB.exc T 14 rfl : ExcT K mg "BadPlace").s
abbrev Txt.a_BadWord {K : PySem.W.Frag} {mg : Str → Option Value} (T : Txt K mg) : Addr := He.ga K "BadWord"
theorem Txt.g_BadWord {K : PySem.W.Frag} {mg : Str → Option Value} (T : Txt K mg) : mg "BadWord" = some (.ref (T.a_BadWord)) := (TopB.exc T 15 rfl : ExcT K mg "BadWord").g
theorem Txt.x_BadWord {K : PySem.W.Frag} {mg : Str → Option Value} (T : Txt K mg) : PySem.W.excIn K (T.a_BadWord) He.veBase "ValueError.__new__" = true := (TopB.exc T 15 rfl : ExcT K mg "BadWord").x
theorem Txt.k_BadWord {K : PySem.W.Frag} {mg : Str → Option Value} (T : Txt K mg) : PySem.W.keepIn K (.ref (T.a_BadWord)) = true := (TopB.exc T 15 rfl : ExcT K mg "BadWord").k
theorem Txt.b_BadWord {K : PySem.W.Frag} {mg : Str → Option Value} (T : Txt K mg) : PySem.W.subIn K (.ref (T.a_BadWord)) (.type "BaseException") = some true := (TopB.exc T 15 rfl : ExcT K mg "BadWord").b
theorem Txt.t_BadWord {K : PySem.W.Frag} {mg : Str → Option Value} (T : Txt K mg) : PySem.W.typeIn K (.ref (T.a_BadWord)) = some (.type "type") := (TopB.exc T 15 rfl : ExcT K mg "BadWord").t
theorem Txt.i_BadWord {K : PySem.W.Frag} {mg : Str → Option Value} (T : Txt K mg) : PySem.W.isClsIn K (T.a_BadWord) = true := (TopB.exc T 15 rfl : ExcT K mg "BadWord").i
theorem Txt.h_BadWord {K : PySem.W.Frag} {mg : Str → Option Value} (T : Txt K mg) : PySem.W.hasDictIn K (T.a_BadWord) = true := (TopB.exc T 15 rfl : ExcT K mg "BadWord").h
theorem Txt.ga_BadWord {K : PySem.W.Frag} {mg : Str → Option Value} (T : Txt K mg) : PySem.W.findIn K (.ref (T.a_BadWord)) "__getattribute__" = some (some (.builtin "BaseException.__getattribute__")) := (TopB.exc T 15 rfl : ExcT K mg "BadWord").ga
theorem Txt.gg_BadWord {K : PySem.W.Frag} {mg : Str → Option Value} (T : Txt K mg) : PySem.W.findIn K (.ref (T.a_BadWord)) "__getattr__" = some none := (TopB.exc T 15 rfl : ExcT K mg "BadWord").gg
theorem Txt.cl_BadWord {K : PySem.W.Frag} {mg : Str → Option Value} (T : Txt K mg) : PySem.W.findIn K (.ref (T.a_BadWord)) "__class__" = some (some (.builtin "object.__class__")) := (TopB.exc T 15 rfl : ExcT K mg "BadWord").cl
theorem Txt.mo_BadWord {K : PySem.W.Frag} {mg : Str → Option Value} (T : Txt K mg) : PySem.W.mroIn K (T.a_BadWord) (.type "object") = some true := (TopB.exc T 15 rfl : ExcT K mg "BadWord").mo
theorem Txt.s_BadWord_MastError {K : PySem.W.Frag} {mg : Str → Option Value} (T : Txt K mg) : PySem.W.subIn K (.ref (T.a_BadWord)) (.ref (He.ga K "MastError")) = some true := (TopB.exc T 15 rfl : ExcT K mg "BadWord").s
abbrev Txt.a_Taken {K : PySem.W.Frag} {mg : Str → Option Value} (T : Txt K mg) : Addr := He.ga K "Taken"
theorem Txt.g_Taken {K : PySem.W.Frag} {mg : Str → Option Value} (T : Txt K mg) : mg "Taken" = some (.ref (T.a_Taken)) := (TopB.exc T 16 rfl : ExcT K mg "Taken").g
theorem Txt.x_Taken {K : PySem.W.Frag} {mg : Str → Option Value} (T : Txt K mg) : PySem.W.excIn K (T.a_Taken) He.veBase "ValueError.__new__" = true := (TopB.exc T 16 rfl : ExcT K mg "Taken").x
theorem Txt.k_Taken {K : PySem.W.Frag} {mg : Str → Option Value} (T : Txt K mg) : PySem.W.keepIn K (.ref (T.a_Taken)) = true := (TopB.exc T 16 rfl : ExcT K mg "Taken").k
theorem Txt.b_Taken {K : PySem.W.Frag} {mg : Str → Option Value} (T : Txt K mg) : PySem.W.subIn K (.ref (T.a_Taken)) (.type "BaseException") = some true := (TopB.exc T 16 rfl : ExcT K mg "Taken").b
theorem Txt.t_Taken {K : PySem.W.Frag} {mg : Str → Option Value} (T : Txt K mg) : PySem.W.typeIn K (.ref (T.a_Taken)) = some (.type "type") := (TopB.exc T 16 rfl : ExcT K mg "Taken").t
theorem Txt.i_Taken {K : PySem.W.Frag} {mg : Str → Option Value} (T : Txt K mg) : PySem.W.isClsIn K (T.a_Taken) = true := (TopB.exc T 16 rfl : ExcT K mg "Taken").i
theorem Txt.h_Taken {K : PySem.W.Frag} {mg : Str → Option Value} (T : Txt K mg) : PySem.W.hasDictIn K (T.a_Taken) = true := (TopB.exc T 16 rfl : ExcT K mg "Taken").h
theorem Txt.ga_Taken {K : PySem.W.Frag} {mg : Str → Option Value} (T : Txt K mg) : PySem.W.findIn K (.ref (T.a_Taken)) "__getattribute__" = some (some (.builtin "BaseException.__getattribute__")) := (TopB.exc T 16 rfl : ExcT K mg "Taken").ga
theorem Txt.gg_Taken {K : PySem.W.Frag} {mg : Str → Option Value} (T : Txt K mg) : PySem.W.findIn K (.ref (T.a_Taken)) "__getattr__" = some none := (TopB.exc T 16 rfl : ExcT K mg "Taken").gg
theorem Txt.cl_Taken {K : PySem.W.Frag} {mg : Str → Option Value} (T : Txt K mg) : PySem.W.findIn K (.ref (T.a_Taken)) "__class__" = some (some (.builtin "object.__class__")) := (TopB.exc T 16 rfl : ExcT K mg "Taken").cl
theorem Txt.mo_Taken {K : PySem.W.Frag} {mg : Str → Option Value} (T : Txt K mg) : PySem.W.mroIn K (T.a_Taken) (.type "object") = some true := (TopB.exc T 16 rfl : ExcT K mg "Taken").mo
theorem Txt.s_Taken_MastError {K : PySem.W.Frag} {mg : Str → Option Value} (T : Txt K mg) : PySem.W.subIn K (.ref (T.a_Taken)) (.ref (He.ga K "MastError")) = some true := (TopB.exc T 16 rfl : ExcT K mg "Taken").s
abbrev Txt.a_Known {K : PySem.W.Frag} {mg : Str → Option Value} (T : Txt K mg) : Addr := He.ga K "Known"
theorem Txt.g_Known {K : PySem.W.Frag} {mg : Str → Option Value} (T : Txt K mg) : mg "Known" = some (.ref (T.a_Known)) := (TopB.exc T 17 rfl : ExcT K mg "Known").g
theorem Txt.x_Known {K : PySem.W.Frag} {mg : Str → Option Value} (T : Txt K mg) : PySem.W.excIn K (T.a_Known) He.veBase "ValueError.__new__" = true := (TopB.exc T 17 rfl : ExcT K mg "Known").x
theorem Txt.k_Known {K : PySem.W.Frag} {mg : Str → Option Value} (T : Txt K mg) : PySem.W.keepIn K (.ref (T.a_Known)) = true := (TopB.exc T 17 rfl : ExcT K mg "Known").k
theorem Txt.b_Known {K : PySem.W.Frag} {mg : Str → Option Value} (T : Txt K mg) : PySem.W.subIn K (.ref (T.a_Known)) (.type "BaseException") = some true := (TopB.exc T 17 rfl : ExcT K mg "Known").b
theorem Txt.t_Known {K : PySem.W.Frag} {mg : Str → Option Value} (T : Txt K mg) : PySem.W.typeIn K (.ref (T.a_Known)) = some (.type "type") := (TopB.exc T 17 rfl : ExcT K mg "Known").t
theorem Txt.i_Known {K : PySem.W.Frag} {mg : Str → Option Value} (T : Txt K mg) : PySem.W.isClsIn K (T.a_Known) = true := (TopB.exc T 17 rfl : ExcT K mg "Known").i
theorem Txt.h_Known {K : PySem.W.Frag} {mg : Str → Option Value} (T : Txt K mg) : PySem.W.hasDictIn K (T.a_Known) = true := (TopB.exc T 17 rfl : ExcT K mg "Known").h
theorem Txt.ga_Known {K : PySem.W.Frag} {mg : Str → Option Value} (T : Txt K mg) : PySem.W.findIn K (.ref (T.a_Known)) "__getattribute__" = some (some (.builtin "BaseException.__getattribute__")) := (TopB.exc T 17 rfl : ExcT K mg "Known").ga
theorem Txt.gg_Known {K : PySem.W.Frag} {mg : Str → Option Value} (T : Txt K mg) : PySem.W.findIn K (.ref (T.a_Known)) "__getattr__" = some none := (TopB.exc T 17 rfl : ExcT K mg "Known").gg
theorem Txt.cl_Known {K : PySem.W.Frag} {mg : Str → Option Value} (T : Txt K mg) : PySem.W.findIn K (.ref (T.a_Known)) "__class__" = some (some (.builtin "object.__class__")) := (TopB.exc T 17 rfl : ExcT K mg "Known").cl
theorem Txt.mo_Known {K : PySem.W.Frag} {mg : Str → Option Value} (T : Txt K mg) : PySem.W.mroIn K (T.a_Known) (.type "object") = some true := (TopB.exc T 17 rfl : ExcT K mg "Known").mo
theorem Txt.s_Known_MastError {K : PySem.W.Frag} {mg : Str → Option Value} (T : Txt K mg) : PySem.W.subIn K (.ref (T.a_Known)) (.ref (He.ga K "MastError")) = some true := (TopB.exc T 17 rfl : ExcT K mg "Known").s
abbrev Txt.a_NoWord {K : PySem.W.Frag} {mg : Str → Option Value} (T : Txt K mg) : Addr := He.ga K "NoWord"
theorem Txt.g_NoWord {K : PySem.W.Frag} {mg : Str → Option Value} (T : Txt K mg) : mg "NoWord" = some (.ref (T.a_NoWord)) := (TopB.exc T 18 rfl : ExcT K mg "NoWord").g
theorem Txt.x_NoWord {K : PySem.W.Frag} {mg : Str → Option Value} (T : Txt K mg) : PySem.W.excIn K (T.a_NoWord) He.veBase "ValueError.__new__" = true := (TopB.exc T 18 rfl : ExcT K mg "NoWord").x
theorem Txt.k_NoWord {K : PySem.W.Frag} {mg : Str → Option Value} (T : Txt K mg) : PySem.W.keepIn K (.ref (T.a_NoWord)) = true := (TopB.exc T 18 rfl : ExcT K mg "NoWord").k
theorem Txt.b_NoWord {K : PySem.W.Frag} {mg : Str → Option Value} (T : Txt K mg) : PySem.W.subIn K (.ref (T.a_NoWord)) (.type "BaseException") = some true := (TopB.exc T 18 rfl : ExcT K mg "NoWord").b
theorem Txt.t_NoWord {K : PySem.W.Frag} {mg : Str → Option Value} (T : Txt K mg) : PySem.W.typeIn K (.ref (T.a_NoWord)) = some (.type "type") := (TopB.exc T 18 rfl : ExcT K mg "NoWord").t
theorem Txt.i_NoWord {K : PySem.W.Frag} {mg : Str → Option Value} (T : Txt K mg) : PySem.W.isClsIn K (T.a_NoWord) = true := (TopB.exc T 18 rfl : ExcT K mg "NoWord").i
theorem Txt.h_NoWord {K : PySem.W.Frag} {mg : Str → Option Value} (T : Txt K mg) : PySem.W.hasDictIn K (T.a_NoWord) = true := (TopB.exc T 18 rfl : ExcT K mg "NoWord").h
theorem Txt.ga_NoWord {K : PySem.W.Frag} {mg : Str → Option Value} (T : Txt K mg) : PySem.W.findIn K (.ref (T.a_NoWord)) "__getattribute__" = some (some (.builtin "BaseException.__getattribute__")) := (TopB.exc T 18 rfl : ExcT K mg "NoWord").ga
theorem Txt.gg_NoWord {K : PySem.W.Frag} {mg : Str → Option Value} (T : Txt K mg) : PySem.W.findIn K (.ref (T.a_NoWord)) "__getattr__" = some none := (TopB.exc T 18 rfl : ExcT K mg "NoWord").gg
theorem Txt.cl_NoWord {K : PySem.W.Frag} {mg : Str → Option Value} (T : Txt K mg) : PySem.W.findIn K (.ref (T.a_NoWord)) "__class__" = some (some (.builtin "object.__class__")) := (TopB.exc T 18 rfl : ExcT K mg "NoWord").cl
theorem Txt.mo_NoWord {K : PySem.W.Frag} {mg : Str → Option Value} (T : Txt K mg) : PySem.W.mroIn K (T.a_NoWord) (.type "object") = some true := (TopB.exc T 18 rfl : ExcT K mg "NoWord").mo
theorem Txt.s_NoWord_MastError {K : PySem.W.Frag} {mg : Str → Option Value} (T : Txt K mg) : PySem.W.subIn K (.ref (T.a_NoWord)) (.ref (He.ga K "MastError")) = some true := (TopB.exc T 18 rfl : ExcT K mg "NoWord").s
abbrev Txt.a_Phrasebook {K : PySem.W.Frag} {mg : Str → Option Value} (T : Txt K mg) : Addr := He.ga K "Phrasebook"
theorem Txt.g_Phrasebook {K : PySem.W.Frag} {mg : Str → Option Value} (T : Txt K mg) : mg "Phrasebook" = some (.ref (T.a_Phrasebook)) := TopB.glo T 1 rfl
theorem Txt.cl_Phrasebook {K : PySem.W.Frag} {mg : Str → Option Value} (T : Txt K mg) : Cls K (T.a_Phrasebook) := He.cls_ok (TopB.one T (f := .cls "Phrasebook") 2 rfl)
theorem Txt.n_Phrasebook_word_by_place {K : PySem.W.Frag} {mg : Str → Option Value} (T : Txt K mg) : NoAttr K (T.a_Phrasebook) "word_by_place" := He.noat_ok (TopB.one T (f := .noat "Phrasebook" "word_by_place") 3 rfl)
theorem Txt.n_Phrasebook_place_by_word {K : PySem.W.Frag} {mg : Str → Option Value} (T : Txt K mg) : NoAttr K (T.a_Phrasebook) "place_by_word" := He.noat_ok (TopB.one T (f := .noat "Phrasebook" "place_by_word") 4 rfl)
theorem Txt.K_Phrasebook {K : PySem.W.Frag} {mg : Str → Option Value} (T : Txt K mg) : Mk K (T.a_Phrasebook) (He.fAd K ("Phrasebook", some "__init__")) := He.mkr_ok (TopB.one T (f := .mkr "Phrasebook") 5 rfl)
abbrev Txt.a_Motion {K : PySem.W.Frag} {mg : Str → Option Value} (T : Txt K mg) : Addr := He.ga K "Motion"
theorem Txt.g_Motion {K : PySem.W.Frag} {mg : Str → Option Value} (T : Txt K mg) : mg "Motion" = some (.ref (T.a_Motion)) := TopB.glo T 6 rfl
theorem Txt.cl_Motion {K : PySem.W.Frag} {mg : Str → Option Value} (T : Txt K mg) : Cls K (T.a_Motion) := He.cls_ok (TopB.one T (f := .cls "Motion") 7 rfl)
theorem Txt.n_Motion_shown {K : PySem.W.Frag} {mg : Str → Option Value} (T : Txt K mg) : NoAttr K (T.a_Motion) "shown" := He.noat_ok (TopB.one T (f := .noat "Motion" "shown") 8 rfl)
theorem Txt.n_Motion_queue {K : PySem.W.Frag} {mg : Str → Option Value} (T : Txt K mg) : NoAttr K (T.a_Motion) "queue" := He.noat_ok (TopB.one T (f := .noat "Motion" "queue") 9 rfl)
theorem Txt.n_Motion_sleepers {K : PySem.W.Frag} {mg : Str → Option Value} (T : Txt K mg) : NoAttr K (T.a_Motion) "sleepers" := He.noat_ok (TopB.one T (f := .noat "Motion" "sleepers") 10 rfl)
theorem Txt.n_Motion_fogged {K : PySem.W.Frag} {mg : Str → Option Value} (T : Txt K mg) : NoAttr K (T.a_Motion) "fogged" := He.noat_ok (TopB.one T (f := .noat "Motion" "fogged") 11 rfl)
theorem Txt.n_Motion_written {K : PySem.W.Frag} {mg : Str → Option Value} (T : Txt K mg) : NoAttr K (T.a_Motion) "written" := He.noat_ok (TopB.one T (f := .noat "Motion" "written") 12 rfl)
theorem Txt.K_Motion {K : PySem.W.Frag} {mg : Str → Option Value} (T : Txt K mg) : Mk K (T.a_Motion) (He.fAd K ("Motion", some "__init__")) := He.mkr_ok (TopB.one T (f := .mkr "Motion") 13 rfl)
abbrev Txt.a_State {K : PySem.W.Frag} {mg : Str → Option Value} (T : Txt K mg) : Addr := He.ga K "State"
theorem Txt.g_State {K : PySem.W.Frag} {mg : Str → Option Value} (T : Txt K mg) : mg "State" = some (.ref (T.a_State)) := TopB.glo T 14 rfl
theorem Txt.cl_State {K : PySem.W.Frag} {mg : Str → Option Value} (T : Txt K mg) : Cls K (T.a_State) := He.cls_ok (TopB.one T (f := .cls "State") 15 rfl)
theorem Txt.n_State_rows {K : PySem.W.Frag} {mg : Str → Option Value} (T : Txt K mg) : NoAttr K (T.a_State) "rows" := He.noat_ok (TopB.one T (f := .noat "State" "rows") 16 rfl)
theorem Txt.n_State_phrasebook {K : PySem.W.Frag} {mg : Str → Option Value} (T : Txt K mg) : NoAttr K (T.a_State) "phrasebook" := He.noat_ok (TopB.one T (f := .noat "State" "phrasebook") 17 rfl)
theorem Txt.K_State {K : PySem.W.Frag} {mg : Str → Option Value} (T : Txt K mg) : Mk K (T.a_State) (He.fAd K ("State", some "__init__")) := He.mkr_ok (TopB.one T (f := .mkr "State") 18 rfl)
abbrev Txt.a_Line {K : PySem.W.Frag} {mg : Str → Option Value} (T : Txt K mg) : Addr := He.ga K "Line"
theorem Txt.g_Line {K : PySem.W.Frag} {mg : Str → Option Value} (T : Txt K mg) : mg "Line" = some (.ref (T.a_Line)) := TopB.glo T 19 rfl
theorem Txt.cl_Line {K : PySem.W.Frag} {mg : Str → Option Value} (T : Txt K mg) : Cls K (T.a_Line) := He.cls_ok (TopB.one T (f := .cls "Line") 20 rfl)
theorem Txt.n_Line_state {K : PySem.W.Frag} {mg : Str → Option Value} (T : Txt K mg) : NoAttr K (T.a_Line) "state" := He.noat_ok (TopB.one T (f := .noat "Line" "state") 21 rfl)
theorem Txt.n_Line_past {K : PySem.W.Frag} {mg : Str → Option Value} (T : Txt K mg) : NoAttr K (T.a_Line) "past" := He.noat_ok (TopB.one T (f := .noat "Line" "past") 22 rfl)
theorem Txt.n_Line_future {K : PySem.W.Frag} {mg : Str → Option Value} (T : Txt K mg) : NoAttr K (T.a_Line) "future" := He.noat_ok (TopB.one T (f := .noat "Line" "future") 23 rfl)
theorem Txt.K_Line {K : PySem.W.Frag} {mg : Str → Option Value} (T : Txt K mg) : Mk K (T.a_Line) (He.fAd K ("Line", some "__init__")) := He.mkr_ok (TopB.one T (f := .mkr "Line") 24 rfl)
abbrev Txt.f_p_reason {K : PySem.W.Frag} {mg : Str → Option Value} (T : Txt K mg) : Addr := He.fAd K ("reason", none)
abbrev Txt.d_p_reason {K : PySem.W.Frag} {mg : Str → Option Value} (T : Txt K mg) : FuncData := fdOf K (He.fAd K ("reason", none))
theorem Txt.F_p_reason {K : PySem.W.Frag} {mg : Str → Option Value} (T : Txt K mg) : Fun K "reason" "reason" s_p_reason (T.f_p_reason) (T.d_p_reason) := TopB.fun_ T (a := ("reason", none)) 0 rfl
theorem Txt.b_p_reason {K : PySem.W.Frag} {mg : Str → Option Value} (T : Txt K mg) : Binds K (T.d_p_reason) ["shown", "waits", "asleep", "fogs", "place"] [] := (T.F_p_reason).binds (ps := ["shown", "waits", "asleep", "fogs", "place"]) fun _ _ _ _ _ _ us hl => match us, hl with | [_, _, _, _, _], _ => rfl
theorem Txt.g_p_reason {K : PySem.W.Frag} {mg : Str → Option Value} (T : Txt K mg) : mg "reason" = some (.ref (T.f_p_reason)) := TopB.glo T 25 rfl
abbrev Txt.f_p_hindrance_behind {K : PySem.W.Frag} {mg : Str → Option Value} (T : Txt K mg) : Addr := He.fAd K ("hindrance_behind", none)
abbrev Txt.d_p_hindrance_behind {K : PySem.W.Frag} {mg : Str → Option Value} (T : Txt K mg) : FuncData := fdOf K (He.fAd K ("hindrance_behind", none))
theorem Txt.F_p_hindrance_behind {K : PySem.W.Frag} {mg : Str → Option Value} (T : Txt K mg) : Fun K "hindrance_behind" "hindrance_behind" s_p_hindrance_behind (T.f_p_hindrance_behind) (T.d_p_hindrance_behind) := TopB.fun_ T (a := ("hindrance_behind", none)) 1 rfl
theorem Txt.b_p_hindrance_behind {K : PySem.W.Frag} {mg : Str → Option Value} (T : Txt K mg) : Binds K (T.d_p_hindrance_behind) ["shown", "waits", "fogs", "place"] [] := (T.F_p_hindrance_behind).binds (ps := ["shown", "waits", "fogs", "place"]) fun _ _ _ _ _ _ us hl => match us, hl with | [_, _, _, _], _ => rfl
theorem Txt.g_p_hindrance_behind {K : PySem.W.Frag} {mg : Str → Option Value} (T : Txt K mg) : mg "hindrance_behind" = some (.ref (T.f_p_hindrance_behind)) := TopB.glo T 26 rfl
abbrev Txt.f_p_hindrance_ahead {K : PySem.W.Frag} {mg : Str → Option Value} (T : Txt K mg) : Addr := He.fAd K ("hindrance_ahead", none)
abbrev Txt.d_p_hindrance_ahead {K : PySem.W.Frag} {mg : Str → Option Value} (T : Txt K mg) : FuncData := fdOf K (He.fAd K ("hindrance_ahead", none))
theorem Txt.F_p_hindrance_ahead {K : PySem.W.Frag} {mg : Str → Option Value} (T : Txt K mg) : Fun K "hindrance_ahead" "hindrance_ahead" s_p_hindrance_ahead (T.f_p_hindrance_ahead) (T.d_p_hindrance_ahead) := TopB.fun_ T (a := ("hindrance_ahead", none)) 2 rfl
theorem Txt.b_p_hindrance_ahead {K : PySem.W.Frag} {mg : Str → Option Value} (T : Txt K mg) : Binds K (T.d_p_hindrance_ahead) ["shown", "fogs", "place"] [] := (T.F_p_hindrance_ahead).binds (ps := ["shown", "fogs", "place"]) fun _ _ _ _ _ _ us hl => match us, hl with | [_, _, _], _ => rfl
theorem Txt.g_p_hindrance_ahead {K : PySem.W.Frag} {mg : Str → Option Value} (T : Txt K mg) : mg "hindrance_ahead" = some (.ref (T.f_p_hindrance_ahead)) := TopB.glo T 27 rfl
abbrev Txt.f_p_ready {K : PySem.W.Frag} {mg : Str → Option Value} (T : Txt K mg) : Addr := He.fAd K ("ready", none)
abbrev Txt.d_p_ready {K : PySem.W.Frag} {mg : Str → Option Value} (T : Txt K mg) : FuncData := fdOf K (He.fAd K ("ready", none))
theorem Txt.F_p_ready {K : PySem.W.Frag} {mg : Str → Option Value} (T : Txt K mg) : Fun K "ready" "ready" s_p_ready (T.f_p_ready) (T.d_p_ready) := TopB.fun_ T (a := ("ready", none)) 3 rfl
theorem Txt.b_p_ready {K : PySem.W.Frag} {mg : Str → Option Value} (T : Txt K mg) : Binds K (T.d_p_ready) ["shown", "waits", "asleep", "fogs"] [] := (T.F_p_ready).binds (ps := ["shown", "waits", "asleep", "fogs"]) fun _ _ _ _ _ _ us hl => match us, hl with | [_, _, _, _], _ => rfl
theorem Txt.g_p_ready {K : PySem.W.Frag} {mg : Str → Option Value} (T : Txt K mg) : mg "ready" = some (.ref (T.f_p_ready)) := TopB.glo T 28 rfl
abbrev Txt.f_p_is_sign {K : PySem.W.Frag} {mg : Str → Option Value} (T : Txt K mg) : Addr := He.fAd K ("is_sign", none)
abbrev Txt.d_p_is_sign {K : PySem.W.Frag} {mg : Str → Option Value} (T : Txt K mg) : FuncData := fdOf K (He.fAd K ("is_sign", none))
theorem Txt.F_p_is_sign {K : PySem.W.Frag} {mg : Str → Option Value} (T : Txt K mg) : Fun K "is_sign" "is_sign" s_p_is_sign (T.f_p_is_sign) (T.d_p_is_sign) := TopB.fun_ T (a := ("is_sign", none)) 4 rfl
theorem Txt.b_p_is_sign {K : PySem.W.Frag} {mg : Str → Option Value} (T : Txt K mg) : Binds K (T.d_p_is_sign) ["number"] [] := (T.F_p_is_sign).binds (ps := ["number"]) fun _ _ _ _ _ _ us hl => match us, hl with | [_], _ => rfl
theorem Txt.g_p_is_sign {K : PySem.W.Frag} {mg : Str → Option Value} (T : Txt K mg) : mg "is_sign" = some (.ref (T.f_p_is_sign)) := TopB.glo T 29 rfl
abbrev Txt.f_p_check_signs {K : PySem.W.Frag} {mg : Str → Option Value} (T : Txt K mg) : Addr := He.fAd K ("check_signs", none)
abbrev Txt.d_p_check_signs {K : PySem.W.Frag} {mg : Str → Option Value} (T : Txt K mg) : FuncData := fdOf K (He.fAd K ("check_signs", none))
theorem Txt.F_p_check_signs {K : PySem.W.Frag} {mg : Str → Option Value} (T : Txt K mg) : Fun K "check_signs" "check_signs" s_p_check_signs (T.f_p_check_signs) (T.d_p_check_signs) := TopB.fun_ T (a := ("check_signs", none)) 5 rfl
theorem Txt.b_p_check_signs {K : PySem.W.Frag} {mg : Str → Option Value} (T : Txt K mg) : Binds K (T.d_p_check_signs) ["numbers"] [] := (T.F_p_check_signs).binds (ps := ["numbers"]) fun _ _ _ _ _ _ us hl => match us, hl with | [_], _ => rfl
theorem Txt.g_p_check_signs {K : PySem.W.Frag} {mg : Str → Option Value} (T : Txt K mg) : mg "check_signs" = some (.ref (T.f_p_check_signs)) := TopB.glo T 30 rfl
abbrev Txt.f_p_is_word {K : PySem.W.Frag} {mg : Str → Option Value} (T : Txt K mg) : Addr := He.fAd K ("is_word", none)
abbrev Txt.d_p_is_word {K : PySem.W.Frag} {mg : Str → Option Value} (T : Txt K mg) : FuncData := fdOf K (He.fAd K ("is_word", none))
theorem Txt.F_p_is_word {K : PySem.W.Frag} {mg : Str → Option Value} (T : Txt K mg) : Fun K "is_word" "is_word" s_p_is_word (T.f_p_is_word) (T.d_p_is_word) := TopB.fun_ T (a := ("is_word", none)) 6 rfl
theorem Txt.b_p_is_word {K : PySem.W.Frag} {mg : Str → Option Value} (T : Txt K mg) : Binds K (T.d_p_is_word) ["text"] [] := (T.F_p_is_word).binds (ps := ["text"]) fun _ _ _ _ _ _ us hl => match us, hl with | [_], _ => rfl
theorem Txt.g_p_is_word {K : PySem.W.Frag} {mg : Str → Option Value} (T : Txt K mg) : mg "is_word" = some (.ref (T.f_p_is_word)) := TopB.glo T 31 rfl
abbrev Txt.f_p_check_word {K : PySem.W.Frag} {mg : Str → Option Value} (T : Txt K mg) : Addr := He.fAd K ("check_word", none)
abbrev Txt.d_p_check_word {K : PySem.W.Frag} {mg : Str → Option Value} (T : Txt K mg) : FuncData := fdOf K (He.fAd K ("check_word", none))
theorem Txt.F_p_check_word {K : PySem.W.Frag} {mg : Str → Option Value} (T : Txt K mg) : Fun K "check_word" "check_word" s_p_check_word (T.f_p_check_word) (T.d_p_check_word) := TopB.fun_ T (a := ("check_word", none)) 7 rfl
theorem Txt.b_p_check_word {K : PySem.W.Frag} {mg : Str → Option Value} (T : Txt K mg) : Binds K (T.d_p_check_word) ["text"] [] := (T.F_p_check_word).binds (ps := ["text"]) fun _ _ _ _ _ _ us hl => match us, hl with | [_], _ => rfl
theorem Txt.g_p_check_word {K : PySem.W.Frag} {mg : Str → Option Value} (T : Txt K mg) : mg "check_word" = some (.ref (T.f_p_check_word)) := TopB.glo T 32 rfl
abbrev Txt.f_p_check_place {K : PySem.W.Frag} {mg : Str → Option Value} (T : Txt K mg) : Addr := He.fAd K ("check_place", none)
abbrev Txt.d_p_check_place {K : PySem.W.Frag} {mg : Str → Option Value} (T : Txt K mg) : FuncData := fdOf K (He.fAd K ("check_place", none))
theorem Txt.F_p_check_place {K : PySem.W.Frag} {mg : Str → Option Value} (T : Txt K mg) : Fun K "check_place" "check_place" s_p_check_place (T.f_p_check_place) (T.d_p_check_place) := TopB.fun_ T (a := ("check_place", none)) 8 rfl
theorem Txt.b_p_check_place {K : PySem.W.Frag} {mg : Str → Option Value} (T : Txt K mg) : Binds K (T.d_p_check_place) ["page", "line"] [] := (T.F_p_check_place).binds (ps := ["page", "line"]) fun _ _ _ _ _ _ us hl => match us, hl with | [_, _], _ => rfl
theorem Txt.g_p_check_place {K : PySem.W.Frag} {mg : Str → Option Value} (T : Txt K mg) : mg "check_place" = some (.ref (T.f_p_check_place)) := TopB.glo T 33 rfl
abbrev Txt.f_p_Phrasebook_init {K : PySem.W.Frag} {mg : Str → Option Value} (T : Txt K mg) : Addr := He.fAd K ("Phrasebook", some "__init__")
abbrev Txt.d_p_Phrasebook_init {K : PySem.W.Frag} {mg : Str → Option Value} (T : Txt K mg) : FuncData := fdOf K (He.fAd K ("Phrasebook", some "__init__"))
theorem Txt.F_p_Phrasebook_init {K : PySem.W.Frag} {mg : Str → Option Value} (T : Txt K mg) : Fun K "__init__" "Phrasebook.__init__" s_p_Phrasebook_init (T.f_p_Phrasebook_init) (T.d_p_Phrasebook_init) := TopB.fun_ T (a := ("Phrasebook", some "__init__")) 9 rfl
theorem Txt.b_p_Phrasebook_init {K : PySem.W.Frag} {mg : Str → Option Value} (T : Txt K mg) : Binds K (T.d_p_Phrasebook_init) ["self"] [] := (T.F_p_Phrasebook_init).binds (ps := ["self"]) fun _ _ _ _ _ _ us hl => match us, hl with | [_], _ => rfl
theorem Txt.M_p_Phrasebook_init {K : PySem.W.Frag} {mg : Str → Option Value} (T : Txt K mg) : Meth K (T.a_Phrasebook) "__init__" (T.f_p_Phrasebook_init) := He.meth_ok (TopB.one T (f := .meth "Phrasebook" "__init__") 34 rfl)
abbrev Txt.f_p_Phrasebook_enter {K : PySem.W.Frag} {mg : Str → Option Value} (T : Txt K mg) : Addr := He.fAd K ("Phrasebook", some "enter")
abbrev Txt.d_p_Phrasebook_enter {K : PySem.W.Frag} {mg : Str → Option Value} (T : Txt K mg) : FuncData := fdOf K (He.fAd K ("Phrasebook", some "enter"))
theorem Txt.F_p_Phrasebook_enter {K : PySem.W.Frag} {mg : Str → Option Value} (T : Txt K mg) : Fun K "enter" "Phrasebook.enter" s_p_Phrasebook_enter (T.f_p_Phrasebook_enter) (T.d_p_Phrasebook_enter) := TopB.fun_ T (a := ("Phrasebook", some "enter")) 10 rfl
theorem Txt.b_p_Phrasebook_enter {K : PySem.W.Frag} {mg : Str → Option Value} (T : Txt K mg) : Binds K (T.d_p_Phrasebook_enter) ["self", "page", "line", "word"] [] := (T.F_p_Phrasebook_enter).binds (ps := ["self", "page", "line", "word"]) fun _ _ _ _ _ _ us hl => match us, hl with | [_, _, _, _], _ => rfl
theorem Txt.M_p_Phrasebook_enter {K : PySem.W.Frag} {mg : Str → Option Value} (T : Txt K mg) : Meth K (T.a_Phrasebook) "enter" (T.f_p_Phrasebook_enter) := He.meth_ok (TopB.one T (f := .meth "Phrasebook" "enter") 35 rfl)
abbrev Txt.f_p_Phrasebook_strike {K : PySem.W.Frag} {mg : Str → Option Value} (T : Txt K mg) : Addr := He.fAd K ("Phrasebook", some "strike")
abbrev Txt.d_p_Phrasebook_strike {K : PySem.W.Frag} {mg : Str → Option Value} (T : Txt K mg) : FuncData := fdOf K (He.fAd K ("Phrasebook", some "strike"))
theorem Txt.F_p_Phrasebook_strike {K : PySem.W.Frag} {mg : Str → Option Value} (T : Txt K mg) : Fun K "strike" "Phrasebook.strike" s_p_Phrasebook_strike (T.f_p_Phrasebook_strike) (T.d_p_Phrasebook_strike) := TopB.fun_ T (a := ("Phrasebook", some "strike")) 11 rfl
theorem Txt.b_p_Phrasebook_strike {K : PySem.W.Frag} {mg : Str → Option Value} (T : Txt K mg) : Binds K (T.d_p_Phrasebook_strike) ["self", "page", "line"] [] := (T.F_p_Phrasebook_strike).binds (ps := ["self", "page", "line"]) fun _ _ _ _ _ _ us hl => match us, hl with | [_, _, _], _ => rfl
theorem Txt.M_p_Phrasebook_strike {K : PySem.W.Frag} {mg : Str → Option Value} (T : Txt K mg) : Meth K (T.a_Phrasebook) "strike" (T.f_p_Phrasebook_strike) := He.meth_ok (TopB.one T (f := .meth "Phrasebook" "strike") 36 rfl)
abbrev Txt.f_p_Phrasebook_word_at {K : PySem.W.Frag} {mg : Str → Option Value} (T : Txt K mg) : Addr := He.fAd K ("Phrasebook", some "word_at")
abbrev Txt.d_p_Phrasebook_word_at {K : PySem.W.Frag} {mg : Str → Option Value} (T : Txt K mg) : FuncData := fdOf K (He.fAd K ("Phrasebook", some "word_at"))
theorem Txt.F_p_Phrasebook_word_at {K : PySem.W.Frag} {mg : Str → Option Value} (T : Txt K mg) : Fun K "word_at" "Phrasebook.word_at" s_p_Phrasebook_word_at (T.f_p_Phrasebook_word_at) (T.d_p_Phrasebook_word_at) := TopB.fun_ T (a := ("Phrasebook", some "word_at")) 12 rfl
theorem Txt.b_p_Phrasebook_word_at {K : PySem.W.Frag} {mg : Str → Option Value} (T : Txt K mg) : Binds K (T.d_p_Phrasebook_word_at) ["self", "page", "line"] [] := (T.F_p_Phrasebook_word_at).binds (ps := ["self", "page", "line"]) fun _ _ _ _ _ _ us hl => match us, hl with | [_, _, _], _ => rfl
theorem Txt.M_p_Phrasebook_word_at {K : PySem.W.Frag} {mg : Str → Option Value} (T : Txt K mg) : Meth K (T.a_Phrasebook) "word_at" (T.f_p_Phrasebook_word_at) := He.meth_ok (TopB.one T (f := .meth "Phrasebook" "word_at") 37 rfl)
abbrev Txt.f_p_Phrasebook_words {K : PySem.W.Frag} {mg : Str → Option Value} (T : Txt K mg) : Addr := He.fAd K ("Phrasebook", some "words")
abbrev Txt.d_p_Phrasebook_words {K : PySem.W.Frag} {mg : Str → Option Value} (T : Txt K mg) : FuncData := fdOf K (He.fAd K ("Phrasebook", some "words"))
theorem Txt.F_p_Phrasebook_words {K : PySem.W.Frag} {mg : Str → Option Value} (T : Txt K mg) : Fun K "words" "Phrasebook.words" s_p_Phrasebook_words (T.f_p_Phrasebook_words) (T.d_p_Phrasebook_words) := TopB.fun_ T (a := ("Phrasebook", some "words")) 13 rfl
theorem Txt.b_p_Phrasebook_words {K : PySem.W.Frag} {mg : Str → Option Value} (T : Txt K mg) : Binds K (T.d_p_Phrasebook_words) ["self"] [] := (T.F_p_Phrasebook_words).binds (ps := ["self"]) fun _ _ _ _ _ _ us hl => match us, hl with | [_], _ => rfl
theorem Txt.M_p_Phrasebook_words {K : PySem.W.Frag} {mg : Str → Option Value} (T : Txt K mg) : Meth K (T.a_Phrasebook) "words" (T.f_p_Phrasebook_words) := He.meth_ok (TopB.one T (f := .meth "Phrasebook" "words") 38 rfl)
abbrev Txt.f_p_check_way {K : PySem.W.Frag} {mg : Str → Option Value} (T : Txt K mg) : Addr := He.fAd K ("check_way", none)
abbrev Txt.d_p_check_way {K : PySem.W.Frag} {mg : Str → Option Value} (T : Txt K mg) : FuncData := fdOf K (He.fAd K ("check_way", none))
theorem Txt.F_p_check_way {K : PySem.W.Frag} {mg : Str → Option Value} (T : Txt K mg) : Fun K "check_way" "check_way" s_p_check_way (T.f_p_check_way) (T.d_p_check_way) := TopB.fun_ T (a := ("check_way", none)) 14 rfl
theorem Txt.b_p_check_way {K : PySem.W.Frag} {mg : Str → Option Value} (T : Txt K mg) : Binds K (T.d_p_check_way) ["way"] [] := (T.F_p_check_way).binds (ps := ["way"]) fun _ _ _ _ _ _ us hl => match us, hl with | [_], _ => rfl
theorem Txt.g_p_check_way {K : PySem.W.Frag} {mg : Str → Option Value} (T : Txt K mg) : mg "check_way" = some (.ref (T.f_p_check_way)) := TopB.glo T 39 rfl
abbrev Txt.f_p_check_mast {K : PySem.W.Frag} {mg : Str → Option Value} (T : Txt K mg) : Addr := He.fAd K ("check_mast", none)
abbrev Txt.d_p_check_mast {K : PySem.W.Frag} {mg : Str → Option Value} (T : Txt K mg) : FuncData := fdOf K (He.fAd K ("check_mast", none))
theorem Txt.F_p_check_mast {K : PySem.W.Frag} {mg : Str → Option Value} (T : Txt K mg) : Fun K "check_mast" "check_mast" s_p_check_mast (T.f_p_check_mast) (T.d_p_check_mast) := TopB.fun_ T (a := ("check_mast", none)) 15 rfl
theorem Txt.b_p_check_mast {K : PySem.W.Frag} {mg : Str → Option Value} (T : Txt K mg) : Binds K (T.d_p_check_mast) ["masts", "mast"] [] := (T.F_p_check_mast).binds (ps := ["masts", "mast"]) fun _ _ _ _ _ _ us hl => match us, hl with | [_, _], _ => rfl
theorem Txt.g_p_check_mast {K : PySem.W.Frag} {mg : Str → Option Value} (T : Txt K mg) : mg "check_mast" = some (.ref (T.f_p_check_mast)) := TopB.glo T 40 rfl
abbrev Txt.f_p_place_of {K : PySem.W.Frag} {mg : Str → Option Value} (T : Txt K mg) : Addr := He.fAd K ("place_of", none)
abbrev Txt.d_p_place_of {K : PySem.W.Frag} {mg : Str → Option Value} (T : Txt K mg) : FuncData := fdOf K (He.fAd K ("place_of", none))
theorem Txt.F_p_place_of {K : PySem.W.Frag} {mg : Str → Option Value} (T : Txt K mg) : Fun K "place_of" "place_of" s_p_place_of (T.f_p_place_of) (T.d_p_place_of) := TopB.fun_ T (a := ("place_of", none)) 16 rfl
theorem Txt.b_p_place_of {K : PySem.W.Frag} {mg : Str → Option Value} (T : Txt K mg) : Binds K (T.d_p_place_of) ["way", "masts", "mast"] [] := (T.F_p_place_of).binds (ps := ["way", "masts", "mast"]) fun _ _ _ _ _ _ us hl => match us, hl with | [_, _, _], _ => rfl
theorem Txt.g_p_place_of {K : PySem.W.Frag} {mg : Str → Option Value} (T : Txt K mg) : mg "place_of" = some (.ref (T.f_p_place_of)) := TopB.glo T 41 rfl
abbrev Txt.f_p_mast_at {K : PySem.W.Frag} {mg : Str → Option Value} (T : Txt K mg) : Addr := He.fAd K ("mast_at", none)
abbrev Txt.d_p_mast_at {K : PySem.W.Frag} {mg : Str → Option Value} (T : Txt K mg) : FuncData := fdOf K (He.fAd K ("mast_at", none))
theorem Txt.F_p_mast_at {K : PySem.W.Frag} {mg : Str → Option Value} (T : Txt K mg) : Fun K "mast_at" "mast_at" s_p_mast_at (T.f_p_mast_at) (T.d_p_mast_at) := TopB.fun_ T (a := ("mast_at", none)) 17 rfl
theorem Txt.b_p_mast_at {K : PySem.W.Frag} {mg : Str → Option Value} (T : Txt K mg) : Binds K (T.d_p_mast_at) ["way", "masts", "place"] [] := (T.F_p_mast_at).binds (ps := ["way", "masts", "place"]) fun _ _ _ _ _ _ us hl => match us, hl with | [_, _, _], _ => rfl
theorem Txt.g_p_mast_at {K : PySem.W.Frag} {mg : Str → Option Value} (T : Txt K mg) : mg "mast_at" = some (.ref (T.f_p_mast_at)) := TopB.glo T 42 rfl
abbrev Txt.f_p_along {K : PySem.W.Frag} {mg : Str → Option Value} (T : Txt K mg) : Addr := He.fAd K ("along", none)
abbrev Txt.d_p_along {K : PySem.W.Frag} {mg : Str → Option Value} (T : Txt K mg) : FuncData := fdOf K (He.fAd K ("along", none))
theorem Txt.F_p_along {K : PySem.W.Frag} {mg : Str → Option Value} (T : Txt K mg) : Fun K "along" "along" s_p_along (T.f_p_along) (T.d_p_along) := TopB.fun_ T (a := ("along", none)) 18 rfl
theorem Txt.b_p_along {K : PySem.W.Frag} {mg : Str → Option Value} (T : Txt K mg) : Binds K (T.d_p_along) ["way", "row"] [] := (T.F_p_along).binds (ps := ["way", "row"]) fun _ _ _ _ _ _ us hl => match us, hl with | [_, _], _ => rfl
theorem Txt.g_p_along {K : PySem.W.Frag} {mg : Str → Option Value} (T : Txt K mg) : mg "along" = some (.ref (T.f_p_along)) := TopB.glo T 43 rfl
abbrev Txt.f_p_deed_text {K : PySem.W.Frag} {mg : Str → Option Value} (T : Txt K mg) : Addr := He.fAd K ("deed_text", none)
abbrev Txt.d_p_deed_text {K : PySem.W.Frag} {mg : Str → Option Value} (T : Txt K mg) : FuncData := fdOf K (He.fAd K ("deed_text", none))
theorem Txt.F_p_deed_text {K : PySem.W.Frag} {mg : Str → Option Value} (T : Txt K mg) : Fun K "deed_text" "deed_text" s_p_deed_text (T.f_p_deed_text) (T.d_p_deed_text) := TopB.fun_ T (a := ("deed_text", none)) 19 rfl
theorem Txt.b_p_deed_text {K : PySem.W.Frag} {mg : Str → Option Value} (T : Txt K mg) : Binds K (T.d_p_deed_text) ["deed"] [] := (T.F_p_deed_text).binds (ps := ["deed"]) fun _ _ _ _ _ _ us hl => match us, hl with | [_], _ => rfl
theorem Txt.g_p_deed_text {K : PySem.W.Frag} {mg : Str → Option Value} (T : Txt K mg) : mg "deed_text" = some (.ref (T.f_p_deed_text)) := TopB.glo T 44 rfl
abbrev Txt.f_p_stretches {K : PySem.W.Frag} {mg : Str → Option Value} (T : Txt K mg) : Addr := He.fAd K ("stretches", none)
abbrev Txt.d_p_stretches {K : PySem.W.Frag} {mg : Str → Option Value} (T : Txt K mg) : FuncData := fdOf K (He.fAd K ("stretches", none))
theorem Txt.F_p_stretches {K : PySem.W.Frag} {mg : Str → Option Value} (T : Txt K mg) : Fun K "stretches" "stretches" s_p_stretches (T.f_p_stretches) (T.d_p_stretches) := TopB.fun_ T (a := ("stretches", none)) 20 rfl
theorem Txt.b_p_stretches {K : PySem.W.Frag} {mg : Str → Option Value} (T : Txt K mg) : Binds K (T.d_p_stretches) ["values"] [] := (T.F_p_stretches).binds (ps := ["values"]) fun _ _ _ _ _ _ us hl => match us, hl with | [_], _ => rfl
theorem Txt.g_p_stretches {K : PySem.W.Frag} {mg : Str → Option Value} (T : Txt K mg) : mg "stretches" = some (.ref (T.f_p_stretches)) := TopB.glo T 45 rfl
abbrev Txt.f_p_Motion_init {K : PySem.W.Frag} {mg : Str → Option Value} (T : Txt K mg) : Addr := He.fAd K ("Motion", some "__init__")
abbrev Txt.d_p_Motion_init {K : PySem.W.Frag} {mg : Str → Option Value} (T : Txt K mg) : FuncData := fdOf K (He.fAd K ("Motion", some "__init__"))
theorem Txt.F_p_Motion_init {K : PySem.W.Frag} {mg : Str → Option Value} (T : Txt K mg) : Fun K "__init__" "Motion.__init__" s_p_Motion_init (T.f_p_Motion_init) (T.d_p_Motion_init) := TopB.fun_ T (a := ("Motion", some "__init__")) 21 rfl
theorem Txt.b_p_Motion_init {K : PySem.W.Frag} {mg : Str → Option Value} (T : Txt K mg) : Binds K (T.d_p_Motion_init) ["self", "shown", "queue", "sleepers", "fogged"] [] := (T.F_p_Motion_init).binds (ps := ["self", "shown", "queue", "sleepers", "fogged"]) fun _ _ _ _ _ _ us hl => match us, hl with | [_, _, _, _, _], _ => rfl
theorem Txt.M_p_Motion_init {K : PySem.W.Frag} {mg : Str → Option Value} (T : Txt K mg) : Meth K (T.a_Motion) "__init__" (T.f_p_Motion_init) := He.meth_ok (TopB.one T (f := .meth "Motion" "__init__") 46 rfl)
abbrev Txt.f_p_Motion_why {K : PySem.W.Frag} {mg : Str → Option Value} (T : Txt K mg) : Addr := He.fAd K ("Motion", some "why")
abbrev Txt.d_p_Motion_why {K : PySem.W.Frag} {mg : Str → Option Value} (T : Txt K mg) : FuncData := fdOf K (He.fAd K ("Motion", some "why"))
theorem Txt.F_p_Motion_why {K : PySem.W.Frag} {mg : Str → Option Value} (T : Txt K mg) : Fun K "why" "Motion.why" s_p_Motion_why (T.f_p_Motion_why) (T.d_p_Motion_why) := TopB.fun_ T (a := ("Motion", some "why")) 22 rfl
theorem Txt.b_p_Motion_why {K : PySem.W.Frag} {mg : Str → Option Value} (T : Txt K mg) : Binds K (T.d_p_Motion_why) ["self", "place"] [] := (T.F_p_Motion_why).binds (ps := ["self", "place"]) fun _ _ _ _ _ _ us hl => match us, hl with | [_, _], _ => rfl
theorem Txt.M_p_Motion_why {K : PySem.W.Frag} {mg : Str → Option Value} (T : Txt K mg) : Meth K (T.a_Motion) "why" (T.f_p_Motion_why) := He.meth_ok (TopB.one T (f := .meth "Motion" "why") 47 rfl)
abbrev Txt.f_p_Motion_ready_places {K : PySem.W.Frag} {mg : Str → Option Value} (T : Txt K mg) : Addr := He.fAd K ("Motion", some "ready_places")
abbrev Txt.d_p_Motion_ready_places {K : PySem.W.Frag} {mg : Str → Option Value} (T : Txt K mg) : FuncData := fdOf K (He.fAd K ("Motion", some "ready_places"))
theorem Txt.F_p_Motion_ready_places {K : PySem.W.Frag} {mg : Str → Option Value} (T : Txt K mg) : Fun K "ready_places" "Motion.ready_places" s_p_Motion_ready_places (T.f_p_Motion_ready_places) (T.d_p_Motion_ready_places) := TopB.fun_ T (a := ("Motion", some "ready_places")) 23 rfl
theorem Txt.b_p_Motion_ready_places {K : PySem.W.Frag} {mg : Str → Option Value} (T : Txt K mg) : Binds K (T.d_p_Motion_ready_places) ["self"] [] := (T.F_p_Motion_ready_places).binds (ps := ["self"]) fun _ _ _ _ _ _ us hl => match us, hl with | [_], _ => rfl
theorem Txt.M_p_Motion_ready_places {K : PySem.W.Frag} {mg : Str → Option Value} (T : Txt K mg) : Meth K (T.a_Motion) "ready_places" (T.f_p_Motion_ready_places) := He.meth_ok (TopB.one T (f := .meth "Motion" "ready_places") 48 rfl)
abbrev Txt.f_p_Motion_coming {K : PySem.W.Frag} {mg : Str → Option Value} (T : Txt K mg) : Addr := He.fAd K ("Motion", some "coming")
abbrev Txt.d_p_Motion_coming {K : PySem.W.Frag} {mg : Str → Option Value} (T : Txt K mg) : FuncData := fdOf K (He.fAd K ("Motion", some "coming"))
theorem Txt.F_p_Motion_coming {K : PySem.W.Frag} {mg : Str → Option Value} (T : Txt K mg) : Fun K "coming" "Motion.coming" s_p_Motion_coming (T.f_p_Motion_coming) (T.d_p_Motion_coming) := TopB.fun_ T (a := ("Motion", some "coming")) 24 rfl
theorem Txt.b_p_Motion_coming {K : PySem.W.Frag} {mg : Str → Option Value} (T : Txt K mg) : Binds K (T.d_p_Motion_coming) ["self", "place"] [] := (T.F_p_Motion_coming).binds (ps := ["self", "place"]) fun _ _ _ _ _ _ us hl => match us, hl with | [_, _], _ => rfl
theorem Txt.M_p_Motion_coming {K : PySem.W.Frag} {mg : Str → Option Value} (T : Txt K mg) : Meth K (T.a_Motion) "coming" (T.f_p_Motion_coming) := He.meth_ok (TopB.one T (f := .meth "Motion" "coming") 49 rfl)
abbrev Txt.f_p_Motion_raise_arms {K : PySem.W.Frag} {mg : Str → Option Value} (T : Txt K mg) : Addr := He.fAd K ("Motion", some "raise_arms")
abbrev Txt.d_p_Motion_raise_arms {K : PySem.W.Frag} {mg : Str → Option Value} (T : Txt K mg) : FuncData := fdOf K (He.fAd K ("Motion", some "raise_arms"))
theorem Txt.F_p_Motion_raise_arms {K : PySem.W.Frag} {mg : Str → Option Value} (T : Txt K mg) : Fun K "raise_arms" "Motion.raise_arms" s_p_Motion_raise_arms (T.f_p_Motion_raise_arms) (T.d_p_Motion_raise_arms) := TopB.fun_ T (a := ("Motion", some "raise_arms")) 25 rfl
theorem Txt.b_p_Motion_raise_arms {K : PySem.W.Frag} {mg : Str → Option Value} (T : Txt K mg) : Binds K (T.d_p_Motion_raise_arms) ["self", "place", "seen", "shows"] [] := (T.F_p_Motion_raise_arms).binds (ps := ["self", "place", "seen", "shows"]) fun _ _ _ _ _ _ us hl => match us, hl with | [_, _, _, _], _ => rfl
theorem Txt.M_p_Motion_raise_arms {K : PySem.W.Frag} {mg : Str → Option Value} (T : Txt K mg) : Meth K (T.a_Motion) "raise_arms" (T.f_p_Motion_raise_arms) := He.meth_ok (TopB.one T (f := .meth "Motion" "raise_arms") 50 rfl)
abbrev Txt.f_p_Motion_move {K : PySem.W.Frag} {mg : Str → Option Value} (T : Txt K mg) : Addr := He.fAd K ("Motion", some "move")
abbrev Txt.d_p_Motion_move {K : PySem.W.Frag} {mg : Str → Option Value} (T : Txt K mg) : FuncData := fdOf K (He.fAd K ("Motion", some "move"))
theorem Txt.F_p_Motion_move {K : PySem.W.Frag} {mg : Str → Option Value} (T : Txt K mg) : Fun K "move" "Motion.move" s_p_Motion_move (T.f_p_Motion_move) (T.d_p_Motion_move) := TopB.fun_ T (a := ("Motion", some "move")) 26 rfl
theorem Txt.b_p_Motion_move {K : PySem.W.Frag} {mg : Str → Option Value} (T : Txt K mg) : Binds K (T.d_p_Motion_move) ["self", "place"] [] := (T.F_p_Motion_move).binds (ps := ["self", "place"]) fun _ _ _ _ _ _ us hl => match us, hl with | [_, _], _ => rfl
theorem Txt.M_p_Motion_move {K : PySem.W.Frag} {mg : Str → Option Value} (T : Txt K mg) : Meth K (T.a_Motion) "move" (T.f_p_Motion_move) := He.meth_ok (TopB.one T (f := .meth "Motion" "move") 51 rfl)
abbrev Txt.f_p_queue_of {K : PySem.W.Frag} {mg : Str → Option Value} (T : Txt K mg) : Addr := He.fAd K ("queue_of", none)
abbrev Txt.d_p_queue_of {K : PySem.W.Frag} {mg : Str → Option Value} (T : Txt K mg) : FuncData := fdOf K (He.fAd K ("queue_of", none))
theorem Txt.F_p_queue_of {K : PySem.W.Frag} {mg : Str → Option Value} (T : Txt K mg) : Fun K "queue_of" "queue_of" s_p_queue_of (T.f_p_queue_of) (T.d_p_queue_of) := TopB.fun_ T (a := ("queue_of", none)) 27 rfl
theorem Txt.b_p_queue_of {K : PySem.W.Frag} {mg : Str → Option Value} (T : Txt K mg) : Binds K (T.d_p_queue_of) ["way"] [] := (T.F_p_queue_of).binds (ps := ["way"]) fun _ _ _ _ _ _ us hl => match us, hl with | [_], _ => rfl
theorem Txt.g_p_queue_of {K : PySem.W.Frag} {mg : Str → Option Value} (T : Txt K mg) : mg "queue_of" = some (.ref (T.f_p_queue_of)) := TopB.glo T 52 rfl
abbrev Txt.f_p_book_of {K : PySem.W.Frag} {mg : Str → Option Value} (T : Txt K mg) : Addr := He.fAd K ("book_of", none)
abbrev Txt.d_p_book_of {K : PySem.W.Frag} {mg : Str → Option Value} (T : Txt K mg) : FuncData := fdOf K (He.fAd K ("book_of", none))
theorem Txt.F_p_book_of {K : PySem.W.Frag} {mg : Str → Option Value} (T : Txt K mg) : Fun K "book_of" "book_of" s_p_book_of (T.f_p_book_of) (T.d_p_book_of) := TopB.fun_ T (a := ("book_of", none)) 28 rfl
theorem Txt.b_p_book_of {K : PySem.W.Frag} {mg : Str → Option Value} (T : Txt K mg) : Binds K (T.d_p_book_of) ["way", "mast"] [] := (T.F_p_book_of).binds (ps := ["way", "mast"]) fun _ _ _ _ _ _ us hl => match us, hl with | [_, _], _ => rfl
theorem Txt.g_p_book_of {K : PySem.W.Frag} {mg : Str → Option Value} (T : Txt K mg) : mg "book_of" = some (.ref (T.f_p_book_of)) := TopB.glo T 53 rfl
abbrev Txt.f_p_new_rows {K : PySem.W.Frag} {mg : Str → Option Value} (T : Txt K mg) : Addr := He.fAd K ("new_rows", none)
abbrev Txt.d_p_new_rows {K : PySem.W.Frag} {mg : Str → Option Value} (T : Txt K mg) : FuncData := fdOf K (He.fAd K ("new_rows", none))
theorem Txt.F_p_new_rows {K : PySem.W.Frag} {mg : Str → Option Value} (T : Txt K mg) : Fun K "new_rows" "new_rows" s_p_new_rows (T.f_p_new_rows) (T.d_p_new_rows) := TopB.fun_ T (a := ("new_rows", none)) 29 rfl
theorem Txt.b_p_new_rows {K : PySem.W.Frag} {mg : Str → Option Value} (T : Txt K mg) : Binds K (T.d_p_new_rows) ["masts"] [] := (T.F_p_new_rows).binds (ps := ["masts"]) fun _ _ _ _ _ _ us hl => match us, hl with | [_], _ => rfl
theorem Txt.g_p_new_rows {K : PySem.W.Frag} {mg : Str → Option Value} (T : Txt K mg) : mg "new_rows" = some (.ref (T.f_p_new_rows)) := TopB.glo T 54 rfl
abbrev Txt.f_p_State_init {K : PySem.W.Frag} {mg : Str → Option Value} (T : Txt K mg) : Addr := He.fAd K ("State", some "__init__")
abbrev Txt.d_p_State_init {K : PySem.W.Frag} {mg : Str → Option Value} (T : Txt K mg) : FuncData := fdOf K (He.fAd K ("State", some "__init__"))
theorem Txt.F_p_State_init {K : PySem.W.Frag} {mg : Str → Option Value} (T : Txt K mg) : Fun K "__init__" "State.__init__" s_p_State_init (T.f_p_State_init) (T.d_p_State_init) := TopB.fun_ T (a := ("State", some "__init__")) 30 rfl
theorem Txt.b_p_State_init {K : PySem.W.Frag} {mg : Str → Option Value} (T : Txt K mg) : Binds K (T.d_p_State_init) ["self", "masts"] [] := (T.F_p_State_init).binds (ps := ["self", "masts"]) fun _ _ _ _ _ _ us hl => match us, hl with | [_, _], _ => rfl
theorem Txt.M_p_State_init {K : PySem.W.Frag} {mg : Str → Option Value} (T : Txt K mg) : Meth K (T.a_State) "__init__" (T.f_p_State_init) := He.meth_ok (TopB.one T (f := .meth "State" "__init__") 55 rfl)
abbrev Txt.f_p_State_copied {K : PySem.W.Frag} {mg : Str → Option Value} (T : Txt K mg) : Addr := He.fAd K ("State", some "copied")
abbrev Txt.d_p_State_copied {K : PySem.W.Frag} {mg : Str → Option Value} (T : Txt K mg) : FuncData := fdOf K (He.fAd K ("State", some "copied"))
theorem Txt.F_p_State_copied {K : PySem.W.Frag} {mg : Str → Option Value} (T : Txt K mg) : Fun K "copied" "State.copied" s_p_State_copied (T.f_p_State_copied) (T.d_p_State_copied) := TopB.fun_ T (a := ("State", some "copied")) 31 rfl
theorem Txt.b_p_State_copied {K : PySem.W.Frag} {mg : Str → Option Value} (T : Txt K mg) : Binds K (T.d_p_State_copied) ["self"] [] := (T.F_p_State_copied).binds (ps := ["self"]) fun _ _ _ _ _ _ us hl => match us, hl with | [_], _ => rfl
theorem Txt.M_p_State_copied {K : PySem.W.Frag} {mg : Str → Option Value} (T : Txt K mg) : Meth K (T.a_State) "copied" (T.f_p_State_copied) := He.meth_ok (TopB.one T (f := .meth "State" "copied") 56 rfl)
abbrev Txt.f_p_State_make {K : PySem.W.Frag} {mg : Str → Option Value} (T : Txt K mg) : Addr := He.fAd K ("State", some "make")
abbrev Txt.d_p_State_make {K : PySem.W.Frag} {mg : Str → Option Value} (T : Txt K mg) : FuncData := fdOf K (He.fAd K ("State", some "make"))
theorem Txt.F_p_State_make {K : PySem.W.Frag} {mg : Str → Option Value} (T : Txt K mg) : Fun K "make" "State.make" s_p_State_make (T.f_p_State_make) (T.d_p_State_make) := TopB.fun_ T (a := ("State", some "make")) 32 rfl
theorem Txt.b_p_State_make {K : PySem.W.Frag} {mg : Str → Option Value} (T : Txt K mg) : Binds K (T.d_p_State_make) ["self", "changes"] [] := (T.F_p_State_make).binds (ps := ["self", "changes"]) fun _ _ _ _ _ _ us hl => match us, hl with | [_, _], _ => rfl
theorem Txt.M_p_State_make {K : PySem.W.Frag} {mg : Str → Option Value} (T : Txt K mg) : Meth K (T.a_State) "make" (T.f_p_State_make) := He.meth_ok (TopB.one T (f := .meth "State" "make") 57 rfl)
abbrev Txt.f_p_State_swap {K : PySem.W.Frag} {mg : Str → Option Value} (T : Txt K mg) : Addr := He.fAd K ("State", some "swap")
abbrev Txt.d_p_State_swap {K : PySem.W.Frag} {mg : Str → Option Value} (T : Txt K mg) : FuncData := fdOf K (He.fAd K ("State", some "swap"))
theorem Txt.F_p_State_swap {K : PySem.W.Frag} {mg : Str → Option Value} (T : Txt K mg) : Fun K "swap" "State.swap" s_p_State_swap (T.f_p_State_swap) (T.d_p_State_swap) := TopB.fun_ T (a := ("State", some "swap")) 33 rfl
theorem Txt.b_p_State_swap {K : PySem.W.Frag} {mg : Str → Option Value} (T : Txt K mg) : Binds K (T.d_p_State_swap) ["self", "where", "at", "taken", "put"] [] := (T.F_p_State_swap).binds (ps := ["self", "where", "at", "taken", "put"]) fun _ _ _ _ _ _ us hl => match us, hl with | [_, _, _, _, _], _ => rfl
theorem Txt.M_p_State_swap {K : PySem.W.Frag} {mg : Str → Option Value} (T : Txt K mg) : Meth K (T.a_State) "swap" (T.f_p_State_swap) := He.meth_ok (TopB.one T (f := .meth "State" "swap") 58 rfl)
abbrev Txt.f_p_State_swap_word {K : PySem.W.Frag} {mg : Str → Option Value} (T : Txt K mg) : Addr := He.fAd K ("State", some "swap_word")
abbrev Txt.d_p_State_swap_word {K : PySem.W.Frag} {mg : Str → Option Value} (T : Txt K mg) : FuncData := fdOf K (He.fAd K ("State", some "swap_word"))
theorem Txt.F_p_State_swap_word {K : PySem.W.Frag} {mg : Str → Option Value} (T : Txt K mg) : Fun K "swap_word" "State.swap_word" s_p_State_swap_word (T.f_p_State_swap_word) (T.d_p_State_swap_word) := TopB.fun_ T (a := ("State", some "swap_word")) 34 rfl
theorem Txt.b_p_State_swap_word {K : PySem.W.Frag} {mg : Str → Option Value} (T : Txt K mg) : Binds K (T.d_p_State_swap_word) ["self", "at", "taken", "put"] [] := (T.F_p_State_swap_word).binds (ps := ["self", "at", "taken", "put"]) fun _ _ _ _ _ _ us hl => match us, hl with | [_, _, _, _], _ => rfl
theorem Txt.M_p_State_swap_word {K : PySem.W.Frag} {mg : Str → Option Value} (T : Txt K mg) : Meth K (T.a_State) "swap_word" (T.f_p_State_swap_word) := He.meth_ok (TopB.one T (f := .meth "State" "swap_word") 59 rfl)
abbrev Txt.f_p_State_size {K : PySem.W.Frag} {mg : Str → Option Value} (T : Txt K mg) : Addr := He.fAd K ("State", some "size")
abbrev Txt.d_p_State_size {K : PySem.W.Frag} {mg : Str → Option Value} (T : Txt K mg) : FuncData := fdOf K (He.fAd K ("State", some "size"))
theorem Txt.F_p_State_size {K : PySem.W.Frag} {mg : Str → Option Value} (T : Txt K mg) : Fun K "size" "State.size" s_p_State_size (T.f_p_State_size) (T.d_p_State_size) := TopB.fun_ T (a := ("State", some "size")) 35 rfl
theorem Txt.b_p_State_size {K : PySem.W.Frag} {mg : Str → Option Value} (T : Txt K mg) : Binds K (T.d_p_State_size) ["self"] [] := (T.F_p_State_size).binds (ps := ["self"]) fun _ _ _ _ _ _ us hl => match us, hl with | [_], _ => rfl
theorem Txt.M_p_State_size {K : PySem.W.Frag} {mg : Str → Option Value} (T : Txt K mg) : Meth K (T.a_State) "size" (T.f_p_State_size) := He.meth_ok (TopB.one T (f := .meth "State" "size") 60 rfl)
abbrev Txt.f_p_State_check_mast {K : PySem.W.Frag} {mg : Str → Option Value} (T : Txt K mg) : Addr := He.fAd K ("State", some "check_mast")
abbrev Txt.d_p_State_check_mast {K : PySem.W.Frag} {mg : Str → Option Value} (T : Txt K mg) : FuncData := fdOf K (He.fAd K ("State", some "check_mast"))
theorem Txt.F_p_State_check_mast {K : PySem.W.Frag} {mg : Str → Option Value} (T : Txt K mg) : Fun K "check_mast" "State.check_mast" s_p_State_check_mast (T.f_p_State_check_mast) (T.d_p_State_check_mast) := TopB.fun_ T (a := ("State", some "check_mast")) 36 rfl
theorem Txt.b_p_State_check_mast {K : PySem.W.Frag} {mg : Str → Option Value} (T : Txt K mg) : Binds K (T.d_p_State_check_mast) ["self", "mast"] [] := (T.F_p_State_check_mast).binds (ps := ["self", "mast"]) fun _ _ _ _ _ _ us hl => match us, hl with | [_, _], _ => rfl
theorem Txt.M_p_State_check_mast {K : PySem.W.Frag} {mg : Str → Option Value} (T : Txt K mg) : Meth K (T.a_State) "check_mast" (T.f_p_State_check_mast) := He.meth_ok (TopB.one T (f := .meth "State" "check_mast") 61 rfl)
abbrev Txt.f_p_State_check_gap {K : PySem.W.Frag} {mg : Str → Option Value} (T : Txt K mg) : Addr := He.fAd K ("State", some "check_gap")
abbrev Txt.d_p_State_check_gap {K : PySem.W.Frag} {mg : Str → Option Value} (T : Txt K mg) : FuncData := fdOf K (He.fAd K ("State", some "check_gap"))
theorem Txt.F_p_State_check_gap {K : PySem.W.Frag} {mg : Str → Option Value} (T : Txt K mg) : Fun K "check_gap" "State.check_gap" s_p_State_check_gap (T.f_p_State_check_gap) (T.d_p_State_check_gap) := TopB.fun_ T (a := ("State", some "check_gap")) 37 rfl
theorem Txt.b_p_State_check_gap {K : PySem.W.Frag} {mg : Str → Option Value} (T : Txt K mg) : Binds K (T.d_p_State_check_gap) ["self", "gap"] [] := (T.F_p_State_check_gap).binds (ps := ["self", "gap"]) fun _ _ _ _ _ _ us hl => match us, hl with | [_, _], _ => rfl
theorem Txt.M_p_State_check_gap {K : PySem.W.Frag} {mg : Str → Option Value} (T : Txt K mg) : Meth K (T.a_State) "check_gap" (T.f_p_State_check_gap) := He.meth_ok (TopB.one T (f := .meth "State" "check_gap") 62 rfl)
abbrev Txt.f_p_State_check_book {K : PySem.W.Frag} {mg : Str → Option Value} (T : Txt K mg) : Addr := He.fAd K ("State", some "check_book")
abbrev Txt.d_p_State_check_book {K : PySem.W.Frag} {mg : Str → Option Value} (T : Txt K mg) : FuncData := fdOf K (He.fAd K ("State", some "check_book"))
theorem Txt.F_p_State_check_book {K : PySem.W.Frag} {mg : Str → Option Value} (T : Txt K mg) : Fun K "check_book" "State.check_book" s_p_State_check_book (T.f_p_State_check_book) (T.d_p_State_check_book) := TopB.fun_ T (a := ("State", some "check_book")) 38 rfl
theorem Txt.b_p_State_check_book {K : PySem.W.Frag} {mg : Str → Option Value} (T : Txt K mg) : Binds K (T.d_p_State_check_book) ["self", "mast"] [] := (T.F_p_State_check_book).binds (ps := ["self", "mast"]) fun _ _ _ _ _ _ us hl => match us, hl with | [_, _], _ => rfl
theorem Txt.M_p_State_check_book {K : PySem.W.Frag} {mg : Str → Option Value} (T : Txt K mg) : Meth K (T.a_State) "check_book" (T.f_p_State_check_book) := He.meth_ok (TopB.one T (f := .meth "State" "check_book") 63 rfl)
abbrev Txt.f_p_State_heading {K : PySem.W.Frag} {mg : Str → Option Value} (T : Txt K mg) : Addr := He.fAd K ("State", some "heading")
abbrev Txt.d_p_State_heading {K : PySem.W.Frag} {mg : Str → Option Value} (T : Txt K mg) : FuncData := fdOf K (He.fAd K ("State", some "heading"))
theorem Txt.F_p_State_heading {K : PySem.W.Frag} {mg : Str → Option Value} (T : Txt K mg) : Fun K "heading" "State.heading" s_p_State_heading (T.f_p_State_heading) (T.d_p_State_heading) := TopB.fun_ T (a := ("State", some "heading")) 39 rfl
theorem Txt.b_p_State_heading {K : PySem.W.Frag} {mg : Str → Option Value} (T : Txt K mg) : Binds K (T.d_p_State_heading) ["self"] [] := (T.F_p_State_heading).binds (ps := ["self"]) fun _ _ _ _ _ _ us hl => match us, hl with | [_], _ => rfl
theorem Txt.M_p_State_heading {K : PySem.W.Frag} {mg : Str → Option Value} (T : Txt K mg) : Meth K (T.a_State) "heading" (T.f_p_State_heading) := He.meth_ok (TopB.one T (f := .meth "State" "heading") 64 rfl)
abbrev Txt.f_p_State_queue_on {K : PySem.W.Frag} {mg : Str → Option Value} (T : Txt K mg) : Addr := He.fAd K ("State", some "queue_on")
abbrev Txt.d_p_State_queue_on {K : PySem.W.Frag} {mg : Str → Option Value} (T : Txt K mg) : FuncData := fdOf K (He.fAd K ("State", some "queue_on"))
theorem Txt.F_p_State_queue_on {K : PySem.W.Frag} {mg : Str → Option Value} (T : Txt K mg) : Fun K "queue_on" "State.queue_on" s_p_State_queue_on (T.f_p_State_queue_on) (T.d_p_State_queue_on) := TopB.fun_ T (a := ("State", some "queue_on")) 40 rfl
theorem Txt.b_p_State_queue_on {K : PySem.W.Frag} {mg : Str → Option Value} (T : Txt K mg) : Binds K (T.d_p_State_queue_on) ["self", "way"] [] := (T.F_p_State_queue_on).binds (ps := ["self", "way"]) fun _ _ _ _ _ _ us hl => match us, hl with | [_, _], _ => rfl
theorem Txt.M_p_State_queue_on {K : PySem.W.Frag} {mg : Str → Option Value} (T : Txt K mg) : Meth K (T.a_State) "queue_on" (T.f_p_State_queue_on) := He.meth_ok (TopB.one T (f := .meth "State" "queue_on") 65 rfl)
abbrev Txt.f_p_State_marked {K : PySem.W.Frag} {mg : Str → Option Value} (T : Txt K mg) : Addr := He.fAd K ("State", some "marked")
abbrev Txt.d_p_State_marked {K : PySem.W.Frag} {mg : Str → Option Value} (T : Txt K mg) : FuncData := fdOf K (He.fAd K ("State", some "marked"))
theorem Txt.F_p_State_marked {K : PySem.W.Frag} {mg : Str → Option Value} (T : Txt K mg) : Fun K "marked" "State.marked" s_p_State_marked (T.f_p_State_marked) (T.d_p_State_marked) := TopB.fun_ T (a := ("State", some "marked")) 41 rfl
theorem Txt.b_p_State_marked {K : PySem.W.Frag} {mg : Str → Option Value} (T : Txt K mg) : Binds K (T.d_p_State_marked) ["self", "where"] [] := (T.F_p_State_marked).binds (ps := ["self", "where"]) fun _ _ _ _ _ _ us hl => match us, hl with | [_, _], _ => rfl
theorem Txt.M_p_State_marked {K : PySem.W.Frag} {mg : Str → Option Value} (T : Txt K mg) : Meth K (T.a_State) "marked" (T.f_p_State_marked) := He.meth_ok (TopB.one T (f := .meth "State" "marked") 66 rfl)
abbrev Txt.f_p_State_place_here {K : PySem.W.Frag} {mg : Str → Option Value} (T : Txt K mg) : Addr := He.fAd K ("State", some "place_here")
abbrev Txt.d_p_State_place_here {K : PySem.W.Frag} {mg : Str → Option Value} (T : Txt K mg) : FuncData := fdOf K (He.fAd K ("State", some "place_here"))
theorem Txt.F_p_State_place_here {K : PySem.W.Frag} {mg : Str → Option Value} (T : Txt K mg) : Fun K "place_here" "State.place_here" s_p_State_place_here (T.f_p_State_place_here) (T.d_p_State_place_here) := TopB.fun_ T (a := ("State", some "place_here")) 42 rfl
theorem Txt.b_p_State_place_here {K : PySem.W.Frag} {mg : Str → Option Value} (T : Txt K mg) : Binds K (T.d_p_State_place_here) ["self", "mast"] [] := (T.F_p_State_place_here).binds (ps := ["self", "mast"]) fun _ _ _ _ _ _ us hl => match us, hl with | [_, _], _ => rfl
theorem Txt.M_p_State_place_here {K : PySem.W.Frag} {mg : Str → Option Value} (T : Txt K mg) : Meth K (T.a_State) "place_here" (T.f_p_State_place_here) := He.meth_ok (TopB.one T (f := .meth "State" "place_here") 67 rfl)
abbrev Txt.f_p_State_masts_here {K : PySem.W.Frag} {mg : Str → Option Value} (T : Txt K mg) : Addr := He.fAd K ("State", some "masts_here")
abbrev Txt.d_p_State_masts_here {K : PySem.W.Frag} {mg : Str → Option Value} (T : Txt K mg) : FuncData := fdOf K (He.fAd K ("State", some "masts_here"))
theorem Txt.F_p_State_masts_here {K : PySem.W.Frag} {mg : Str → Option Value} (T : Txt K mg) : Fun K "masts_here" "State.masts_here" s_p_State_masts_here (T.f_p_State_masts_here) (T.d_p_State_masts_here) := TopB.fun_ T (a := ("State", some "masts_here")) 43 rfl
theorem Txt.b_p_State_masts_here {K : PySem.W.Frag} {mg : Str → Option Value} (T : Txt K mg) : Binds K (T.d_p_State_masts_here) ["self", "places"] [] := (T.F_p_State_masts_here).binds (ps := ["self", "places"]) fun _ _ _ _ _ _ us hl => match us, hl with | [_, _], _ => rfl
theorem Txt.M_p_State_masts_here {K : PySem.W.Frag} {mg : Str → Option Value} (T : Txt K mg) : Meth K (T.a_State) "masts_here" (T.f_p_State_masts_here) := He.meth_ok (TopB.one T (f := .meth "State" "masts_here") 68 rfl)
abbrev Txt.f_p_State_gaps_here {K : PySem.W.Frag} {mg : Str → Option Value} (T : Txt K mg) : Addr := He.fAd K ("State", some "gaps_here")
abbrev Txt.d_p_State_gaps_here {K : PySem.W.Frag} {mg : Str → Option Value} (T : Txt K mg) : FuncData := fdOf K (He.fAd K ("State", some "gaps_here"))
theorem Txt.F_p_State_gaps_here {K : PySem.W.Frag} {mg : Str → Option Value} (T : Txt K mg) : Fun K "gaps_here" "State.gaps_here" s_p_State_gaps_here (T.f_p_State_gaps_here) (T.d_p_State_gaps_here) := TopB.fun_ T (a := ("State", some "gaps_here")) 44 rfl
theorem Txt.b_p_State_gaps_here {K : PySem.W.Frag} {mg : Str → Option Value} (T : Txt K mg) : Binds K (T.d_p_State_gaps_here) ["self", "places"] [] := (T.F_p_State_gaps_here).binds (ps := ["self", "places"]) fun _ _ _ _ _ _ us hl => match us, hl with | [_, _], _ => rfl
theorem Txt.M_p_State_gaps_here {K : PySem.W.Frag} {mg : Str → Option Value} (T : Txt K mg) : Meth K (T.a_State) "gaps_here" (T.f_p_State_gaps_here) := He.meth_ok (TopB.one T (f := .meth "State" "gaps_here") 69 rfl)
abbrev Txt.f_p_State_motion {K : PySem.W.Frag} {mg : Str → Option Value} (T : Txt K mg) : Addr := He.fAd K ("State", some "motion")
abbrev Txt.d_p_State_motion {K : PySem.W.Frag} {mg : Str → Option Value} (T : Txt K mg) : FuncData := fdOf K (He.fAd K ("State", some "motion"))
theorem Txt.F_p_State_motion {K : PySem.W.Frag} {mg : Str → Option Value} (T : Txt K mg) : Fun K "motion" "State.motion" s_p_State_motion (T.f_p_State_motion) (T.d_p_State_motion) := TopB.fun_ T (a := ("State", some "motion")) 45 rfl
theorem Txt.b_p_State_motion {K : PySem.W.Frag} {mg : Str → Option Value} (T : Txt K mg) : Binds K (T.d_p_State_motion) ["self"] [] := (T.F_p_State_motion).binds (ps := ["self"]) fun _ _ _ _ _ _ us hl => match us, hl with | [_], _ => rfl
theorem Txt.M_p_State_motion {K : PySem.W.Frag} {mg : Str → Option Value} (T : Txt K mg) : Meth K (T.a_State) "motion" (T.f_p_State_motion) := He.meth_ok (TopB.one T (f := .meth "State" "motion") 70 rfl)
abbrev Txt.f_p_State_changes_by {K : PySem.W.Frag} {mg : Str → Option Value} (T : Txt K mg) : Addr := He.fAd K ("State", some "changes_by")
abbrev Txt.d_p_State_changes_by {K : PySem.W.Frag} {mg : Str → Option Value} (T : Txt K mg) : FuncData := fdOf K (He.fAd K ("State", some "changes_by"))
theorem Txt.F_p_State_changes_by {K : PySem.W.Frag} {mg : Str → Option Value} (T : Txt K mg) : Fun K "changes_by" "State.changes_by" s_p_State_changes_by (T.f_p_State_changes_by) (T.d_p_State_changes_by) := TopB.fun_ T (a := ("State", some "changes_by")) 46 rfl
theorem Txt.b_p_State_changes_by {K : PySem.W.Frag} {mg : Str → Option Value} (T : Txt K mg) : Binds K (T.d_p_State_changes_by) ["self", "motion"] [] := (T.F_p_State_changes_by).binds (ps := ["self", "motion"]) fun _ _ _ _ _ _ us hl => match us, hl with | [_, _], _ => rfl
theorem Txt.M_p_State_changes_by {K : PySem.W.Frag} {mg : Str → Option Value} (T : Txt K mg) : Meth K (T.a_State) "changes_by" (T.f_p_State_changes_by) := He.meth_ok (TopB.one T (f := .meth "State" "changes_by") 71 rfl)
abbrev Txt.f_p_State_book {K : PySem.W.Frag} {mg : Str → Option Value} (T : Txt K mg) : Addr := He.fAd K ("State", some "book")
abbrev Txt.d_p_State_book {K : PySem.W.Frag} {mg : Str → Option Value} (T : Txt K mg) : FuncData := fdOf K (He.fAd K ("State", some "book"))
theorem Txt.F_p_State_book {K : PySem.W.Frag} {mg : Str → Option Value} (T : Txt K mg) : Fun K "book" "State.book" s_p_State_book (T.f_p_State_book) (T.d_p_State_book) := TopB.fun_ T (a := ("State", some "book")) 47 rfl
theorem Txt.b_p_State_book {K : PySem.W.Frag} {mg : Str → Option Value} (T : Txt K mg) : Binds K (T.d_p_State_book) ["self", "way", "mast"] [] := (T.F_p_State_book).binds (ps := ["self", "way", "mast"]) fun _ _ _ _ _ _ us hl => match us, hl with | [_, _, _], _ => rfl
theorem Txt.M_p_State_book {K : PySem.W.Frag} {mg : Str → Option Value} (T : Txt K mg) : Meth K (T.a_State) "book" (T.f_p_State_book) := He.meth_ok (TopB.one T (f := .meth "State" "book") 72 rfl)
abbrev Txt.f_p_State_count_of {K : PySem.W.Frag} {mg : Str → Option Value} (T : Txt K mg) : Addr := He.fAd K ("State", some "count_of")
abbrev Txt.d_p_State_count_of {K : PySem.W.Frag} {mg : Str → Option Value} (T : Txt K mg) : FuncData := fdOf K (He.fAd K ("State", some "count_of"))
theorem Txt.F_p_State_count_of {K : PySem.W.Frag} {mg : Str → Option Value} (T : Txt K mg) : Fun K "count_of" "State.count_of" s_p_State_count_of (T.f_p_State_count_of) (T.d_p_State_count_of) := TopB.fun_ T (a := ("State", some "count_of")) 48 rfl
theorem Txt.b_p_State_count_of {K : PySem.W.Frag} {mg : Str → Option Value} (T : Txt K mg) : Binds K (T.d_p_State_count_of) ["self", "way", "mast"] [] := (T.F_p_State_count_of).binds (ps := ["self", "way", "mast"]) fun _ _ _ _ _ _ us hl => match us, hl with | [_, _, _], _ => rfl
theorem Txt.M_p_State_count_of {K : PySem.W.Frag} {mg : Str → Option Value} (T : Txt K mg) : Meth K (T.a_State) "count_of" (T.f_p_State_count_of) := He.meth_ok (TopB.one T (f := .meth "State" "count_of") 73 rfl)
abbrev Txt.f_p_State_entry {K : PySem.W.Frag} {mg : Str → Option Value} (T : Txt K mg) : Addr := He.fAd K ("State", some "entry")
abbrev Txt.d_p_State_entry {K : PySem.W.Frag} {mg : Str → Option Value} (T : Txt K mg) : FuncData := fdOf K (He.fAd K ("State", some "entry"))
theorem Txt.F_p_State_entry {K : PySem.W.Frag} {mg : Str → Option Value} (T : Txt K mg) : Fun K "entry" "State.entry" s_p_State_entry (T.f_p_State_entry) (T.d_p_State_entry) := TopB.fun_ T (a := ("State", some "entry")) 49 rfl
theorem Txt.b_p_State_entry {K : PySem.W.Frag} {mg : Str → Option Value} (T : Txt K mg) : Binds K (T.d_p_State_entry) ["self", "way", "mast", "number"] [] := (T.F_p_State_entry).binds (ps := ["self", "way", "mast", "number"]) fun _ _ _ _ _ _ us hl => match us, hl with | [_, _, _, _], _ => rfl
theorem Txt.M_p_State_entry {K : PySem.W.Frag} {mg : Str → Option Value} (T : Txt K mg) : Meth K (T.a_State) "entry" (T.f_p_State_entry) := He.meth_ok (TopB.one T (f := .meth "State" "entry") 74 rfl)
abbrev Txt.f_p_State_signs_written {K : PySem.W.Frag} {mg : Str → Option Value} (T : Txt K mg) : Addr := He.fAd K ("State", some "signs_written")
abbrev Txt.d_p_State_signs_written {K : PySem.W.Frag} {mg : Str → Option Value} (T : Txt K mg) : FuncData := fdOf K (He.fAd K ("State", some "signs_written"))
theorem Txt.F_p_State_signs_written {K : PySem.W.Frag} {mg : Str → Option Value} (T : Txt K mg) : Fun K "signs_written" "State.signs_written" s_p_State_signs_written (T.f_p_State_signs_written) (T.d_p_State_signs_written) := TopB.fun_ T (a := ("State", some "signs_written")) 50 rfl
theorem Txt.b_p_State_signs_written {K : PySem.W.Frag} {mg : Str → Option Value} (T : Txt K mg) : Binds K (T.d_p_State_signs_written) ["self", "way", "place"] [] := (T.F_p_State_signs_written).binds (ps := ["self", "way", "place"]) fun _ _ _ _ _ _ us hl => match us, hl with | [_, _, _], _ => rfl
theorem Txt.M_p_State_signs_written {K : PySem.W.Frag} {mg : Str → Option Value} (T : Txt K mg) : Meth K (T.a_State) "signs_written" (T.f_p_State_signs_written) := He.meth_ok (TopB.one T (f := .meth "State" "signs_written") 75 rfl)
abbrev Txt.f_p_State_told_of {K : PySem.W.Frag} {mg : Str → Option Value} (T : Txt K mg) : Addr := He.fAd K ("State", some "told_of")
abbrev Txt.d_p_State_told_of {K : PySem.W.Frag} {mg : Str → Option Value} (T : Txt K mg) : FuncData := fdOf K (He.fAd K ("State", some "told_of"))
theorem Txt.F_p_State_told_of {K : PySem.W.Frag} {mg : Str → Option Value} (T : Txt K mg) : Fun K "told_of" "State.told_of" s_p_State_told_of (T.f_p_State_told_of) (T.d_p_State_told_of) := TopB.fun_ T (a := ("State", some "told_of")) 51 rfl
theorem Txt.b_p_State_told_of {K : PySem.W.Frag} {mg : Str → Option Value} (T : Txt K mg) : Binds K (T.d_p_State_told_of) ["self", "way", "number"] [] := (T.F_p_State_told_of).binds (ps := ["self", "way", "number"]) fun _ _ _ _ _ _ us hl => match us, hl with | [_, _, _], _ => rfl
theorem Txt.M_p_State_told_of {K : PySem.W.Frag} {mg : Str → Option Value} (T : Txt K mg) : Meth K (T.a_State) "told_of" (T.f_p_State_told_of) := He.meth_ok (TopB.one T (f := .meth "State" "told_of") 76 rfl)
abbrev Txt.f_p_Line_init {K : PySem.W.Frag} {mg : Str → Option Value} (T : Txt K mg) : Addr := He.fAd K ("Line", some "__init__")
abbrev Txt.d_p_Line_init {K : PySem.W.Frag} {mg : Str → Option Value} (T : Txt K mg) : FuncData := fdOf K (He.fAd K ("Line", some "__init__"))
theorem Txt.F_p_Line_init {K : PySem.W.Frag} {mg : Str → Option Value} (T : Txt K mg) : Fun K "__init__" "Line.__init__" s_p_Line_init (T.f_p_Line_init) (T.d_p_Line_init) := TopB.fun_ T (a := ("Line", some "__init__")) 52 rfl
theorem Txt.b_p_Line_init {K : PySem.W.Frag} {mg : Str → Option Value} (T : Txt K mg) : Binds K (T.d_p_Line_init) ["self", "masts"] [] := (T.F_p_Line_init).binds (ps := ["self", "masts"]) fun _ _ _ _ _ _ us hl => match us, hl with | [_, _], _ => rfl
theorem Txt.M_p_Line_init {K : PySem.W.Frag} {mg : Str → Option Value} (T : Txt K mg) : Meth K (T.a_Line) "__init__" (T.f_p_Line_init) := He.meth_ok (TopB.one T (f := .meth "Line" "__init__") 77 rfl)
abbrev Txt.f_p_Line_do {K : PySem.W.Frag} {mg : Str → Option Value} (T : Txt K mg) : Addr := He.fAd K ("Line", some "do")
abbrev Txt.d_p_Line_do {K : PySem.W.Frag} {mg : Str → Option Value} (T : Txt K mg) : FuncData := fdOf K (He.fAd K ("Line", some "do"))
theorem Txt.F_p_Line_do {K : PySem.W.Frag} {mg : Str → Option Value} (T : Txt K mg) : Fun K "do" "Line.do" s_p_Line_do (T.f_p_Line_do) (T.d_p_Line_do) := TopB.fun_ T (a := ("Line", some "do")) 53 rfl
theorem Txt.b_p_Line_do {K : PySem.W.Frag} {mg : Str → Option Value} (T : Txt K mg) : Binds K (T.d_p_Line_do) ["self", "deed", "changes"] [] := (T.F_p_Line_do).binds (ps := ["self", "deed", "changes"]) fun _ _ _ _ _ _ us hl => match us, hl with | [_, _, _], _ => rfl
theorem Txt.M_p_Line_do {K : PySem.W.Frag} {mg : Str → Option Value} (T : Txt K mg) : Meth K (T.a_Line) "do" (T.f_p_Line_do) := He.meth_ok (TopB.one T (f := .meth "Line" "do") 78 rfl)
abbrev Txt.f_p_Line_send {K : PySem.W.Frag} {mg : Str → Option Value} (T : Txt K mg) : Addr := He.fAd K ("Line", some "send")
abbrev Txt.d_p_Line_send {K : PySem.W.Frag} {mg : Str → Option Value} (T : Txt K mg) : FuncData := fdOf K (He.fAd K ("Line", some "send"))
theorem Txt.F_p_Line_send {K : PySem.W.Frag} {mg : Str → Option Value} (T : Txt K mg) : Fun K "send" "Line.send" s_p_Line_send (T.f_p_Line_send) (T.d_p_Line_send) := TopB.fun_ T (a := ("Line", some "send")) 54 rfl
theorem Txt.b_p_Line_send {K : PySem.W.Frag} {mg : Str → Option Value} (T : Txt K mg) : Binds K (T.d_p_Line_send) ["self", "way", "signs"] [] := (T.F_p_Line_send).binds (ps := ["self", "way", "signs"]) fun _ _ _ _ _ _ us hl => match us, hl with | [_, _, _], _ => rfl
theorem Txt.M_p_Line_send {K : PySem.W.Frag} {mg : Str → Option Value} (T : Txt K mg) : Meth K (T.a_Line) "send" (T.f_p_Line_send) := He.meth_ok (TopB.one T (f := .meth "Line" "send") 79 rfl)
abbrev Txt.f_p_Line_let_wait {K : PySem.W.Frag} {mg : Str → Option Value} (T : Txt K mg) : Addr := He.fAd K ("Line", some "let_wait")
abbrev Txt.d_p_Line_let_wait {K : PySem.W.Frag} {mg : Str → Option Value} (T : Txt K mg) : FuncData := fdOf K (He.fAd K ("Line", some "let_wait"))
theorem Txt.F_p_Line_let_wait {K : PySem.W.Frag} {mg : Str → Option Value} (T : Txt K mg) : Fun K "let_wait" "Line.let_wait" s_p_Line_let_wait (T.f_p_Line_let_wait) (T.d_p_Line_let_wait) := TopB.fun_ T (a := ("Line", some "let_wait")) 55 rfl
theorem Txt.b_p_Line_let_wait {K : PySem.W.Frag} {mg : Str → Option Value} (T : Txt K mg) : Binds K (T.d_p_Line_let_wait) ["self", "deed", "at", "signs"] [] := (T.F_p_Line_let_wait).binds (ps := ["self", "deed", "at", "signs"]) fun _ _ _ _ _ _ us hl => match us, hl with | [_, _, _, _], _ => rfl
theorem Txt.M_p_Line_let_wait {K : PySem.W.Frag} {mg : Str → Option Value} (T : Txt K mg) : Meth K (T.a_Line) "let_wait" (T.f_p_Line_let_wait) := He.meth_ok (TopB.one T (f := .meth "Line" "let_wait") 80 rfl)
abbrev Txt.f_p_Line_act {K : PySem.W.Frag} {mg : Str → Option Value} (T : Txt K mg) : Addr := He.fAd K ("Line", some "act")
abbrev Txt.d_p_Line_act {K : PySem.W.Frag} {mg : Str → Option Value} (T : Txt K mg) : FuncData := fdOf K (He.fAd K ("Line", some "act"))
theorem Txt.F_p_Line_act {K : PySem.W.Frag} {mg : Str → Option Value} (T : Txt K mg) : Fun K "act" "Line.act" s_p_Line_act (T.f_p_Line_act) (T.d_p_Line_act) := TopB.fun_ T (a := ("Line", some "act")) 56 rfl
theorem Txt.b_p_Line_act {K : PySem.W.Frag} {mg : Str → Option Value} (T : Txt K mg) : Binds K (T.d_p_Line_act) ["self", "mast"] [] := (T.F_p_Line_act).binds (ps := ["self", "mast"]) fun _ _ _ _ _ _ us hl => match us, hl with | [_, _], _ => rfl
theorem Txt.M_p_Line_act {K : PySem.W.Frag} {mg : Str → Option Value} (T : Txt K mg) : Meth K (T.a_Line) "act" (T.f_p_Line_act) := He.meth_ok (TopB.one T (f := .meth "Line" "act") 81 rfl)
abbrev Txt.f_p_Line_slip {K : PySem.W.Frag} {mg : Str → Option Value} (T : Txt K mg) : Addr := He.fAd K ("Line", some "slip")
abbrev Txt.d_p_Line_slip {K : PySem.W.Frag} {mg : Str → Option Value} (T : Txt K mg) : FuncData := fdOf K (He.fAd K ("Line", some "slip"))
theorem Txt.F_p_Line_slip {K : PySem.W.Frag} {mg : Str → Option Value} (T : Txt K mg) : Fun K "slip" "Line.slip" s_p_Line_slip (T.f_p_Line_slip) (T.d_p_Line_slip) := TopB.fun_ T (a := ("Line", some "slip")) 57 rfl
theorem Txt.b_p_Line_slip {K : PySem.W.Frag} {mg : Str → Option Value} (T : Txt K mg) : Binds K (T.d_p_Line_slip) ["self", "mast", "seen", "shown"] [] := (T.F_p_Line_slip).binds (ps := ["self", "mast", "seen", "shown"]) fun _ _ _ _ _ _ us hl => match us, hl with | [_, _, _, _], _ => rfl
theorem Txt.M_p_Line_slip {K : PySem.W.Frag} {mg : Str → Option Value} (T : Txt K mg) : Meth K (T.a_Line) "slip" (T.f_p_Line_slip) := He.meth_ok (TopB.one T (f := .meth "Line" "slip") 82 rfl)
abbrev Txt.f_p_Line_ready_place {K : PySem.W.Frag} {mg : Str → Option Value} (T : Txt K mg) : Addr := He.fAd K ("Line", some "ready_place")
abbrev Txt.d_p_Line_ready_place {K : PySem.W.Frag} {mg : Str → Option Value} (T : Txt K mg) : FuncData := fdOf K (He.fAd K ("Line", some "ready_place"))
theorem Txt.F_p_Line_ready_place {K : PySem.W.Frag} {mg : Str → Option Value} (T : Txt K mg) : Fun K "ready_place" "Line.ready_place" s_p_Line_ready_place (T.f_p_Line_ready_place) (T.d_p_Line_ready_place) := TopB.fun_ T (a := ("Line", some "ready_place")) 58 rfl
theorem Txt.b_p_Line_ready_place {K : PySem.W.Frag} {mg : Str → Option Value} (T : Txt K mg) : Binds K (T.d_p_Line_ready_place) ["self", "motion", "mast"] [] := (T.F_p_Line_ready_place).binds (ps := ["self", "motion", "mast"]) fun _ _ _ _ _ _ us hl => match us, hl with | [_, _, _], _ => rfl
theorem Txt.M_p_Line_ready_place {K : PySem.W.Frag} {mg : Str → Option Value} (T : Txt K mg) : Meth K (T.a_Line) "ready_place" (T.f_p_Line_ready_place) := He.meth_ok (TopB.one T (f := .meth "Line" "ready_place") 83 rfl)
abbrev Txt.f_p_Line_fog {K : PySem.W.Frag} {mg : Str → Option Value} (T : Txt K mg) : Addr := He.fAd K ("Line", some "fog")
abbrev Txt.d_p_Line_fog {K : PySem.W.Frag} {mg : Str → Option Value} (T : Txt K mg) : FuncData := fdOf K (He.fAd K ("Line", some "fog"))
theorem Txt.F_p_Line_fog {K : PySem.W.Frag} {mg : Str → Option Value} (T : Txt K mg) : Fun K "fog" "Line.fog" s_p_Line_fog (T.f_p_Line_fog) (T.d_p_Line_fog) := TopB.fun_ T (a := ("Line", some "fog")) 59 rfl
theorem Txt.b_p_Line_fog {K : PySem.W.Frag} {mg : Str → Option Value} (T : Txt K mg) : Binds K (T.d_p_Line_fog) ["self", "gap"] [] := (T.F_p_Line_fog).binds (ps := ["self", "gap"]) fun _ _ _ _ _ _ us hl => match us, hl with | [_, _], _ => rfl
theorem Txt.M_p_Line_fog {K : PySem.W.Frag} {mg : Str → Option Value} (T : Txt K mg) : Meth K (T.a_Line) "fog" (T.f_p_Line_fog) := He.meth_ok (TopB.one T (f := .meth "Line" "fog") 84 rfl)
abbrev Txt.f_p_Line_turn {K : PySem.W.Frag} {mg : Str → Option Value} (T : Txt K mg) : Addr := He.fAd K ("Line", some "turn")
abbrev Txt.d_p_Line_turn {K : PySem.W.Frag} {mg : Str → Option Value} (T : Txt K mg) : FuncData := fdOf K (He.fAd K ("Line", some "turn"))
theorem Txt.F_p_Line_turn {K : PySem.W.Frag} {mg : Str → Option Value} (T : Txt K mg) : Fun K "turn" "Line.turn" s_p_Line_turn (T.f_p_Line_turn) (T.d_p_Line_turn) := TopB.fun_ T (a := ("Line", some "turn")) 60 rfl
theorem Txt.b_p_Line_turn {K : PySem.W.Frag} {mg : Str → Option Value} (T : Txt K mg) : Binds K (T.d_p_Line_turn) ["self"] [] := (T.F_p_Line_turn).binds (ps := ["self"]) fun _ _ _ _ _ _ us hl => match us, hl with | [_], _ => rfl
theorem Txt.M_p_Line_turn {K : PySem.W.Frag} {mg : Str → Option Value} (T : Txt K mg) : Meth K (T.a_Line) "turn" (T.f_p_Line_turn) := He.meth_ok (TopB.one T (f := .meth "Line" "turn") 85 rfl)
abbrev Txt.f_p_Line_lose {K : PySem.W.Frag} {mg : Str → Option Value} (T : Txt K mg) : Addr := He.fAd K ("Line", some "lose")
abbrev Txt.d_p_Line_lose {K : PySem.W.Frag} {mg : Str → Option Value} (T : Txt K mg) : FuncData := fdOf K (He.fAd K ("Line", some "lose"))
theorem Txt.F_p_Line_lose {K : PySem.W.Frag} {mg : Str → Option Value} (T : Txt K mg) : Fun K "lose" "Line.lose" s_p_Line_lose (T.f_p_Line_lose) (T.d_p_Line_lose) := TopB.fun_ T (a := ("Line", some "lose")) 61 rfl
theorem Txt.b_p_Line_lose {K : PySem.W.Frag} {mg : Str → Option Value} (T : Txt K mg) : Binds K (T.d_p_Line_lose) ["self", "way", "mast", "number"] [] := (T.F_p_Line_lose).binds (ps := ["self", "way", "mast", "number"]) fun _ _ _ _ _ _ us hl => match us, hl with | [_, _, _, _], _ => rfl
theorem Txt.M_p_Line_lose {K : PySem.W.Frag} {mg : Str → Option Value} (T : Txt K mg) : Meth K (T.a_Line) "lose" (T.f_p_Line_lose) := He.meth_ok (TopB.one T (f := .meth "Line" "lose") 86 rfl)
abbrev Txt.f_p_Line_enter {K : PySem.W.Frag} {mg : Str → Option Value} (T : Txt K mg) : Addr := He.fAd K ("Line", some "enter")
abbrev Txt.d_p_Line_enter {K : PySem.W.Frag} {mg : Str → Option Value} (T : Txt K mg) : FuncData := fdOf K (He.fAd K ("Line", some "enter"))
theorem Txt.F_p_Line_enter {K : PySem.W.Frag} {mg : Str → Option Value} (T : Txt K mg) : Fun K "enter" "Line.enter" s_p_Line_enter (T.f_p_Line_enter) (T.d_p_Line_enter) := TopB.fun_ T (a := ("Line", some "enter")) 62 rfl
theorem Txt.b_p_Line_enter {K : PySem.W.Frag} {mg : Str → Option Value} (T : Txt K mg) : Binds K (T.d_p_Line_enter) ["self", "page", "line", "word"] [] := (T.F_p_Line_enter).binds (ps := ["self", "page", "line", "word"]) fun _ _ _ _ _ _ us hl => match us, hl with | [_, _, _, _], _ => rfl
theorem Txt.M_p_Line_enter {K : PySem.W.Frag} {mg : Str → Option Value} (T : Txt K mg) : Meth K (T.a_Line) "enter" (T.f_p_Line_enter) := He.meth_ok (TopB.one T (f := .meth "Line" "enter") 87 rfl)
abbrev Txt.f_p_Line_strike {K : PySem.W.Frag} {mg : Str → Option Value} (T : Txt K mg) : Addr := He.fAd K ("Line", some "strike")
abbrev Txt.d_p_Line_strike {K : PySem.W.Frag} {mg : Str → Option Value} (T : Txt K mg) : FuncData := fdOf K (He.fAd K ("Line", some "strike"))
theorem Txt.F_p_Line_strike {K : PySem.W.Frag} {mg : Str → Option Value} (T : Txt K mg) : Fun K "strike" "Line.strike" s_p_Line_strike (T.f_p_Line_strike) (T.d_p_Line_strike) := TopB.fun_ T (a := ("Line", some "strike")) 63 rfl
theorem Txt.b_p_Line_strike {K : PySem.W.Frag} {mg : Str → Option Value} (T : Txt K mg) : Binds K (T.d_p_Line_strike) ["self", "page", "line"] [] := (T.F_p_Line_strike).binds (ps := ["self", "page", "line"]) fun _ _ _ _ _ _ us hl => match us, hl with | [_, _, _], _ => rfl
theorem Txt.M_p_Line_strike {K : PySem.W.Frag} {mg : Str → Option Value} (T : Txt K mg) : Meth K (T.a_Line) "strike" (T.f_p_Line_strike) := He.meth_ok (TopB.one T (f := .meth "Line" "strike") 88 rfl)
abbrev Txt.f_p_Line_masts {K : PySem.W.Frag} {mg : Str → Option Value} (T : Txt K mg) : Addr := He.fAd K ("Line", some "masts")
abbrev Txt.d_p_Line_masts {K : PySem.W.Frag} {mg : Str → Option Value} (T : Txt K mg) : FuncData := fdOf K (He.fAd K ("Line", some "masts"))
theorem Txt.F_p_Line_masts {K : PySem.W.Frag} {mg : Str → Option Value} (T : Txt K mg) : Fun K "masts" "Line.masts" s_p_Line_masts (T.f_p_Line_masts) (T.d_p_Line_masts) := TopB.fun_ T (a := ("Line", some "masts")) 64 rfl
theorem Txt.b_p_Line_masts {K : PySem.W.Frag} {mg : Str → Option Value} (T : Txt K mg) : Binds K (T.d_p_Line_masts) ["self"] [] := (T.F_p_Line_masts).binds (ps := ["self"]) fun _ _ _ _ _ _ us hl => match us, hl with | [_], _ => rfl
theorem Txt.M_p_Line_masts {K : PySem.W.Frag} {mg : Str → Option Value} (T : Txt K mg) : Meth K (T.a_Line) "masts" (T.f_p_Line_masts) := He.meth_ok (TopB.one T (f := .meth "Line" "masts") 89 rfl)
abbrev Txt.f_p_Line_way {K : PySem.W.Frag} {mg : Str → Option Value} (T : Txt K mg) : Addr := He.fAd K ("Line", some "way")
abbrev Txt.d_p_Line_way {K : PySem.W.Frag} {mg : Str → Option Value} (T : Txt K mg) : FuncData := fdOf K (He.fAd K ("Line", some "way"))
theorem Txt.F_p_Line_way {K : PySem.W.Frag} {mg : Str → Option Value} (T : Txt K mg) : Fun K "way" "Line.way" s_p_Line_way (T.f_p_Line_way) (T.d_p_Line_way) := TopB.fun_ T (a := ("Line", some "way")) 65 rfl
theorem Txt.b_p_Line_way {K : PySem.W.Frag} {mg : Str → Option Value} (T : Txt K mg) : Binds K (T.d_p_Line_way) ["self"] [] := (T.F_p_Line_way).binds (ps := ["self"]) fun _ _ _ _ _ _ us hl => match us, hl with | [_], _ => rfl
theorem Txt.M_p_Line_way {K : PySem.W.Frag} {mg : Str → Option Value} (T : Txt K mg) : Meth K (T.a_Line) "way" (T.f_p_Line_way) := He.meth_ok (TopB.one T (f := .meth "Line" "way") 90 rfl)
abbrev Txt.f_p_Line_arms {K : PySem.W.Frag} {mg : Str → Option Value} (T : Txt K mg) : Addr := He.fAd K ("Line", some "arms")
abbrev Txt.d_p_Line_arms {K : PySem.W.Frag} {mg : Str → Option Value} (T : Txt K mg) : FuncData := fdOf K (He.fAd K ("Line", some "arms"))
theorem Txt.F_p_Line_arms {K : PySem.W.Frag} {mg : Str → Option Value} (T : Txt K mg) : Fun K "arms" "Line.arms" s_p_Line_arms (T.f_p_Line_arms) (T.d_p_Line_arms) := TopB.fun_ T (a := ("Line", some "arms")) 66 rfl
theorem Txt.b_p_Line_arms {K : PySem.W.Frag} {mg : Str → Option Value} (T : Txt K mg) : Binds K (T.d_p_Line_arms) ["self"] [] := (T.F_p_Line_arms).binds (ps := ["self"]) fun _ _ _ _ _ _ us hl => match us, hl with | [_], _ => rfl
theorem Txt.M_p_Line_arms {K : PySem.W.Frag} {mg : Str → Option Value} (T : Txt K mg) : Meth K (T.a_Line) "arms" (T.f_p_Line_arms) := He.meth_ok (TopB.one T (f := .meth "Line" "arms") 91 rfl)
abbrev Txt.f_p_Line_waiting {K : PySem.W.Frag} {mg : Str → Option Value} (T : Txt K mg) : Addr := He.fAd K ("Line", some "waiting")
abbrev Txt.d_p_Line_waiting {K : PySem.W.Frag} {mg : Str → Option Value} (T : Txt K mg) : FuncData := fdOf K (He.fAd K ("Line", some "waiting"))
theorem Txt.F_p_Line_waiting {K : PySem.W.Frag} {mg : Str → Option Value} (T : Txt K mg) : Fun K "waiting" "Line.waiting" s_p_Line_waiting (T.f_p_Line_waiting) (T.d_p_Line_waiting) := TopB.fun_ T (a := ("Line", some "waiting")) 67 rfl
theorem Txt.b_p_Line_waiting {K : PySem.W.Frag} {mg : Str → Option Value} (T : Txt K mg) : Binds K (T.d_p_Line_waiting) ["self", "way"] [] := (T.F_p_Line_waiting).binds (ps := ["self", "way"]) fun _ _ _ _ _ _ us hl => match us, hl with | [_, _], _ => rfl
theorem Txt.M_p_Line_waiting {K : PySem.W.Frag} {mg : Str → Option Value} (T : Txt K mg) : Meth K (T.a_Line) "waiting" (T.f_p_Line_waiting) := He.meth_ok (TopB.one T (f := .meth "Line" "waiting") 92 rfl)
abbrev Txt.f_p_Line_asleep {K : PySem.W.Frag} {mg : Str → Option Value} (T : Txt K mg) : Addr := He.fAd K ("Line", some "asleep")
abbrev Txt.d_p_Line_asleep {K : PySem.W.Frag} {mg : Str → Option Value} (T : Txt K mg) : FuncData := fdOf K (He.fAd K ("Line", some "asleep"))
theorem Txt.F_p_Line_asleep {K : PySem.W.Frag} {mg : Str → Option Value} (T : Txt K mg) : Fun K "asleep" "Line.asleep" s_p_Line_asleep (T.f_p_Line_asleep) (T.d_p_Line_asleep) := TopB.fun_ T (a := ("Line", some "asleep")) 68 rfl
theorem Txt.b_p_Line_asleep {K : PySem.W.Frag} {mg : Str → Option Value} (T : Txt K mg) : Binds K (T.d_p_Line_asleep) ["self"] [] := (T.F_p_Line_asleep).binds (ps := ["self"]) fun _ _ _ _ _ _ us hl => match us, hl with | [_], _ => rfl
theorem Txt.M_p_Line_asleep {K : PySem.W.Frag} {mg : Str → Option Value} (T : Txt K mg) : Meth K (T.a_Line) "asleep" (T.f_p_Line_asleep) := He.meth_ok (TopB.one T (f := .meth "Line" "asleep") 93 rfl)
abbrev Txt.f_p_Line_fogs {K : PySem.W.Frag} {mg : Str → Option Value} (T : Txt K mg) : Addr := He.fAd K ("Line", some "fogs")
abbrev Txt.d_p_Line_fogs {K : PySem.W.Frag} {mg : Str → Option Value} (T : Txt K mg) : FuncData := fdOf K (He.fAd K ("Line", some "fogs"))
theorem Txt.F_p_Line_fogs {K : PySem.W.Frag} {mg : Str → Option Value} (T : Txt K mg) : Fun K "fogs" "Line.fogs" s_p_Line_fogs (T.f_p_Line_fogs) (T.d_p_Line_fogs) := TopB.fun_ T (a := ("Line", some "fogs")) 69 rfl
theorem Txt.b_p_Line_fogs {K : PySem.W.Frag} {mg : Str → Option Value} (T : Txt K mg) : Binds K (T.d_p_Line_fogs) ["self"] [] := (T.F_p_Line_fogs).binds (ps := ["self"]) fun _ _ _ _ _ _ us hl => match us, hl with | [_], _ => rfl
theorem Txt.M_p_Line_fogs {K : PySem.W.Frag} {mg : Str → Option Value} (T : Txt K mg) : Meth K (T.a_Line) "fogs" (T.f_p_Line_fogs) := He.meth_ok (TopB.one T (f := .meth "Line" "fogs") 94 rfl)
abbrev Txt.f_p_Line_ready {K : PySem.W.Frag} {mg : Str → Option Value} (T : Txt K mg) : Addr := He.fAd K ("Line", some "ready")
abbrev Txt.d_p_Line_ready {K : PySem.W.Frag} {mg : Str → Option Value} (T : Txt K mg) : FuncData := fdOf K (He.fAd K ("Line", some "ready"))
theorem Txt.F_p_Line_ready {K : PySem.W.Frag} {mg : Str → Option Value} (T : Txt K mg) : Fun K "ready" "Line.ready" s_p_Line_ready (T.f_p_Line_ready) (T.d_p_Line_ready) := TopB.fun_ T (a := ("Line", some "ready")) 70 rfl
theorem Txt.b_p_Line_ready {K : PySem.W.Frag} {mg : Str → Option Value} (T : Txt K mg) : Binds K (T.d_p_Line_ready) ["self"] [] := (T.F_p_Line_ready).binds (ps := ["self"]) fun _ _ _ _ _ _ us hl => match us, hl with | [_], _ => rfl
theorem Txt.M_p_Line_ready {K : PySem.W.Frag} {mg : Str → Option Value} (T : Txt K mg) : Meth K (T.a_Line) "ready" (T.f_p_Line_ready) := He.meth_ok (TopB.one T (f := .meth "Line" "ready") 95 rfl)
abbrev Txt.f_p_Line_waits {K : PySem.W.Frag} {mg : Str → Option Value} (T : Txt K mg) : Addr := He.fAd K ("Line", some "waits")
abbrev Txt.d_p_Line_waits {K : PySem.W.Frag} {mg : Str → Option Value} (T : Txt K mg) : FuncData := fdOf K (He.fAd K ("Line", some "waits"))
theorem Txt.F_p_Line_waits {K : PySem.W.Frag} {mg : Str → Option Value} (T : Txt K mg) : Fun K "waits" "Line.waits" s_p_Line_waits (T.f_p_Line_waits) (T.d_p_Line_waits) := TopB.fun_ T (a := ("Line", some "waits")) 71 rfl
theorem Txt.b_p_Line_waits {K : PySem.W.Frag} {mg : Str → Option Value} (T : Txt K mg) : Binds K (T.d_p_Line_waits) ["self", "mast"] [] := (T.F_p_Line_waits).binds (ps := ["self", "mast"]) fun _ _ _ _ _ _ us hl => match us, hl with | [_, _], _ => rfl
theorem Txt.M_p_Line_waits {K : PySem.W.Frag} {mg : Str → Option Value} (T : Txt K mg) : Meth K (T.a_Line) "waits" (T.f_p_Line_waits) := He.meth_ok (TopB.one T (f := .meth "Line" "waits") 96 rfl)
abbrev Txt.f_p_Line_sent {K : PySem.W.Frag} {mg : Str → Option Value} (T : Txt K mg) : Addr := He.fAd K ("Line", some "sent")
abbrev Txt.d_p_Line_sent {K : PySem.W.Frag} {mg : Str → Option Value} (T : Txt K mg) : FuncData := fdOf K (He.fAd K ("Line", some "sent"))
theorem Txt.F_p_Line_sent {K : PySem.W.Frag} {mg : Str → Option Value} (T : Txt K mg) : Fun K "sent" "Line.sent" s_p_Line_sent (T.f_p_Line_sent) (T.d_p_Line_sent) := TopB.fun_ T (a := ("Line", some "sent")) 72 rfl
theorem Txt.b_p_Line_sent {K : PySem.W.Frag} {mg : Str → Option Value} (T : Txt K mg) : Binds K (T.d_p_Line_sent) ["self", "way"] [] := (T.F_p_Line_sent).binds (ps := ["self", "way"]) fun _ _ _ _ _ _ us hl => match us, hl with | [_, _], _ => rfl
theorem Txt.M_p_Line_sent {K : PySem.W.Frag} {mg : Str → Option Value} (T : Txt K mg) : Meth K (T.a_Line) "sent" (T.f_p_Line_sent) := He.meth_ok (TopB.one T (f := .meth "Line" "sent") 97 rfl)
abbrev Txt.f_p_Line_heard {K : PySem.W.Frag} {mg : Str → Option Value} (T : Txt K mg) : Addr := He.fAd K ("Line", some "heard")
abbrev Txt.d_p_Line_heard {K : PySem.W.Frag} {mg : Str → Option Value} (T : Txt K mg) : FuncData := fdOf K (He.fAd K ("Line", some "heard"))
theorem Txt.F_p_Line_heard {K : PySem.W.Frag} {mg : Str → Option Value} (T : Txt K mg) : Fun K "heard" "Line.heard" s_p_Line_heard (T.f_p_Line_heard) (T.d_p_Line_heard) := TopB.fun_ T (a := ("Line", some "heard")) 73 rfl
theorem Txt.b_p_Line_heard {K : PySem.W.Frag} {mg : Str → Option Value} (T : Txt K mg) : Binds K (T.d_p_Line_heard) ["self", "way"] [] := (T.F_p_Line_heard).binds (ps := ["self", "way"]) fun _ _ _ _ _ _ us hl => match us, hl with | [_, _], _ => rfl
theorem Txt.M_p_Line_heard {K : PySem.W.Frag} {mg : Str → Option Value} (T : Txt K mg) : Meth K (T.a_Line) "heard" (T.f_p_Line_heard) := He.meth_ok (TopB.one T (f := .meth "Line" "heard") 98 rfl)
abbrev Txt.f_p_Line_words {K : PySem.W.Frag} {mg : Str → Option Value} (T : Txt K mg) : Addr := He.fAd K ("Line", some "words")
abbrev Txt.d_p_Line_words {K : PySem.W.Frag} {mg : Str → Option Value} (T : Txt K mg) : FuncData := fdOf K (He.fAd K ("Line", some "words"))
theorem Txt.F_p_Line_words {K : PySem.W.Frag} {mg : Str → Option Value} (T : Txt K mg) : Fun K "words" "Line.words" s_p_Line_words (T.f_p_Line_words) (T.d_p_Line_words) := TopB.fun_ T (a := ("Line", some "words")) 74 rfl
theorem Txt.b_p_Line_words {K : PySem.W.Frag} {mg : Str → Option Value} (T : Txt K mg) : Binds K (T.d_p_Line_words) ["self"] [] := (T.F_p_Line_words).binds (ps := ["self"]) fun _ _ _ _ _ _ us hl => match us, hl with | [_], _ => rfl
theorem Txt.M_p_Line_words {K : PySem.W.Frag} {mg : Str → Option Value} (T : Txt K mg) : Meth K (T.a_Line) "words" (T.f_p_Line_words) := He.meth_ok (TopB.one T (f := .meth "Line" "words") 99 rfl)
abbrev Txt.f_p_Line_row {K : PySem.W.Frag} {mg : Str → Option Value} (T : Txt K mg) : Addr := He.fAd K ("Line", some "row")
abbrev Txt.d_p_Line_row {K : PySem.W.Frag} {mg : Str → Option Value} (T : Txt K mg) : FuncData := fdOf K (He.fAd K ("Line", some "row"))
theorem Txt.F_p_Line_row {K : PySem.W.Frag} {mg : Str → Option Value} (T : Txt K mg) : Fun K "row" "Line.row" s_p_Line_row (T.f_p_Line_row) (T.d_p_Line_row) := TopB.fun_ T (a := ("Line", some "row")) 75 rfl
theorem Txt.b_p_Line_row {K : PySem.W.Frag} {mg : Str → Option Value} (T : Txt K mg) : Binds K (T.d_p_Line_row) ["self", "way", "mast", "number"] [] := (T.F_p_Line_row).binds (ps := ["self", "way", "mast", "number"]) fun _ _ _ _ _ _ us hl => match us, hl with | [_, _, _, _], _ => rfl
theorem Txt.M_p_Line_row {K : PySem.W.Frag} {mg : Str → Option Value} (T : Txt K mg) : Meth K (T.a_Line) "row" (T.f_p_Line_row) := He.meth_ok (TopB.one T (f := .meth "Line" "row") 100 rfl)
abbrev Txt.f_p_Line_slips {K : PySem.W.Frag} {mg : Str → Option Value} (T : Txt K mg) : Addr := He.fAd K ("Line", some "slips")
abbrev Txt.d_p_Line_slips {K : PySem.W.Frag} {mg : Str → Option Value} (T : Txt K mg) : FuncData := fdOf K (He.fAd K ("Line", some "slips"))
theorem Txt.F_p_Line_slips {K : PySem.W.Frag} {mg : Str → Option Value} (T : Txt K mg) : Fun K "slips" "Line.slips" s_p_Line_slips (T.f_p_Line_slips) (T.d_p_Line_slips) := TopB.fun_ T (a := ("Line", some "slips")) 76 rfl
theorem Txt.b_p_Line_slips {K : PySem.W.Frag} {mg : Str → Option Value} (T : Txt K mg) : Binds K (T.d_p_Line_slips) ["self", "way", "number"] [] := (T.F_p_Line_slips).binds (ps := ["self", "way", "number"]) fun _ _ _ _ _ _ us hl => match us, hl with | [_, _, _], _ => rfl
theorem Txt.M_p_Line_slips {K : PySem.W.Frag} {mg : Str → Option Value} (T : Txt K mg) : Meth K (T.a_Line) "slips" (T.f_p_Line_slips) := He.meth_ok (TopB.one T (f := .meth "Line" "slips") 101 rfl)
abbrev Txt.f_p_Line_deeds {K : PySem.W.Frag} {mg : Str → Option Value} (T : Txt K mg) : Addr := He.fAd K ("Line", some "deeds")
abbrev Txt.d_p_Line_deeds {K : PySem.W.Frag} {mg : Str → Option Value} (T : Txt K mg) : FuncData := fdOf K (He.fAd K ("Line", some "deeds"))
theorem Txt.F_p_Line_deeds {K : PySem.W.Frag} {mg : Str → Option Value} (T : Txt K mg) : Fun K "deeds" "Line.deeds" s_p_Line_deeds (T.f_p_Line_deeds) (T.d_p_Line_deeds) := TopB.fun_ T (a := ("Line", some "deeds")) 77 rfl
theorem Txt.b_p_Line_deeds {K : PySem.W.Frag} {mg : Str → Option Value} (T : Txt K mg) : Binds K (T.d_p_Line_deeds) ["self"] [] := (T.F_p_Line_deeds).binds (ps := ["self"]) fun _ _ _ _ _ _ us hl => match us, hl with | [_], _ => rfl
theorem Txt.M_p_Line_deeds {K : PySem.W.Frag} {mg : Str → Option Value} (T : Txt K mg) : Meth K (T.a_Line) "deeds" (T.f_p_Line_deeds) := He.meth_ok (TopB.one T (f := .meth "Line" "deeds") 102 rfl)
abbrev Txt.f_l_cell {K : PySem.W.Frag} {mg : Str → Option Value} (T : Txt K mg) : Addr := He.fAd K ("_law_cell", none)
abbrev Txt.d_l_cell {K : PySem.W.Frag} {mg : Str → Option Value} (T : Txt K mg) : FuncData := fdOf K (He.fAd K ("_law_cell", none))
theorem Txt.F_l_cell {K : PySem.W.Frag} {mg : Str → Option Value} (T : Txt K mg) : Fun K "_law_cell" "_law_cell" s_l_cell (T.f_l_cell) (T.d_l_cell) := TopB.fun_ T (a := ("_law_cell", none)) 78 rfl
theorem Txt.b_l_cell {K : PySem.W.Frag} {mg : Str → Option Value} (T : Txt K mg) : Binds K (T.d_l_cell) ["_law_script", "_law_at"] [] := (T.F_l_cell).binds (ps := ["_law_script", "_law_at"]) fun _ _ _ _ _ _ us hl => match us, hl with | [_, _], _ => rfl
theorem Txt.g_l_cell {K : PySem.W.Frag} {mg : Str → Option Value} (T : Txt K mg) : mg "_law_cell" = some (.ref (T.f_l_cell)) := TopB.glo T 103 rfl
abbrev Txt.f_l_row {K : PySem.W.Frag} {mg : Str → Option Value} (T : Txt K mg) : Addr := He.fAd K ("_law_row", none)
abbrev Txt.d_l_row {K : PySem.W.Frag} {mg : Str → Option Value} (T : Txt K mg) : FuncData := fdOf K (He.fAd K ("_law_row", none))
theorem Txt.F_l_row {K : PySem.W.Frag} {mg : Str → Option Value} (T : Txt K mg) : Fun K "_law_row" "_law_row" s_l_row (T.f_l_row) (T.d_l_row) := TopB.fun_ T (a := ("_law_row", none)) 79 rfl
theorem Txt.b_l_row {K : PySem.W.Frag} {mg : Str → Option Value} (T : Txt K mg) : Binds K (T.d_l_row) ["_law_cell_here", "_law_many", "_law_size"] [] := (T.F_l_row).binds (ps := ["_law_cell_here", "_law_many", "_law_size"]) fun _ _ _ _ _ _ us hl => match us, hl with | [_, _, _], _ => rfl
theorem Txt.g_l_row {K : PySem.W.Frag} {mg : Str → Option Value} (T : Txt K mg) : mg "_law_row" = some (.ref (T.f_l_row)) := TopB.glo T 104 rfl
abbrev Txt.f_l_run {K : PySem.W.Frag} {mg : Str → Option Value} (T : Txt K mg) : Addr := He.fAd K ("_law_run", none)
abbrev Txt.d_l_run {K : PySem.W.Frag} {mg : Str → Option Value} (T : Txt K mg) : FuncData := fdOf K (He.fAd K ("_law_run", none))
theorem Txt.F_l_run {K : PySem.W.Frag} {mg : Str → Option Value} (T : Txt K mg) : Fun K "_law_run" "_law_run" s_l_run (T.f_l_run) (T.d_l_run) := TopB.fun_ T (a := ("_law_run", none)) 80 rfl
theorem Txt.b_l_run {K : PySem.W.Frag} {mg : Str → Option Value} (T : Txt K mg) : Binds K (T.d_l_run) ["_law_script"] [] := (T.F_l_run).binds (ps := ["_law_script"]) fun _ _ _ _ _ _ us hl => match us, hl with | [_], _ => rfl
theorem Txt.g_l_run {K : PySem.W.Frag} {mg : Str → Option Value} (T : Txt K mg) : mg "_law_run" = some (.ref (T.f_l_run)) := TopB.glo T 105 rfl
abbrev Txt.f_l_play {K : PySem.W.Frag} {mg : Str → Option Value} (T : Txt K mg) : Addr := He.fAd K ("_law_play", none)
abbrev Txt.d_l_play {K : PySem.W.Frag} {mg : Str → Option Value} (T : Txt K mg) : FuncData := fdOf K (He.fAd K ("_law_play", none))
theorem Txt.F_l_play {K : PySem.W.Frag} {mg : Str → Option Value} (T : Txt K mg) : Fun K "_law_play" "_law_play" s_l_play (T.f_l_play) (T.d_l_play) := TopB.fun_ T (a := ("_law_play", none)) 81 rfl
theorem Txt.b_l_play {K : PySem.W.Frag} {mg : Str → Option Value} (T : Txt K mg) : Binds K (T.d_l_play) ["_law_masts", "_law_way", "_law_signs", "_law_slips"] [] := (T.F_l_play).binds (ps := ["_law_masts", "_law_way", "_law_signs", "_law_slips"]) fun _ _ _ _ _ _ us hl => match us, hl with | [_, _, _, _], _ => rfl
theorem Txt.g_l_play {K : PySem.W.Frag} {mg : Str → Option Value} (T : Txt K mg) : mg "_law_play" = some (.ref (T.f_l_play)) := TopB.glo T 106 rfl
abbrev Txt.f_l_lost {K : PySem.W.Frag} {mg : Str → Option Value} (T : Txt K mg) : Addr := He.fAd K ("_law_lost", none)
abbrev Txt.d_l_lost {K : PySem.W.Frag} {mg : Str → Option Value} (T : Txt K mg) : FuncData := fdOf K (He.fAd K ("_law_lost", none))
theorem Txt.F_l_lost {K : PySem.W.Frag} {mg : Str → Option Value} (T : Txt K mg) : Fun K "_law_lost" "_law_lost" s_l_lost (T.f_l_lost) (T.d_l_lost) := TopB.fun_ T (a := ("_law_lost", none)) 82 rfl
theorem Txt.b_l_lost {K : PySem.W.Frag} {mg : Str → Option Value} (T : Txt K mg) : Binds K (T.d_l_lost) ["_law_line", "_law_way", "_law_cell_here"] [] := (T.F_l_lost).binds (ps := ["_law_line", "_law_way", "_law_cell_here"]) fun _ _ _ _ _ _ us hl => match us, hl with | [_, _, _], _ => rfl
theorem Txt.g_l_lost {K : PySem.W.Frag} {mg : Str → Option Value} (T : Txt K mg) : mg "_law_lost" = some (.ref (T.f_l_lost)) := TopB.glo T 107 rfl
abbrev Txt.f_l_holds {K : PySem.W.Frag} {mg : Str → Option Value} (T : Txt K mg) : Addr := He.fAd K ("_law_holds", none)
abbrev Txt.d_l_holds {K : PySem.W.Frag} {mg : Str → Option Value} (T : Txt K mg) : FuncData := fdOf K (He.fAd K ("_law_holds", none))
theorem Txt.F_l_holds {K : PySem.W.Frag} {mg : Str → Option Value} (T : Txt K mg) : Fun K "_law_holds" "_law_holds" s_l_holds (T.f_l_holds) (T.d_l_holds) := TopB.fun_ T (a := ("_law_holds", none)) 83 rfl
theorem Txt.b_l_holds {K : PySem.W.Frag} {mg : Str → Option Value} (T : Txt K mg) : Binds K (T.d_l_holds) ["_law_truth", "_law_place_of_mast", "_law_number", "_law_stretch"] [] := (T.F_l_holds).binds (ps := ["_law_truth", "_law_place_of_mast", "_law_number", "_law_stretch"]) fun _ _ _ _ _ _ us hl => match us, hl with | [_, _, _, _], _ => rfl
theorem Txt.g_l_holds {K : PySem.W.Frag} {mg : Str → Option Value} (T : Txt K mg) : mg "_law_holds" = some (.ref (T.f_l_holds)) := TopB.glo T 108 rfl
abbrev Txt.u_REST {K : PySem.W.Frag} {mg : Str → Option Value} (T : Txt K mg) : Value := (mg "REST").getD .none
theorem Txt.c_REST {K : PySem.W.Frag} {mg : Str → Option Value} (T : Txt K mg) : mg "REST" = some (T.u_REST) := (TopB.int T (x := "REST") (z := 0) 109 rfl).1
theorem Txt.r_REST {K : PySem.W.Frag} {mg : Str → Option Value} (T : Txt K mg) : RelV (.int 0) (T.u_REST) := (TopB.int T (x := "REST") (z := 0) 109 rfl).2
abbrev Txt.u_READY {K : PySem.W.Frag} {mg : Str → Option Value} (T : Txt K mg) : Value := (mg "READY").getD .none
theorem Txt.c_READY {K : PySem.W.Frag} {mg : Str → Option Value} (T : Txt K mg) : mg "READY" = some (T.u_READY) := (TopB.str T (x := "READY") (z := "ready") 110 rfl).1
theorem Txt.r_READY {K : PySem.W.Frag} {mg : Str → Option Value} (T : Txt K mg) : RelV (.str "ready") (T.u_READY) := (TopB.str T (x := "READY") (z := "ready") 110 rfl).2
abbrev Txt.u_LETTERS {K : PySem.W.Frag} {mg : Str → Option Value} (T : Txt K mg) : Value := (mg "LETTERS").getD .none
theorem Txt.c_LETTERS {K : PySem.W.Frag} {mg : Str → Option Value} (T : Txt K mg) : mg "LETTERS" = some (T.u_LETTERS) := (TopB.str T (x := "LETTERS") (z := "abcdefghijklmnopqrstuvwxyz") 111 rfl).1
theorem Txt.r_LETTERS {K : PySem.W.Frag} {mg : Str → Option Value} (T : Txt K mg) : RelV (.str "abcdefghijklmnopqrstuvwxyz") (T.u_LETTERS) := (TopB.str T (x := "LETTERS") (z := "abcdefghijklmnopqrstuvwxyz") 111 rfl).2
abbrev Txt.u_LAST_PAGE {K : PySem.W.Frag} {mg : Str → Option Value} (T : Txt K mg) : Value := (mg "LAST_PAGE").getD .none
theorem Txt.c_LAST_PAGE {K : PySem.W.Frag} {mg : Str → Option Value} (T : Txt K mg) : mg "LAST_PAGE" = some (T.u_LAST_PAGE) := (TopB.int T (x := "LAST_PAGE") (z := 40) 112 rfl).1
theorem Txt.r_LAST_PAGE {K : PySem.W.Frag} {mg : Str → Option Value} (T : Txt K mg) : RelV (.int 40) (T.u_LAST_PAGE) := (TopB.int T (x := "LAST_PAGE") (z := 40) 112 rfl).2
abbrev Txt.u_LAST_SIGN {K : PySem.W.Frag} {mg : Str → Option Value} (T : Txt K mg) : Value := (mg "LAST_SIGN").getD .none
theorem Txt.c_LAST_SIGN {K : PySem.W.Frag} {mg : Str → Option Value} (T : Txt K mg) : mg "LAST_SIGN" = some (T.u_LAST_SIGN) := (TopB.int T (x := "LAST_SIGN") (z := 94) 113 rfl).1
theorem Txt.r_LAST_SIGN {K : PySem.W.Frag} {mg : Str → Option Value} (T : Txt K mg) : RelV (.int 94) (T.u_LAST_SIGN) := (TopB.int T (x := "LAST_SIGN") (z := 94) 113 rfl).2
abbrev Txt.u_LONGEST_WORD {K : PySem.W.Frag} {mg : Str → Option Value} (T : Txt K mg) : Value := (mg "LONGEST_WORD").getD .none
theorem Txt.c_LONGEST_WORD {K : PySem.W.Frag} {mg : Str → Option Value} (T : Txt K mg) : mg "LONGEST_WORD" = some (T.u_LONGEST_WORD) := (TopB.int T (x := "LONGEST_WORD") (z := 12) 114 rfl).1
theorem Txt.r_LONGEST_WORD {K : PySem.W.Frag} {mg : Str → Option Value} (T : Txt K mg) : RelV (.int 12) (T.u_LONGEST_WORD) := (TopB.int T (x := "LONGEST_WORD") (z := 12) 114 rfl).2
abbrev Txt.u_UP {K : PySem.W.Frag} {mg : Str → Option Value} (T : Txt K mg) : Value := (mg "UP").getD .none
theorem Txt.c_UP {K : PySem.W.Frag} {mg : Str → Option Value} (T : Txt K mg) : mg "UP" = some (T.u_UP) := (TopB.str T (x := "UP") (z := "up") 115 rfl).1
theorem Txt.r_UP {K : PySem.W.Frag} {mg : Str → Option Value} (T : Txt K mg) : RelV (.str "up") (T.u_UP) := (TopB.str T (x := "UP") (z := "up") 115 rfl).2
abbrev Txt.u_DOWN {K : PySem.W.Frag} {mg : Str → Option Value} (T : Txt K mg) : Value := (mg "DOWN").getD .none
theorem Txt.c_DOWN {K : PySem.W.Frag} {mg : Str → Option Value} (T : Txt K mg) : mg "DOWN" = some (T.u_DOWN) := (TopB.str T (x := "DOWN") (z := "down") 116 rfl).1
theorem Txt.r_DOWN {K : PySem.W.Frag} {mg : Str → Option Value} (T : Txt K mg) : RelV (.str "down") (T.u_DOWN) := (TopB.str T (x := "DOWN") (z := "down") 116 rfl).2
abbrev Txt.u_FEWEST_MASTS {K : PySem.W.Frag} {mg : Str → Option Value} (T : Txt K mg) : Value := (mg "FEWEST_MASTS").getD .none
theorem Txt.c_FEWEST_MASTS {K : PySem.W.Frag} {mg : Str → Option Value} (T : Txt K mg) : mg "FEWEST_MASTS" = some (T.u_FEWEST_MASTS) := (TopB.int T (x := "FEWEST_MASTS") (z := 2) 117 rfl).1
theorem Txt.r_FEWEST_MASTS {K : PySem.W.Frag} {mg : Str → Option Value} (T : Txt K mg) : RelV (.int 2) (T.u_FEWEST_MASTS) := (TopB.int T (x := "FEWEST_MASTS") (z := 2) 117 rfl).2
abbrev Txt.u_MOST_MASTS {K : PySem.W.Frag} {mg : Str → Option Value} (T : Txt K mg) : Value := (mg "MOST_MASTS").getD .none
theorem Txt.c_MOST_MASTS {K : PySem.W.Frag} {mg : Str → Option Value} (T : Txt K mg) : mg "MOST_MASTS" = some (T.u_MOST_MASTS) := (TopB.int T (x := "MOST_MASTS") (z := 12) 118 rfl).1
theorem Txt.r_MOST_MASTS {K : PySem.W.Frag} {mg : Str → Option Value} (T : Txt K mg) : RelV (.int 12) (T.u_MOST_MASTS) := (TopB.int T (x := "MOST_MASTS") (z := 12) 118 rfl).2
abbrev Txt.u_WAY {K : PySem.W.Frag} {mg : Str → Option Value} (T : Txt K mg) : Value := (mg "WAY").getD .none
theorem Txt.c_WAY {K : PySem.W.Frag} {mg : Str → Option Value} (T : Txt K mg) : mg "WAY" = some (T.u_WAY) := (TopB.str T (x := "WAY") (z := "way") 119 rfl).1
theorem Txt.r_WAY {K : PySem.W.Frag} {mg : Str → Option Value} (T : Txt K mg) : RelV (.str "way") (T.u_WAY) := (TopB.str T (x := "WAY") (z := "way") 119 rfl).2
abbrev Txt.u_ARMS {K : PySem.W.Frag} {mg : Str → Option Value} (T : Txt K mg) : Value := (mg "ARMS").getD .none
theorem Txt.c_ARMS {K : PySem.W.Frag} {mg : Str → Option Value} (T : Txt K mg) : mg "ARMS" = some (T.u_ARMS) := (TopB.str T (x := "ARMS") (z := "arms") 120 rfl).1
theorem Txt.r_ARMS {K : PySem.W.Frag} {mg : Str → Option Value} (T : Txt K mg) : RelV (.str "arms") (T.u_ARMS) := (TopB.str T (x := "ARMS") (z := "arms") 120 rfl).2
abbrev Txt.u_SLEEP {K : PySem.W.Frag} {mg : Str → Option Value} (T : Txt K mg) : Value := (mg "SLEEP").getD .none
theorem Txt.c_SLEEP {K : PySem.W.Frag} {mg : Str → Option Value} (T : Txt K mg) : mg "SLEEP" = some (T.u_SLEEP) := (TopB.str T (x := "SLEEP") (z := "sleep") 121 rfl).1
theorem Txt.r_SLEEP {K : PySem.W.Frag} {mg : Str → Option Value} (T : Txt K mg) : RelV (.str "sleep") (T.u_SLEEP) := (TopB.str T (x := "SLEEP") (z := "sleep") 121 rfl).2
abbrev Txt.u_FOG {K : PySem.W.Frag} {mg : Str → Option Value} (T : Txt K mg) : Value := (mg "FOG").getD .none
theorem Txt.c_FOG {K : PySem.W.Frag} {mg : Str → Option Value} (T : Txt K mg) : mg "FOG" = some (T.u_FOG) := (TopB.str T (x := "FOG") (z := "fog") 122 rfl).1
theorem Txt.r_FOG {K : PySem.W.Frag} {mg : Str → Option Value} (T : Txt K mg) : RelV (.str "fog") (T.u_FOG) := (TopB.str T (x := "FOG") (z := "fog") 122 rfl).2
abbrev Txt.u_WORDS {K : PySem.W.Frag} {mg : Str → Option Value} (T : Txt K mg) : Value := (mg "WORDS").getD .none
theorem Txt.c_WORDS {K : PySem.W.Frag} {mg : Str → Option Value} (T : Txt K mg) : mg "WORDS" = some (T.u_WORDS) := (TopB.str T (x := "WORDS") (z := "words") 123 rfl).1
theorem Txt.r_WORDS {K : PySem.W.Frag} {mg : Str → Option Value} (T : Txt K mg) : RelV (.str "words") (T.u_WORDS) := (TopB.str T (x := "WORDS") (z := "words") 123 rfl).2
abbrev Txt.u_MOST_WAITING {K : PySem.W.Frag} {mg : Str → Option Value} (T : Txt K mg) : Value := (mg "MOST_WAITING").getD .none
theorem Txt.c_MOST_WAITING {K : PySem.W.Frag} {mg : Str → Option Value} (T : Txt K mg) : mg "MOST_WAITING" = some (T.u_MOST_WAITING) := (TopB.int T (x := "MOST_WAITING") (z := 60) 124 rfl).1
theorem Txt.r_MOST_WAITING {K : PySem.W.Frag} {mg : Str → Option Value} (T : Txt K mg) : RelV (.int 60) (T.u_MOST_WAITING) := (TopB.int T (x := "MOST_WAITING") (z := 60) 124 rfl).2
theorem Txt.m_all {K : PySem.W.Frag} {mg : Str → Option Value} (T : Txt K mg) : mg "all" = none := TopB.free T 125 rfl
theorem Txt.m_any {K : PySem.W.Frag} {mg : Str → Option Value} (T : Txt K mg) : mg "any" = none := TopB.free T 126 rfl
theorem Txt.m_bool {K : PySem.W.Frag} {mg : Str → Option Value} (T : Txt K mg) : mg "bool" = none := TopB.free T 127 rfl
theorem Txt.m_enumerate {K : PySem.W.Frag} {mg : Str → Option Value} (T : Txt K mg) : mg "enumerate" = none := TopB.free T 128 rfl
theorem Txt.m_int {K : PySem.W.Frag} {mg : Str → Option Value} (T : Txt K mg) : mg "int" = none := TopB.free T 129 rfl
theorem Txt.m_isinstance {K : PySem.W.Frag} {mg : Str → Option Value} (T : Txt K mg) : mg "isinstance" = none := TopB.free T 130 rfl
theorem Txt.m_len {K : PySem.W.Frag} {mg : Str → Option Value} (T : Txt K mg) : mg "len" = none := TopB.free T 131 rfl
theorem Txt.m_list {K : PySem.W.Frag} {mg : Str → Option Value} (T : Txt K mg) : mg "list" = none := TopB.free T 132 rfl
theorem Txt.m_max {K : PySem.W.Frag} {mg : Str → Option Value} (T : Txt K mg) : mg "max" = none := TopB.free T 133 rfl
theorem Txt.m_min {K : PySem.W.Frag} {mg : Str → Option Value} (T : Txt K mg) : mg "min" = none := TopB.free T 134 rfl
theorem Txt.m_range {K : PySem.W.Frag} {mg : Str → Option Value} (T : Txt K mg) : mg "range" = none := TopB.free T 135 rfl
theorem Txt.m_reversed {K : PySem.W.Frag} {mg : Str → Option Value} (T : Txt K mg) : mg "reversed" = none := TopB.free T 136 rfl
theorem Txt.m_sorted {K : PySem.W.Frag} {mg : Str → Option Value} (T : Txt K mg) : mg "sorted" = none := TopB.free T 137 rfl
theorem Txt.m_str {K : PySem.W.Frag} {mg : Str → Option Value} (T : Txt K mg) : mg "str" = none := TopB.free T 138 rfl
theorem Txt.m_tuple {K : PySem.W.Frag} {mg : Str → Option Value} (T : Txt K mg) : mg "tuple" = none := TopB.free T 139 rfl
theorem Txt.m_zip {K : PySem.W.Frag} {mg : Str → Option Value} (T : Txt K mg) : mg "zip" = none := TopB.free T 140 rfl
theorem Txt.g_al_check_mast_ways {K : PySem.W.Frag} {mg : Str → Option Value} (T : Txt K mg) : mg "check_mast_ways" = some (.ref (He.fAd K ("check_mast", none))) := TopB.ali T (p := ("check_mast_ways", "check_mast")) 0 rfl
abbrev Txt.c_tab {K : PySem.W.Frag} {mg : Str → Option Value} (T : Txt K mg) : Addr := He.codeOf K ("is_word", none)
abbrev Txt.P_tab {K : PySem.W.Frag} {mg : Str → Option Value} (T : Txt K mg) : Addr := He.tabOf K (He.codeOf K ("is_word", none))
theorem Txt.W_p_is_word {K : PySem.W.Frag} {mg : Str → Option Value} (T : Txt K mg) : FunC K "is_word" "is_word" s_p_is_word (T.f_p_is_word) (T.d_p_is_word) (T.c_tab) := funC_of (T.F_p_is_word)
abbrev Txt.c_tabS {K : PySem.W.Frag} {mg : Str → Option Value} (T : Txt K mg) : Addr := He.codeOf K ("check_signs", none)
abbrev Txt.P_tabS {K : PySem.W.Frag} {mg : Str → Option Value} (T : Txt K mg) : Addr := He.tabOf K (He.codeOf K ("check_signs", none))
theorem Txt.W_p_check_signs {K : PySem.W.Frag} {mg : Str → Option Value} (T : Txt K mg) : FunC K "check_signs" "check_signs" s_p_check_signs (T.f_p_check_signs) (T.d_p_check_signs) (T.c_tabS) := funC_of (T.F_p_check_signs)
abbrev Txt.c_tabN {K : PySem.W.Frag} {mg : Str → Option Value} (T : Txt K mg) : Addr := He.codeOf K ("Line", some "turn")
abbrev Txt.P_tabN {K : PySem.W.Frag} {mg : Str → Option Value} (T : Txt K mg) : Addr := He.tabOf K (He.codeOf K ("Line", some "turn"))
theorem Txt.W_p_Line_turn {K : PySem.W.Frag} {mg : Str → Option Value} (T : Txt K mg) : FunC K "turn" "Line.turn" s_p_Line_turn (T.f_p_Line_turn) (T.d_p_Line_turn) (T.c_tabN) := funC_of (T.F_p_Line_turn)
theorem Txt.oc_get {K : PySem.W.Frag} {mg : Str → Option Value} (T : Txt K mg) : PySem.W.specialIn K (.builtin "object.__class__") "__get__" = some (some (.builtin "getset_descriptor.__get__")) := TopB.oget T
theorem Txt.oc_tak {K : PySem.W.Frag} {mg : Str → Option Value} (T : Txt K mg) : PySem.W.takesIn K (.builtin "object.__class__") = some true := TopB.otak T
section
variable {P : Program} {w : World} {K : PySem.W.Frag} {mg : Str → Option Value} {base : Heap}
theorem dec_self {x : V} : decide (x = x) = true := decide_eq_true rfl
/-! ### _law_cell: an int of the script -/
def cellV (ns : List Int) (j : Nat) : Int :=
  if j < ns.length then ns.getD j 0 else if ns.length = 0 then 29 * (j : Int) + 5 else ns.getD (j % ns.length) 0 % 1000003 + 103 * (j : Int)
def sp_l_cell (K : PySem.W.Frag) : Sp := fun vs H Q _ => ∃ (l : Addr) (ns : List Int) (j : Nat), vs = [.ref l, .int j] ∧ SqL K H l (ns.map V.int) ∧ j ≤ 100000 ∧ Q (.int (cellV ns j)) H
theorem getD_at {ns : List Int} {j : Nat} (h : j < ns.length) : atI (ns.map V.int) (j : Int) = some (.int (ns.getD j 0)) := by
  rw [at_int h, List.getD_eq_getElem?_getD, List.getElem?_eq_getElem h]
  rfl
theorem ok_l_cell (T : Txt K mg) : FnOk P w K mg base CX0 1 T.f_l_cell T.d_l_cell ["_law_script", "_law_at"] (sp_l_cell K) := by
  refine T.F_l_cell.ok sc_l_cell (fun vs H Q E h => ?_) (fun cdv A outer s H vs Q E hr h => ?_)
  · obtain ⟨l, ns, j, rfl, _⟩ := h
    rfl
  · obtain ⟨l, ns, j, rfl, hS, hj, k⟩ := h
    have hlen : ((ns.map V.int).length : Int) = (ns.length : Int) := by rw [List.length_map]
    refine ⟨_, (pss_cons (ps_if (pt_cmpR op_lt (pv 1) (pe_callB call_len_seq (by rfl) T.m_len PySem.boot_len (pa_cons (pv 0) pa_nil)) (nomark _))
      (pss_one (ps_ret (pe_ix ix_list (pv 0) (pv 1) (fun _ _ => rfl))))
      pss_nil)
      (pss_cons (ps_if (pt_cmpR op_eq (pe_callB call_len_seq (by rfl) T.m_len PySem.boot_len (pa_cons (pv 0) pa_nil)) pe_int (nomark _))
      (pss_one (ps_ret (pe_op op_add (pe_op op_mul pe_int (pv 1)) pe_int)))
      pss_nil)
      (pss_one (ps_ret (pe_op op_add (pe_op op_mod (pe_ix ix_list (pv 0) (pe_op op_mod (pv 1) (pe_callB call_len_seq (by rfl) T.m_len PySem.boot_len (pa_cons (pv 0) pa_nil))) (fun _ _ => rfl)) pe_int) (pe_op op_mul pe_int (pv 1))))))), ?_⟩
    refine ⟨_, rfl, _, rfl, l, _, rfl, .inl hS, _, _, rfl, rfl, _, rfl, iteD (fun c => ?_) (fun c => ?_)⟩
    · rw [hlen] at c
      refine ⟨_, rfl, _, rfl, l, _, _, _, rfl, rfl, hS, getD_at (show j < ns.length by omega), ?_⟩
      have e : cellV ns j = ns.getD j 0 := if_pos (by omega)
      rw [e] at k
      exact k
    · rw [hlen] at c
      refine ⟨_, rfl, l, _, rfl, .inl hS, rfl, _, rfl, iteD (fun c2 => ?_) (fun c2 => ?_)⟩
      · have c3 : (ns.length : Int) = 0 := by
          have z := V.int.inj c2
          rw [hlen] at z
          exact z
        have e : cellV ns j = 29 * (j : Int) + 5 := by
          unfold cellV
          rw [if_neg (by omega), if_pos (by omega)]
        rw [e] at k
        exact ⟨_, rfl, _, _, rfl, rfl, .inl ⟨by decide, by decide⟩, _, _, rfl, rfl, k⟩
      · have c3 : ns.length ≠ 0 := fun z => c2 (by rw [hlen, z]; rfl)
        have hm : j % ns.length < ns.length := Nat.mod_lt _ (by omega)
        have e : cellV ns j = ns.getD (j % ns.length) 0 % 1000003 + 103 * (j : Int) := by
          unfold cellV
          rw [if_neg (by omega), if_neg c3]
        rw [e] at k
        have ea : atI (ns.map V.int) ((j : Int) % ((ns.map V.int).length : Int)) = some (.int (ns.getD (j % ns.length) 0)) := by
          rw [hlen, ← Int.natCast_emod]
          exact getD_at hm
        exact ⟨_, rfl, _, rfl, _, rfl, l, _, rfl, .inl hS, _, _, rfl, rfl, (by show (0 : Int) < ((ns.map V.int).length : Int); rw [hlen]; omega), l, _, _, _, rfl, rfl, hS, ea, _, _, rfl, rfl, (by show (0 : Int) < 1000003; decide), _, rfl, _, _, rfl, rfl, .inl ⟨by decide, by decide⟩, _, _, rfl, rfl, k⟩
/-! ### _law_row: so many ints from nought to below a size -/
def Drawn0 (many size : Int) (xs : List Int) : Prop := (xs.length : Int) = many ∧ ∀ x ∈ xs, 0 ≤ x ∧ x < size
def sp_l_row : Sp := fun vs H Q _ => ∃ (c many size : Int), vs = [.int c, .int many, .int size] ∧ 0 ≤ many ∧ many ≤ 1000 ∧ 0 < size ∧ size < 1073741824 ∧
  ∀ (xs : List Int) (p : Addr) (H' : Hp), H p = none → Kp H H' → H' p = some (.lst (xs.map V.int)) → Drawn0 many size xs → Q (.ref p) H'
theorem snoc_in {size z : Int} {xs : List Int} (hs : 0 < size) (h : ∀ x ∈ xs, 0 ≤ x ∧ x < size) : ∀ x ∈ xs ++ [z % size], 0 ≤ x ∧ x < size := by
  intro x hx
  rcases List.mem_append.mp hx with hx | hx
  · exact h x hx
  · rw [List.mem_singleton.mp hx]
    exact ⟨Int.emod_nonneg _ (by omega), Int.emod_lt_of_pos _ hs⟩
theorem ok_l_row (T : Txt K mg) : FnOk P w K mg base CX0 1 T.f_l_row T.d_l_row ["_law_cell_here", "_law_many", "_law_size"] sp_l_row := by
  refine T.F_l_row.ok sc_l_row (fun vs H Q E h => ?_) (fun cdv A outer s H vs Q E hr h => ?_)
  · obtain ⟨c, many, size, rfl, _⟩ := h
    rfl
  · obtain ⟨c, many, size, rfl, hm0, hm1, hs0, hs1, k⟩ := h
    refine ⟨_, (pss_cons (ps_set (i := 3) sc_l_row.nd rfl (by first | exact Or.inl rfl | exact Or.inr rfl) (pe_lst pa_nil))
      (pss_cons (ps_if (pt_cmpR op_ge (pv 0) (pe_op op_pow pe_int pe_int) (nomark _))
      (pss_cons (ps_set (i := 4) sc_l_row.nd rfl (by first | exact Or.inl rfl | exact Or.inr rfl) (pe_op op_sub (pv 0) (pe_op op_pow pe_int pe_int)))
      (pss_cons (ps_for PassesOwn.never rfl (pi_range1 (by rfl) T.m_range (pa_cons (pv 1) pa_nil)) (pg_name (i := 5) sc_l_row.nd rfl (by first | exact Or.inl rfl | exact Or.inr rfl))
      (pss_cons (ps_expr (pe_bm PySem.F.plainAttrs_list PySem.F.slot_list_append PySem.F.type_list_append mt_append (pv 3) (pa_cons (pe_op op_mod (pv 4) (pv 2)) pa_nil)))
      (pss_one (ps_set (i := 4) sc_l_row.nd rfl (by first | exact Or.inl rfl | exact Or.inr rfl) (pe_op op_fdiv (pv 4) (pv 2))))))
      (pss_one (ps_ret (pv 3)))))
      pss_nil)
      (pss_cons (ps_set (i := 6) sc_l_row.nd rfl (by first | exact Or.inl rfl | exact Or.inr rfl) (pe_op op_mod (pv 0) pe_int))
      (pss_cons (ps_for PassesOwn.never rfl (pi_range1 (by rfl) T.m_range (pa_cons (pv 1) pa_nil)) (pg_name (i := 5) sc_l_row.nd rfl (by first | exact Or.inl rfl | exact Or.inr rfl))
      (pss_cons (ps_set (i := 6) sc_l_row.nd rfl (by first | exact Or.inl rfl | exact Or.inr rfl) (pe_op op_mod (pe_op op_add (pe_op op_add (pe_op op_mul (pv 6) pe_int) pe_int) (pv 5)) pe_int))
      (pss_cons (ps_set (i := 7) sc_l_row.nd rfl (by first | exact Or.inl rfl | exact Or.inr rfl) (pe_op op_mod (pe_op op_fdiv (pe_op op_mul (pv 6) (pe_op op_add (pe_op op_mod (pv 6) pe_int) pe_int)) pe_int) pe_int))
      (pss_one (ps_expr (pe_bm PySem.F.plainAttrs_list PySem.F.slot_list_append PySem.F.type_list_append mt_append (pv 3) (pa_cons (pe_op op_mod (pv 7) (pv 2)) pa_nil)))))))
      (pss_one (ps_ret (pv 3))))))), ?_⟩
    refine ⟨Nat.zero_le _, fun p np => ?_⟩
    generalize h_H1 : upd H p _ = H1
    have k_H1 : Kp H H1 := by rw [← h_H1]; exact .new np
    have q_H1 := (congrFun h_H1 p).symm.trans upd_same
    clear h_H1
    refine ⟨_, rfl, _, _, rfl, rfl, ⟨by decide, by decide, by decide⟩, _, _, rfl, rfl, _, rfl, iteD (fun c1 => ?_) (fun c1 => ?_)⟩
    · refine ⟨_, rfl, _, _, rfl, rfl, ⟨by decide, by decide, by decide⟩, _, _, rfl, rfl, ?_⟩
      refine ⟨_, rfl, many, rfl, by omega, by omega, ?_⟩
      refine for_range (lo := 0) (n := many.toNat) (fun i σ H' => ∃ (xs : List Int) (r : Int) (y : Option V), σ = [some (.int c), some (.int many), some (.int size), some (.ref p), some (.int r), y, none, none] ∧ Kp H H' ∧ H' p = some (.lst (xs.map V.int)) ∧ xs.length = i ∧ ∀ x ∈ xs, 0 ≤ x ∧ x < size)
        ⟨[], _, none, rfl, k_H1, q_H1, rfl, by simp⟩ ?_ ?_
      · rintro i σ H' hi ⟨xs, r, y, rfl, kp, hp, hl, hb⟩
        refine ⟨_, rfl, .inl ⟨rfl, _, SqL.of hp⟩, _, rfl, _, rfl, _, _, rfl, rfl, hs0, p, _, _, rfl, rfl, hp, szt (by rw [List.length_map]; omega), ?_⟩
        refine ⟨_, rfl, _, rfl, _, _, rfl, rfl, ⟨hs0, hs1⟩, ?_⟩
        refine ⟨xs ++ [r % size], _, _, rfl, kp.mut np, ?_, by rw [List.length_append, hl]; rfl, snoc_in hs0 hb⟩
        rw [upd_same, List.map_append]
        rfl
      · rintro σ H' ⟨xs, r, y, rfl, kp, hp, hl, hb⟩
        exact ⟨_, rfl, k xs p H' np kp hp ⟨by omega, hb⟩⟩
    · refine ⟨_, rfl, _, _, rfl, rfl, (by show (0 : Int) < 2147483647; decide), ?_⟩
      refine ⟨_, rfl, many, rfl, by omega, by omega, ?_⟩
      refine for_range (lo := 0) (n := many.toNat) (fun i σ H' => ∃ (xs : List Int) (r : Int) (y y2 : Option V), σ = [some (.int c), some (.int many), some (.int size), some (.ref p), none, y, some (.int r), y2] ∧ Kp H H' ∧ H' p = some (.lst (xs.map V.int)) ∧ xs.length = i ∧ ∀ x ∈ xs, 0 ≤ x ∧ x < size)
        ⟨[], _, none, none, rfl, k_H1, q_H1, rfl, by simp⟩ ?_ ?_
      · rintro i σ H' hi ⟨xs, r, y, y2, rfl, kp, hp, hl, hb⟩
        refine ⟨_, rfl, _, _, rfl, rfl, .inr ⟨by decide, by decide⟩, _, _, rfl, rfl, _, rfl, _, _, rfl, rfl, _, _, rfl, rfl, (by show (0 : Int) < 2147483647; decide), ?_⟩
        generalize hr2 : (fun (i j : Int) => V.int (i % j)) _ _ = sv
        obtain ⟨r2, rfl⟩ : ∃ r2 : Int, sv = .int r2 := ⟨_, hr2.symm⟩
        clear hr2
        have b0 : 0 ≤ r2 % 65521 := Int.emod_nonneg _ (by decide)
        have b1 : r2 % 65521 < 65521 := Int.emod_lt_of_pos _ (by decide)
        refine ⟨_, rfl, _, rfl, _, _, rfl, rfl, (by show (0 : Int) < 65521; decide), _, _, rfl, rfl, _, _, rfl, rfl, .inr ⟨by omega, by omega⟩, _, _, rfl, rfl, ⟨by decide, by decide⟩, _, _, rfl, rfl, (by show (0 : Int) < 1000003; decide), ?_⟩
        refine ⟨_, rfl, .inl ⟨rfl, _, SqL.of hp⟩, _, rfl, _, rfl, _, _, rfl, rfl, hs0, p, _, _, rfl, rfl, hp, szt (by rw [List.length_map]; omega), ?_⟩
        refine ⟨xs ++ [r2 * (r2 % 65521 + 3) / 1009 % 1000003 % size], r2, _, _, rfl, kp.mut np, ?_, by rw [List.length_append, hl]; rfl, snoc_in hs0 hb⟩
        rw [upd_same, List.map_append]
        rfl
      · rintro σ H' ⟨xs, r, y, y2, rfl, kp, hp, hl, hb⟩
        exact ⟨_, rfl, k xs p H' np kp hp ⟨by omega, hb⟩⟩
/-! ### words -/
def abcW : Str := "abcdefghijklmnopqrstuvwxyz"
def isW (t : Str) : Bool := decide (1 ≤ (t.length : Int)) && (decide ((t.length : Int) ≤ 12) && t.cps.toList.all fun c => decide (c ∈ abcW.cps.toList))
def sp_p_is_word (P : Addr) : Sp := fun vs H Q _ => ∃ t : Str, vs = [.str t] ∧ t.length ≤ 1000 ∧ GxR.TabG H P ∧ ∀ H', Kp H H' → Q (.bl (isW t)) H'
theorem ok_p_is_word (T : Txt K mg) (TB : GxR.TabB base mg T.c_tab T.P_tab) : FnOk P w K mg base CX0 2 T.f_p_is_word T.d_p_is_word ["text"] (sp_p_is_word T.P_tab) := by
  obtain ⟨tl, hu⟩ := T.r_LETTERS
  have hL : mg "LETTERS" = some (.str abcW tl) := by rw [T.c_LETTERS, hu]; rfl
  refine T.W_p_is_word.ok sc_p_is_word (fun vs H Q E h => ?_) (fun A outer s H vs Q E hr h => ?_)
  · obtain ⟨t, rfl, _⟩ := h
    rfl
  · obtain ⟨t, rfl, hl, hT, k⟩ := h
    refine ⟨_, (pss_one (ps_ret (pe_and (pe_chain op_le op_le pe_int (pe_callB call_len_str (by rfl) T.m_len PySem.boot_len (pa_cons (pv 0) pa_nil)) (pe_glob rfl T.c_LONGEST_WORD T.r_LONGEST_WORD)) (pe_one (pe_allG hr (by rfl) T.m_all (by decide +kernel) TB rfl ⟨rfl, rfl, noCell (by decide +kernel), rfl, rfl, noFree (by decide +kernel)⟩ (pv 0) (elt_inG rfl rfl rfl hL) (fun _ => rfl)))))), ?_⟩
    refine ⟨_, rfl, t, rfl, szl (by omega), _, _, rfl, rfl, _, rfl, ?_⟩
    unfold isW at k
    by_cases c1 : 1 ≤ (t.length : Int)
    · rw [decide_eq_true c1] at k
      refine iteTo (decide_eq_true c1) ⟨_, _, rfl, rfl, _, rfl, ?_⟩
      by_cases c2 : (t.length : Int) ≤ 12
      · rw [decide_eq_true c2] at k
        exact iteTo (decide_eq_true c2) ⟨_, rfl, t, rfl, hT, fun H2 t2 => k _ (kp_tabbed hT t2)⟩
      · rw [decide_eq_false c2] at k
        exact iteFo (decide_eq_false c2) (k _ (.refl _))
    · rw [decide_eq_false c1] at k
      exact iteFo (decide_eq_false c1) ⟨_, rfl, iteF (k _ (.refl _))⟩
def sp_p_check_word (P C : Addr) : Sp := fun vs H Q E => ∃ t : Str, vs = [.str t] ∧ t.length ≤ 1000 ∧ GxR.TabG H P ∧ (isW t = true → ∀ H', Kp H H' → Q .non H') ∧ (isW t = false → ∀ H', Kp H H' → E (.ref C) none H')
theorem ok_p_check_word (T : Txt K mg) (TB : GxR.TabB base mg T.c_tab T.P_tab) : FnOk P w K mg base (L2.CX P w) 4 T.f_p_check_word T.d_p_check_word ["text"] (sp_p_check_word T.P_tab T.a_BadWord) := by
  refine T.F_p_check_word.okX sc_p_check_word (fun vs H Q E h => ?_) (fun cdv A outer s H vs Q E hr h => ?_)
  · obtain ⟨t, rfl, _⟩ := h
    rfl
  · obtain ⟨t, rfl, hl, hT, k, kE⟩ := h
    refine ⟨_, (pss_one (ps_if (pt_not (pt_val (pe_call (ok_p_is_word T TB) (hr.mono (by decide)) rfl T.g_p_is_word T.F_p_is_word.kp T.b_p_is_word .nil pass0 (pa_cons (pv 0) pa_nil))))
      (pss_one (ps_raise rfl (takes_of rfl rfl rfl rfl) (pmk_own PySem.F.excBase_ValueError T.x_BadWord T.g_BadWord T.k_BadWord (raises_own T.b_BadWord T.t_BadWord) rfl)))
      pss_nil)), ?_⟩
    refine ⟨_, rfl, t, rfl, hl, hT, fun H' kp => ⟨_, rfl, iteB (fun c => ?_) (fun c => ?_)⟩⟩
    · exact kE (by simpa using c) H' kp
    · exact k (by simpa using c) H' kp
def let1 (c : Nat) : Int := 41 + ((c - 97 : Nat) : Int)
def letS (w : Str) : List Int := w.cps.toList.map let1
theorem isW_len {t : Str} (h : isW t = true) : 1 ≤ t.length ∧ t.length ≤ 12 := by
  unfold isW at h
  simp only [Bool.and_eq_true, decide_eq_true_eq] at h
  omega
theorem abcW_mem {c : Nat} : c ∈ abcW.cps.toList ↔ 97 ≤ c ∧ c < 123 := by
  have e : abcW.cps.toList = (List.range 26).map (97 + ·) := by decide +kernel
  rw [e]
  constructor
  · intro h
    obtain ⟨j, hj, rfl⟩ := List.mem_map.mp h
    have := List.mem_range.mp hj
    omega
  · intro h
    exact List.mem_map.mpr ⟨c - 97, List.mem_range.mpr (by omega), by omega⟩
theorem isW_signs {t : Str} (h : isW t = true) : ∀ c ∈ t.cps.toList, 97 ≤ c ∧ c < 123 := by
  unfold isW at h
  simp only [Bool.and_eq_true] at h
  intro c hc
  exact abcW_mem.mp (of_decide_eq_true (List.all_eq_true.mp h.2.2 c hc))
/-! ### a phrasebook -/
/-- what is kept but at the places of S -/
structure KpE (S : List Addr) (H H' : Hp) : Prop where
  same : ∀ a o, isT o = false → a ∉ S → H a = some o → H' a = some o
  tab : ∀ a, GxR.TabG H a → GxR.TabG H' a
  free : ∀ a, H' a = none → H a = none
theorem KpE.kp {S : List Addr} {H0 H H' : Hp} (k : Kp H0 H) (e : KpE S H H') (h : ∀ b ∈ S, H0 b = none) : Kp H0 H' :=
  ⟨fun a o t q => e.same a o t (fun m => by rw [h a m] at q; cases q) (k.same a o t q), fun a q => e.tab a (k.tab a q), fun a q => k.free a (e.free a q)⟩
theorem KpE.of {S : List Addr} {H H' : Hp} (k : Kp H H') : KpE S H H' := ⟨fun a o t _ q => k.same a o t q, k.tab, k.free⟩
theorem KpE.trans {S : List Addr} {H H1 H2 : Hp} (a : KpE S H H1) (b : KpE S H1 H2) : KpE S H H2 :=
  ⟨fun x o t m q => b.same x o t m (a.same x o t m q), fun x q => b.tab x (a.tab x q), fun x q => a.free x (b.free x q)⟩
theorem KpE.put {S : List Addr} {H : Hp} {d : Addr} {o u : HO} (hd : H d = some u) (nt : isT u = false) (m : d ∈ S) : KpE S H (upd H d o) := by
  refine ⟨fun a v t n q => ?_, fun a ⟨ps, q, tr⟩ => ⟨ps, ?_, tr⟩, fun a q => ?_⟩
  · rw [upd_ne (fun z => n (by rw [z]; exact m))]
    exact q
  · have ne : a ≠ d := fun z => by
      rw [z, hd] at q
      cases q
      cases nt
    rw [upd_ne ne]
    exact q
  · by_cases z : a = d
    · rw [z, upd_same] at q
      cases q
    · rw [upd_ne z] at q
      exact q
abbrev Ent := (Str × Int × Int) × Addr
def flds (d1 d2 : Addr) : List (Str × V) := putF "place_by_word" (.ref d2) (putF "word_by_place" (.ref d1) [])
theorem flds_place (d1 d2 : Addr) : (flds d1 d2).lookup ("place_by_word" : Str) = some (.ref d2) := by
  unfold flds
  rw [lookup_putF, if_pos rfl]
theorem flds_word (d1 d2 : Addr) : (flds d1 d2).lookup ("word_by_place" : Str) = some (.ref d1) := by
  unfold flds
  rw [lookup_putF, if_neg (by decide +kernel), lookup_putF, if_pos rfl]
theorem flds_no (d1 d2 : Addr) {m : Str} (h1 : ¬ m = "place_by_word") (h2 : ¬ m = "word_by_place") : (flds d1 d2).lookup m = none := by
  unfold flds
  rw [lookup_putF, if_neg h1, lookup_putF, if_neg h2]
  rfl
def kvP (bs : List Ent) : List (List Key × V) := bs.map fun b => ([Sum.inl b.1.2.1, Sum.inl b.1.2.2], V.str b.1.1)
def kvW (bs : List Ent) : List (Key × V) := bs.map fun b => (Sum.inr b.1.1, V.ref b.2)
def atP (bs : List Ent) (p l : Int) : Option Ent := bs.find? fun b => decide (b.1.2.1 = p ∧ b.1.2.2 = l)
def atW (bs : List Ent) (t : Str) : Option Ent := bs.find? fun b => decide (b.1.1 = t)
theorem valP (bs : List Ent) (p l : Int) : valV (kvP bs) [Sum.inl p, Sum.inl l] = (atP bs p l).map fun b => V.str b.1.1 := by
  unfold valV kvP atP
  rw [List.find?_map, Option.map_map]
  have e : ((fun kv : List Key × V => decide (kv.1 = ([Sum.inl p, Sum.inl l] : List Key))) ∘ fun b : Ent => (([Sum.inl b.1.2.1, Sum.inl b.1.2.2] : List Key), V.str b.1.1)) = fun b => decide (b.1.2.1 = p ∧ b.1.2.2 = l) := by
    funext b
    simp
  rw [e]
  rfl
theorem valW (bs : List Ent) (t : Str) : valV (kvW bs) (Sum.inr t) = (atW bs t).map fun b => V.ref b.2 := by
  unfold valV kvW atW
  rw [List.find?_map, Option.map_map]
  have e : ((fun kv : Key × V => decide (kv.1 = (Sum.inr t : Key))) ∘ fun b : Ent => ((Sum.inr b.1.1 : Key), V.ref b.2)) = fun b => decide (b.1.1 = t) := by
    funext b
    simp
  rw [e]
  rfl
structure BookAt (C : Addr) (H : Hp) (p d1 d2 : Addr) (bs : List Ent) : Prop where
  ob : ∃ dx, H p = some (.ins C dx (flds d1 d2))
  pl : H d1 = some (.dT (kvP bs))
  wd : H d2 = some (.dK (kvW bs))
  tu : ∀ b ∈ bs, H b.2 = some (.tup [.int b.1.2.1, .int b.1.2.2])
theorem BookAt.kp {C : Addr} {H H' : Hp} {p d1 d2 : Addr} {bs : List Ent} (b : BookAt C H p d1 d2 bs) (k : Kp H H') : BookAt C H' p d1 d2 bs :=
  ⟨let ⟨dx, h⟩ := b.ob; ⟨dx, k.same _ _ rfl h⟩, k.same _ _ rfl b.pl, k.same _ _ rfl b.wd, fun e he => k.same _ _ rfl (b.tu e he)⟩
theorem BookAt.ne {C : Addr} {H : Hp} {p d1 d2 : Addr} {bs : List Ent} (b : BookAt C H p d1 d2 bs) : p ≠ d1 ∧ p ≠ d2 ∧ d1 ≠ d2 := by
  obtain ⟨dx, h⟩ := b.ob
  exact ⟨ne_of h b.pl (by intro z; cases z), ne_of h b.wd (by intro z; cases z), ne_of b.pl b.wd (by intro z; cases z)⟩
def okP (p l : Int) : Bool := (decide (1 ≤ p) && decide (p ≤ 40)) && (decide (1 ≤ l) && decide (l ≤ 40))
def sp_p_check_place (C : Addr) : Sp := fun vs H Q E => ∃ p l : Int, vs = [.int p, .int l] ∧ (okP p l = true → Q .non H) ∧ (okP p l = false → E (.ref C) none H)
theorem ok_p_check_place (T : Txt K mg) : FnOk P w K mg base (L2.CX P w) 2 T.f_p_check_place T.d_p_check_place ["page", "line"] (sp_p_check_place T.a_BadPlace) := by
  refine T.F_p_check_place.okX sc_p_check_place (fun vs H Q E h => ?_) (fun cdv A outer s H vs Q E hr h => ?_)
  · obtain ⟨p, l, rfl, _⟩ := h
    rfl
  · obtain ⟨p, l, rfl, k, kE⟩ := h
    refine ⟨_, (pss_one (ps_if (pt_not (PW.pt (pw_and (pt_chain op_le op_le pe_int (pv 0) (pe_glob rfl T.c_LAST_PAGE T.r_LAST_PAGE)) (pw_and1 (pt_chain op_le op_le pe_int (pv 1) (pe_glob rfl T.c_LAST_PAGE T.r_LAST_PAGE))))))
      (pss_one (ps_raise rfl (takes_of rfl rfl rfl rfl) (pmk_own PySem.F.excBase_ValueError T.x_BadPlace T.g_BadPlace T.k_BadPlace (raises_own T.b_BadPlace T.t_BadPlace) rfl)))
      pss_nil)), ?_⟩
    unfold okP at k kE
    refine ⟨_, rfl, _, _, rfl, rfl, _, rfl, ?_⟩
    by_cases c1 : 1 ≤ p
    · rw [decide_eq_true c1] at k kE
      refine iteTo (decide_eq_true c1) ⟨_, _, rfl, rfl, _, rfl, ?_⟩
      by_cases c2 : p ≤ 40
      · rw [decide_eq_true c2] at k kE
        refine iteTo (decide_eq_true c2) ⟨_, rfl, _, _, rfl, rfl, _, rfl, ?_⟩
        by_cases c3 : 1 ≤ l
        · rw [decide_eq_true c3] at k kE
          refine iteTo (decide_eq_true c3) ⟨_, _, rfl, rfl, _, rfl, ?_⟩
          by_cases c4 : l ≤ 40
          · rw [decide_eq_true c4] at k
            exact iteFo (by rw [decide_eq_true c4]; rfl) (k rfl)
          · rw [decide_eq_false c4] at kE
            exact iteTo (by rw [decide_eq_false c4]; rfl) (kE rfl)
        · rw [decide_eq_false c3] at kE
          exact iteFo (decide_eq_false c3) ⟨_, rfl, iteT (kE rfl)⟩
      · rw [decide_eq_false c2] at kE
        exact iteFo (decide_eq_false c2) (iteT (kE rfl))
    · rw [decide_eq_false c1] at kE
      exact iteFo (decide_eq_false c1) ⟨_, rfl, iteF (iteT (kE rfl))⟩
/-! ### Phrasebook's methods -/
def sp_p_Phrasebook_init (C : Addr) : Sp := fun vs H Q _ => ∃ (p dx : Addr), vs = [.ref p] ∧ H p = some (.ins C dx []) ∧ ∀ (d1 d2 : Addr) (H' : Hp), H d1 = none → H d2 = none → BookAt C H' p d1 d2 [] → KpE [p] H H' → Q .non H'
theorem ok_p_Phrasebook_init (T : Txt K mg) : FnOk P w K mg base CX0 1 T.f_p_Phrasebook_init T.d_p_Phrasebook_init ["self"] (sp_p_Phrasebook_init T.a_Phrasebook) := by
  refine T.F_p_Phrasebook_init.ok sc_p_Phrasebook_init (fun vs H Q E h => ?_) (fun cdv A outer s H vs Q E hr h => ?_)
  · obtain ⟨p, dx, rfl, _⟩ := h
    rfl
  · obtain ⟨p, dx, rfl, hp, k⟩ := h
    refine ⟨_, (pss_cons (ps_fld (pv 0) pe_dnewT rfl)
      (pss_one (ps_fld (pv 0) pe_dnewK rfl))), ?_⟩
    intro d1 h1
    have n1 : p ≠ d1 := ne_of_none hp h1
    refine ⟨_, rfl, p, _, dx, [], rfl, (by rw [upd_ne n1]; exact hp), T.cl_Phrasebook, T.n_Phrasebook_word_by_place, (by show 0 < 1000; decide), ?_⟩
    intro d2 h2
    have n2 : p ≠ d2 := ne_of_none upd_same h2
    have n12 : d1 ≠ d2 := fun e => by
      rw [← e, upd_ne n1.symm, upd_same] at h2
      cases h2
    refine ⟨_, rfl, p, _, dx, _, rfl, (by rw [upd_ne n2]; exact upd_same), T.cl_Phrasebook, T.n_Phrasebook_place_by_word, (by show 1 < 1000; decide), ?_⟩
    have f2 : H d2 = none := by
      rw [upd_ne n2.symm, upd_ne n12.symm] at h2
      exact h2
    have hp1 : (upd H d1 (.dT [])) p = some (.ins T.a_Phrasebook dx []) := by rw [upd_ne n1]; exact hp
    have e1 : KpE [p] H (upd (upd H d1 (.dT [])) p (.ins T.a_Phrasebook dx (putF "word_by_place" (.ref d1) []))) := (KpE.of (Kp.new h1)).trans (KpE.put hp1 rfl List.mem_cons_self)
    refine k d1 d2 _ h1 f2 ⟨⟨dx, upd_same⟩, ?_, ?_, by simp⟩ (e1.trans ((KpE.of (Kp.new h2)).trans (KpE.put (by rw [upd_ne n2]; exact upd_same) rfl List.mem_cons_self)))
    · rw [upd_ne n1.symm, upd_ne n12, upd_ne n1.symm, upd_same]
      rfl
    · rw [upd_ne n2.symm, upd_same]
      rfl
theorem kp_made {C H H1 x dx} (nx : H x = none) (ndx : H dx = none) (ne : dx ≠ x) (k : KpE [x] (upd (upd H dx (.own x)) x (.ins C dx [])) H1) : Kp H H1 :=
  KpE.kp ((Kp.new ndx).trans (.new (by rw [upd_ne ne.symm]; exact nx))) ⟨k.same, k.tab, k.free⟩ (fun b hb => by rw [List.mem_singleton.mp hb]; exact nx)
def sp_p_Phrasebook_word_at (C B : Addr) : Sp := fun vs H Q E => ∃ (p d1 d2 : Addr) (bs : List Ent) (a l : Int), vs = [.ref p, .int a, .int l] ∧ BookAt C H p d1 d2 bs ∧
  (okP a l = true → ∀ H', Kp H H' → Q (((atP bs a l).map fun b => V.str b.1.1).getD .non) H') ∧ (okP a l = false → E (.ref B) none H)
theorem ok_p_Phrasebook_word_at (T : Txt K mg) : FnOk P w K mg base (L2.CX P w) 3 T.f_p_Phrasebook_word_at T.d_p_Phrasebook_word_at ["self", "page", "line"] (sp_p_Phrasebook_word_at T.a_Phrasebook T.a_BadPlace) := by
  refine T.F_p_Phrasebook_word_at.okX sc_p_Phrasebook_word_at (fun vs H Q E h => ?_) (fun cdv A outer s H vs Q E hr h => ?_)
  · obtain ⟨p, d1, d2, bs, a, l, rfl, _⟩ := h
    rfl
  · obtain ⟨p, d1, d2, bs, a, l, rfl, hB, k, kE⟩ := h
    have hu := hu_of hr
    refine ⟨_, (pss_cons (ps_expr (pe_call (ok_p_check_place T) (hr.mono (by decide)) rfl T.g_p_check_place T.F_p_check_place.kp T.b_p_check_place .nil (passes_call (takes_of rfl rfl rfl rfl) (fun _ _ _ _ z => z)) (pa_cons (pv 1) (pa_cons (pv 2) pa_nil))))
      (pss_one (ps_ret (pe_dget1 hu (pe_fld (pv 0) rfl) (pe_tup (pa_cons (pv 1) (pa_cons (pv 2) pa_nil))) ⟨rfl, rfl, rfl, rfl⟩)))), ?_⟩
    refine ⟨_, rfl, _, rfl, a, l, rfl, fun c => ?_, fun c => kE c⟩
    obtain ⟨dx, hp⟩ := hB.ob
    refine ⟨_, rfl, p, _, dx, _, _, rfl, hp, T.cl_Phrasebook, T.n_Phrasebook_word_by_place, flds_word _ _, d1, rfl, .inr ⟨_, .inl hB.pl⟩, _, rfl, _, rfl, szl (by show 2 ≤ 100000; decide), fun t nt => ?_⟩
    generalize h_H1 : upd H t _ = H1
    have k_H1 : Kp H H1 := by rw [← h_H1]; exact .new nt
    have q_H1 := (congrFun h_H1 t).symm.trans upd_same
    clear h_H1
    have B1 := hB.kp k_H1
    have z := k c _ k_H1
    rw [← valP] at z
    exact ⟨_, DGet.t (k := [Sum.inl a, Sum.inl l]) B1.pl q_H1, z⟩
/-- why a word is not entered: the place, the word, the place has one, the word has one -/
inductive Why where
  | place | word | taken | known
def enterV (bs : List Ent) (a l : Int) (t : Str) : Option Why :=
  if okP a l = false then some .place else if isW t = false then some .word else if (atP bs a l).isSome then some .taken else if (atW bs t).isSome then some .known else none
def sp_p_Phrasebook_enter (T : Txt K mg) : Sp := fun vs H Q E => ∃ (p d1 d2 : Addr) (bs : List Ent) (a l : Int) (t : Str), vs = [.ref p, .int a, .int l, .str t] ∧ BookAt T.a_Phrasebook H p d1 d2 bs ∧ bs.length ≤ 1000 ∧ t.length ≤ 1000 ∧ GxR.TabG H T.P_tab ∧
  (enterV bs a l t = none → ∀ (u : Addr) (H' : Hp), KpE [d1, d2] H H' → BookAt T.a_Phrasebook H' p d1 d2 (bs ++ [((t, a, l), u)]) → Q .non H') ∧
  (∀ y, enterV bs a l t = some y → ∀ H', Kp H H' → E (.ref (match y with | .place => T.a_BadPlace | .word => T.a_BadWord | .taken => T.a_Taken | .known => T.a_Known)) none H')
theorem ok_p_Phrasebook_enter (T : Txt K mg) (TB : GxR.TabB base mg T.c_tab T.P_tab) : FnOk P w K mg base (L2.CX P w) 5 T.f_p_Phrasebook_enter T.d_p_Phrasebook_enter ["self", "page", "line", "word"] (sp_p_Phrasebook_enter T) := by
  refine T.F_p_Phrasebook_enter.okX sc_p_Phrasebook_enter (fun vs H Q E h => ?_) (fun cdv A outer s H vs Q E hr h => ?_)
  · obtain ⟨p, d1, d2, bs, a, l, t, rfl, _⟩ := h
    rfl
  · obtain ⟨p, d1, d2, bs, a, l, t, rfl, hB, hbl, hl, hT, k, kE⟩ := h
    have hu := hu_of hr
    refine ⟨_, (pss_cons (ps_expr (pe_call (ok_p_check_place T) (hr.mono (by decide)) rfl T.g_p_check_place T.F_p_check_place.kp T.b_p_check_place .nil (passes_call (takes_of rfl rfl rfl rfl) (fun _ _ _ _ z => z)) (pa_cons (pv 1) (pa_cons (pv 2) pa_nil))))
      (pss_cons (ps_expr (pe_call (ok_p_check_word T TB) (hr.mono (by decide)) rfl T.g_p_check_word T.F_p_check_word.kp T.b_p_check_word .nil (passes_call (takes_of rfl rfl rfl rfl) (fun _ _ _ _ z => z)) (pa_cons (pv 3) pa_nil)))
      (pss_cons (ps_if (pt_cmp (pc_din hu (pe_tup (pa_cons (pv 1) (pa_cons (pv 2) pa_nil))) (pe_fld (pv 0) rfl)))
      (pss_one (ps_raise rfl (takes_of rfl rfl rfl rfl) (pmk_own PySem.F.excBase_ValueError T.x_Taken T.g_Taken T.k_Taken (raises_own T.b_Taken T.t_Taken) rfl)))
      pss_nil)
      (pss_cons (ps_if (pt_cmp (pc_din hu (pv 3) (pe_fld (pv 0) rfl)))
      (pss_one (ps_raise rfl (takes_of rfl rfl rfl rfl) (pmk_own PySem.F.excBase_ValueError T.x_Known T.g_Known T.k_Known (raises_own T.b_Known T.t_Known) rfl)))
      pss_nil)
      (pss_cons (ps_dput hu (pe_fld (pv 0) rfl) (pe_tup (pa_cons (pv 1) (pa_cons (pv 2) pa_nil))) (pv 3) rfl)
      (pss_one (ps_dput hu (pe_fld (pv 0) rfl) (pv 3) (pe_tup (pa_cons (pv 1) (pa_cons (pv 2) pa_nil))) rfl))))))), ?_⟩
    refine ⟨_, rfl, _, rfl, a, l, rfl, fun c1 => ?_, fun c1 => kE .place (by unfold enterV; rw [if_pos c1]) H (.refl _)⟩
    have v1 : enterV bs a l t = if isW t = false then some .word else if (atP bs a l).isSome then some .taken else if (atW bs t).isSome then some .known else none := by
      unfold enterV
      rw [if_neg (by rw [c1]; decide)]
    refine ⟨_, rfl, t, rfl, hl, hT, fun c2 H1 k1 => ?_, fun c2 H1 k1 => kE .word (by rw [v1, if_pos c2]) H1 k1⟩
    rw [if_neg (by rw [c2]; decide)] at v1
    have B1 := hB.kp k1
    obtain ⟨dx, hp⟩ := B1.ob
    refine ⟨_, rfl, _, rfl, szl (by show 2 ≤ 100000; decide), fun u nu => ?_⟩
    generalize h_H2 : upd H1 u _ = H2
    have k_H2 : Kp H1 H2 := by rw [← h_H2]; exact .new nu
    have q_H2 := (congrFun h_H2 u).symm.trans upd_same
    clear h_H2
    have B2 := B1.kp k_H2
    have hp2 := k_H2.same _ _ rfl hp
    refine ⟨_, rfl, p, _, dx, _, _, rfl, hp2, T.cl_Phrasebook, T.n_Phrasebook_word_by_place, flds_word _ _, d1, _, rfl, DGet.t (k := [Sum.inl a, Sum.inl l]) B2.pl q_H2, _, rfl, ?_⟩
    cases e1 : atP bs a l with
    | some b =>
      refine iteTo (by rw [valP, e1]; rfl) ?_
      exact kE .taken (by rw [v1, e1]; rfl) H2 (k1.trans k_H2)
    | none =>
      refine iteFo (by rw [valP, e1]; rfl) ?_
      rw [e1] at v1
      refine ⟨_, rfl, _, rfl, p, _, dx, _, _, rfl, hp2, T.cl_Phrasebook, T.n_Phrasebook_place_by_word, flds_place _ _, d2, _, rfl, DGet.k (k := Sum.inr t) B2.wd, _, rfl, ?_⟩
      cases e2 : atW bs t with
      | some b =>
        refine iteTo (by rw [valW, e2]; rfl) ?_
        exact kE .known (by rw [v1, e2]; rfl) H2 (k1.trans k_H2)
      | none =>
        refine iteFo (by rw [valW, e2]; rfl) ?_
        rw [e2] at v1
        obtain ⟨np1, np2, n12⟩ := B2.ne
        have hbl1 : (kvP bs).length < sizeLine := szt (by unfold kvP; rw [List.length_map]; omega)
        have hbl2 : (kvW bs).length < sizeLine := szt (by unfold kvW; rw [List.length_map]; omega)
        refine ⟨_, rfl, _, rfl, p, _, dx, _, _, rfl, hp2, T.cl_Phrasebook, T.n_Phrasebook_word_by_place, flds_word _ _, _, rfl, _, rfl, szl (by show 2 ≤ 100000; decide), fun u3 nu3 => ?_⟩
        generalize h_H3 : upd H2 u3 _ = H3
        have k_H3 : Kp H2 H3 := by rw [← h_H3]; exact .new nu3
        have q_H3 := (congrFun h_H3 u3).symm.trans upd_same
        clear h_H3
        have B3 := B2.kp k_H3
        have hp3 := k_H3.same _ _ rfl hp2
        refine ⟨d1, _, rfl, DPut.t (k := [Sum.inl a, Sum.inl l]) B3.pl q_H3 hbl1, ?_⟩
        have eP : putK (kvP bs) [Sum.inl a, Sum.inl l] (V.str t) = kvP (bs ++ [((t, a, l), 0)]) := by
          rw [putK_new _ (by rw [valP, e1]; rfl)]
          unfold kvP
          rw [List.map_append]
          rfl
        rw [eP]
        have m1 : KpE [d1, d2] H3 (upd H3 d1 (.dT (kvP (bs ++ [((t, a, l), 0)])))) := KpE.put B3.pl rfl List.mem_cons_self
        refine ⟨_, rfl, _, rfl, szl (by show 2 ≤ 100000; decide), fun u4 nu4 => ?_⟩
        have n41 : d1 ≠ u4 := ne_of_none upd_same nu4
        have n42 : d2 ≠ u4 := ne_of_none (by rw [upd_ne n12.symm]; exact B3.wd) nu4
        have n4p : p ≠ u4 := ne_of_none (by rw [upd_ne np1]; exact hp3) nu4
        have w4 : (upd (upd H3 d1 (.dT (kvP (bs ++ [((t, a, l), 0)])))) u4 (.tup [V.int a, V.int l])) d2 = some (.dK (kvW bs)) := by
          rw [upd_ne n42, upd_ne n12.symm]
          exact B3.wd
        refine ⟨_, rfl, p, _, dx, _, _, rfl, (by rw [upd_ne n4p, upd_ne np1]; exact hp3), T.cl_Phrasebook, T.n_Phrasebook_place_by_word, flds_place _ _, _, rfl, d2, _, rfl, DPut.k (k := Sum.inr t) w4 hbl2, ?_⟩
        have eW : putK (kvW bs) (Sum.inr t) (V.ref u4) = kvW (bs ++ [((t, a, l), u4)]) := by
          rw [putK_new _ (by rw [valW, e2]; rfl)]
          unfold kvW
          rw [List.map_append]
          rfl
        rw [eW]
        have eP2 : kvP (bs ++ [((t, a, l), 0)]) = kvP (bs ++ [((t, a, l), u4)]) := by
          unfold kvP
          rw [List.map_append, List.map_append]
          rfl
        refine k (by rw [v1]; rfl) u4 _ (((KpE.of ((k1.trans k_H2).trans k_H3)).trans m1).trans ((KpE.of (Kp.new nu4)).trans (KpE.put w4 rfl (List.mem_cons_of_mem _ List.mem_cons_self)))) ⟨⟨dx, ?_⟩, ?_, upd_same, fun e he => ?_⟩
        · rw [upd_ne np2, upd_ne n4p, upd_ne np1]
          exact hp3
        · rw [upd_ne n12, upd_ne n41, upd_same, eP2]
        · rcases List.mem_append.mp he with he | he
          · have q := B3.tu e he
            have x1 : e.2 ≠ d1 := ne_of q B3.pl (by intro z; cases z)
            have x2 : e.2 ≠ d2 := ne_of q B3.wd (by intro z; cases z)
            have x4 : e.2 ≠ u4 := ne_of_none (by rw [upd_ne x1]; exact q) nu4
            rw [upd_ne x2, upd_ne x4, upd_ne x1]
            exact q
          · rw [List.mem_singleton.mp he]
            rw [upd_ne n42.symm, upd_same]
theorem Kp.unlock {H H' : Hp} {d : Addr} {u : HO} {od : Obj} (hd : H d = some u) (nt : isT u = false) (k : Kp (upd H d (.frz od u)) H') : Kp H (upd H' d u) := by
  refine ⟨fun a o t q => ?_, fun a ⟨ps, q, tr⟩ => ?_, fun a q => ?_⟩
  · by_cases e : a = d
    · rw [e] at q ⊢
      rw [hd] at q
      rw [upd_same, Option.some.inj q]
    · rw [upd_ne e]
      exact k.same a o t (by rw [upd_ne e]; exact q)
  · have e : a ≠ d := fun z => by
      rw [z, hd] at q
      rw [Option.some.inj q] at nt
      cases nt
    obtain ⟨ps', h1, h2⟩ := k.tab a ⟨ps, by rw [upd_ne e]; exact q, tr⟩
    exact ⟨ps', by rw [upd_ne e]; exact h1, h2⟩
  · by_cases e : a = d
    · rw [e, upd_same] at q
      cases q
    · rw [upd_ne e] at q
      have z := k.free a q
      rw [upd_ne e] at z
      exact z
/-! ### Phrasebook.strike -/
def sp_p_Phrasebook_strike (T : Txt K mg) : Sp := fun vs H Q E => ∃ (p d1 d2 : Addr) (bs : List Ent) (a l : Int), vs = [.ref p, .int a, .int l] ∧ BookAt T.a_Phrasebook H p d1 d2 bs ∧
  (okP a l = false → ∀ H', Kp H H' → E (.ref T.a_BadPlace) none H') ∧ (okP a l = true → atP bs a l = none → ∀ H', Kp H H' → E (.ref T.a_NoWord) none H') ∧
  (okP a l = true → ∀ b, atP bs a l = some b → ∃ bs2 : List Ent, dropK (kvP bs) [Sum.inl a, Sum.inl l] = kvP bs2 ∧ dropK (kvW bs) (Sum.inr b.1.1) = kvW bs2 ∧ (∀ e ∈ bs2, e ∈ bs) ∧
    ∀ H', KpE [d1, d2] H H' → BookAt T.a_Phrasebook H' p d1 d2 bs2 → Q .non H')
theorem ok_p_Phrasebook_strike (T : Txt K mg) : FnOk P w K mg base (L2.CX P w) 4 T.f_p_Phrasebook_strike T.d_p_Phrasebook_strike ["self", "page", "line"] (sp_p_Phrasebook_strike T) := by
  refine T.F_p_Phrasebook_strike.okX sc_p_Phrasebook_strike (fun vs H Q E h => ?_) (fun cdv A outer s H vs Q E hr h => ?_)
  · obtain ⟨p, d1, d2, bs, a, l, rfl, _⟩ := h
    rfl
  · obtain ⟨p, d1, d2, bs, a, l, rfl, hB, kP, kN, k⟩ := h
    have hu := hu_of hr
    refine ⟨_, (pss_cons (ps_set (i := 3) sc_p_Phrasebook_strike.nd rfl (by first | exact Or.inl rfl | exact Or.inr rfl) (pe_meth (pv 0) T.cl_Phrasebook T.M_p_Phrasebook_word_at (ok_p_Phrasebook_word_at T) (hr.mono (by decide)) T.b_p_Phrasebook_word_at .nil (passes_call (takes_of rfl rfl rfl rfl) (fun _ _ _ _ z => z)) (pa_cons (pv 1) (pa_cons (pv 2) pa_nil))))
      (pss_cons (ps_if (pt_cmpR op_isN (pv 3) pe_non (nomark _))
      (pss_one (ps_raise rfl (takes_of rfl rfl rfl rfl) (pmk_own PySem.F.excBase_ValueError T.x_NoWord T.g_NoWord T.k_NoWord (raises_own T.b_NoWord T.t_NoWord) rfl)))
      pss_nil)
      (pss_cons (ps_ddelT hu (pe_fld (pv 0) rfl) (pe_tup (pa_cons (pv 1) (pa_cons (pv 2) pa_nil))))
      (pss_one (ps_ddel (pe_fld (pv 0) rfl) (pv 3)))))), ?_⟩
    obtain ⟨dx, hp⟩ := hB.ob
    refine ⟨_, rfl, p, dx, _, rfl, hp, flds_no _ _ (by decide +kernel) (by decide +kernel), _, rfl, _, rfl, p, d1, d2, bs, a, l, rfl, hB, fun c H1 k1 => ?_, fun c => kP c H (.refl _)⟩
    cases e : atP bs a l with
    | none =>
      refine ⟨_, rfl, rfl, _, rfl, iteTo dec_self ?_⟩
      exact kN c e H1 k1
    | some b =>
      refine ⟨_, rfl, rfl, _, rfl, iteFo rfl ?_⟩
      obtain ⟨bs2, e1, e2, sub, k⟩ := k c b e
      have B1 := hB.kp k1
      obtain ⟨np1, np2, n12⟩ := B1.ne
      have hp1 := k1.same _ _ rfl hp
      refine ⟨_, rfl, p, _, dx, _, _, rfl, hp1, T.cl_Phrasebook, T.n_Phrasebook_word_by_place, flds_word _ _, _, rfl, _, rfl, szl (by show 2 ≤ 100000; decide), fun t nt => ?_⟩
      generalize h_H2 : upd H1 t _ = H2
      have k_H2 : Kp H1 H2 := by rw [← h_H2]; exact .new nt
      have q_H2 := (congrFun h_H2 t).symm.trans upd_same
      clear h_H2
      have B2 := B1.kp k_H2
      have hp2 := k_H2.same _ _ rfl hp1
      refine ⟨d1, t, _, [Sum.inl a, Sum.inl l], rfl, rfl, B2.pl, q_H2, by rw [valP, e]; rfl, ?_⟩
      rw [e1]
      have m1 : KpE [d1, d2] H2 (upd H2 d1 (.dT (kvP bs2))) := KpE.put B2.pl rfl List.mem_cons_self
      have w2 : (upd H2 d1 (.dT (kvP bs2))) d2 = some (.dK (kvW bs)) := by rw [upd_ne n12.symm]; exact B2.wd
      have hbb : (atW bs b.1.1).isSome = true := by
        unfold atW
        rw [List.find?_isSome]
        exact ⟨b, List.mem_of_find?_eq_some e, by simp⟩
      refine ⟨_, rfl, p, _, dx, _, _, rfl, (by rw [upd_ne np1]; exact hp2), T.cl_Phrasebook, T.n_Phrasebook_place_by_word, flds_place _ _, _, rfl, d2, _, Sum.inr b.1.1, rfl, w2, rfl, by rw [valW, Option.isSome_map]; exact hbb, ?_⟩
      rw [e2]
      refine k _ (((KpE.of (k1.trans k_H2)).trans m1).trans (KpE.put w2 rfl (List.mem_cons_of_mem _ List.mem_cons_self))) ⟨⟨dx, ?_⟩, ?_, upd_same, fun x hx => ?_⟩
      · rw [upd_ne np2, upd_ne np1]
        exact hp2
      · rw [upd_ne n12, upd_same]
      · have q := B2.tu x (sub x hx)
        have x1 : x.2 ≠ d1 := ne_of q B2.pl (by intro z; cases z)
        have x2 : x.2 ≠ d2 := ne_of q B2.wd (by intro z; cases z)
        rw [upd_ne x2, upd_ne x1]
        exact q
/-! ### deeds -/
abbrev Tri := Str × Int × Int
def hereT (a l : Int) (x : Tri) : Bool := decide (x.2.1 = a ∧ x.2.2 = l)
def hereF (a l : Int) (e : Ent) : Bool := decide (e.1.2.1 = a ∧ e.1.2.2 = l)
def plT (ts : List Tri) (a l : Int) : Option Tri := ts.find? (hereT a l)
def wdT (ts : List Tri) (t : Str) : Option Tri := ts.find? fun x => decide (x.1 = t)
theorem atP_T (bs : List Ent) (a l : Int) : (atP bs a l).map (·.1) = plT (bs.map (·.1)) a l := by
  unfold atP plT
  rw [List.find?_map]
  rfl
theorem atW_T (bs : List Ent) (t : Str) : (atW bs t).map (·.1) = wdT (bs.map (·.1)) t := by
  unfold atW wdT
  rw [List.find?_map]
  rfl
theorem atP_some (bs : List Ent) (a l : Int) : (atP bs a l).isSome = (plT (bs.map (·.1)) a l).isSome := by rw [← atP_T, Option.isSome_map]
theorem atW_some (bs : List Ent) (t : Str) : (atW bs t).isSome = (wdT (bs.map (·.1)) t).isSome := by rw [← atW_T, Option.isSome_map]
structure GoodT (ts : List Tri) : Prop where
  ok : ∀ x ∈ ts, isW x.1 = true ∧ okP x.2.1 x.2.2 = true
  pl : (ts.map (·.2)).Nodup
  wd : (ts.map (·.1)).Nodup
theorem inj_nodup {α β : Type} {f : α → β} : ∀ {l : List α}, (l.map f).Nodup → ∀ x ∈ l, ∀ y ∈ l, f x = f y → x = y
  | [], _, x, hx, _, _, _ => nomatch hx
  | z :: r, h, x, hx, y, hy, e => by
    rw [List.map_cons, List.nodup_cons] at h
    rcases List.mem_cons.mp hx with rfl | hx
    · rcases List.mem_cons.mp hy with rfl | hy
      · rfl
      · exact absurd (List.mem_map.mpr ⟨y, hy, e.symm⟩) h.1
    · rcases List.mem_cons.mp hy with ey | hy
      · exact absurd (List.mem_map.mpr ⟨x, hx, by rw [← ey]; exact e⟩) h.1
      · exact inj_nodup h.2 x hx y hy e
theorem plT_mem {ts : List Tri} {a l : Int} {x : Tri} (h : plT ts a l = some x) : x ∈ ts ∧ x.2.1 = a ∧ x.2.2 = l :=
  ⟨List.mem_of_find?_eq_some h, by
    have z : hereT a l x = true := List.find?_some h
    exact of_decide_eq_true z⟩
theorem plT_none {ts : List Tri} {a l : Int} (h : (plT ts a l).isSome = false) : ∀ x ∈ ts, ¬ (x.2.1 = a ∧ x.2.2 = l) := fun x hx c => by
  have z : (plT ts a l).isSome = true := List.find?_isSome.mpr ⟨x, hx, decide_eq_true c⟩
  rw [z] at h
  cases h
theorem wdT_none {ts : List Tri} {t : Str} (h : (wdT ts t).isSome = false) : ∀ x ∈ ts, ¬ x.1 = t := fun x hx c => by
  have z : (wdT ts t).isSome = true := List.find?_isSome.mpr ⟨x, hx, decide_eq_true c⟩
  rw [z] at h
  cases h
/-- why a deed is refused: a kind's number -/
def deedV (ts : List Tri) (st : Bool) (a l : Int) (t : Str) : Option Nat :=
  if okP a l = false then some 0 else if st = true then (if (plT ts a l).isSome = true then none else some 4) else if isW t = false then some 1 else if (plT ts a l).isSome = true then some 2 else if (wdT ts t).isSome = true then some 3 else none
def deedT (ts : List Tri) (st : Bool) (a l : Int) (t : Str) : List Tri := if st = true then ts.filter (fun x => !hereT a l x) else ts ++ [(t, a, l)]
def nmOf (st : Bool) : Str := if st = true then "strike" else "enter"
theorem GoodT.step {ts : List Tri} {st : Bool} {a l : Int} {t : Str} (g : GoodT ts) (h : deedV ts st a l t = none) : GoodT (deedT ts st a l t) := by
  unfold deedV at h
  by_cases c0 : okP a l = false
  · rw [if_pos c0] at h; cases h
  rw [if_neg c0] at h
  cases st with
  | true =>
    show GoodT (ts.filter _)
    exact ⟨fun x hx => g.ok x (List.mem_filter.mp hx).1, g.pl.sublist (List.Sublist.map _ List.filter_sublist), g.wd.sublist (List.Sublist.map _ List.filter_sublist)⟩
  | false =>
    rw [if_neg (by decide)] at h
    by_cases c1 : isW t = false
    · rw [if_pos c1] at h; cases h
    rw [if_neg c1] at h
    by_cases c2 : (plT ts a l).isSome = true
    · rw [if_pos c2] at h; cases h
    rw [if_neg c2] at h
    by_cases c3 : (wdT ts t).isSome = true
    · rw [if_pos c3] at h; cases h
    have d2 := plT_none (Bool.eq_false_iff.mpr c2)
    have d3 := wdT_none (Bool.eq_false_iff.mpr c3)
    show GoodT (ts ++ [(t, a, l)])
    refine ⟨fun x hx => ?_, ?_, ?_⟩
    · rcases List.mem_append.mp hx with hx | hx
      · exact g.ok x hx
      · rw [List.mem_singleton.mp hx]
        exact ⟨by simpa using c1, by simpa using c0⟩
    · rw [List.map_append, List.nodup_append]
      refine ⟨g.pl, by simp, fun x hx y hy e => ?_⟩
      obtain ⟨z, hz, rfl⟩ := List.mem_map.mp hx
      have hy2 : y = (a, l) := by simpa using hy
      subst hy2
      exact d2 z hz ⟨congrArg (·.1) e, congrArg (·.2) e⟩
    · rw [List.map_append, List.nodup_append]
      refine ⟨g.wd, by simp, fun x hx y hy e => ?_⟩
      obtain ⟨z, hz, rfl⟩ := List.mem_map.mp hx
      have hy2 : y = t := by simpa using hy
      subst hy2
      exact d3 z hz e
theorem filt_T (es : List Ent) (a l : Int) : (es.filter fun e => !hereF a l e).map (·.1) = (es.map (·.1)).filter fun x => !hereT a l x := by
  rw [List.filter_map]
  rfl
theorem here_one {ts : List Tri} {a l : Int} {x : Tri} (g : GoodT ts) (hx : plT ts a l = some x) {y : Tri} (hy : y ∈ ts) : (y.1 = x.1 ↔ (y.2.1 = a ∧ y.2.2 = l)) := by
  obtain ⟨h1, h2, h3⟩ := plT_mem hx
  constructor
  · intro e
    rw [inj_nodup g.wd y hy x h1 e]
    exact ⟨h2, h3⟩
  · intro e
    rw [inj_nodup g.pl y hy x h1 (Prod.ext (e.1.trans h2.symm) (e.2.trans h3.symm))]
theorem drop_W {es : List Ent} {a l : Int} {x : Tri} (g : GoodT (es.map (·.1))) (hx : plT (es.map (·.1)) a l = some x) : dropK (kvW es) (Sum.inr x.1) = kvW (es.filter fun e => !hereF a l e) := by
  unfold dropK kvW
  rw [List.filter_map]
  congr 1
  refine List.filter_congr fun e he => ?_
  have q := here_one g hx (List.mem_map.mpr ⟨e, he, rfl⟩)
  show decide ((Sum.inr e.1.1 : Key) ≠ Sum.inr x.1) = !hereF a l e
  unfold hereF
  by_cases c : e.1.1 = x.1
  · rw [decide_eq_true (q.mp c), c]
    simp
  · rw [decide_eq_false (fun z => c (q.mpr z)), decide_eq_true (show (Sum.inr e.1.1 : Key) ≠ Sum.inr x.1 from fun z => c (by injection z))]
    rfl
theorem drop_P (bs : List Ent) (a l : Int) : dropK (kvP bs) [Sum.inl a, Sum.inl l] = kvP (bs.filter fun e => !hereF a l e) := by
  unfold dropK kvP
  rw [List.filter_map]
  congr 1
  refine List.filter_congr fun e he => ?_
  show decide (([Sum.inl e.1.2.1, Sum.inl e.1.2.2] : List Key) ≠ [Sum.inl a, Sum.inl l]) = !hereF a l e
  unfold hereF
  by_cases c : e.1.2.1 = a ∧ e.1.2.2 = l
  · rw [decide_eq_true c, c.1, c.2]
    simp
  · rw [decide_eq_false c, decide_eq_true (show ([Sum.inl e.1.2.1, Sum.inl e.1.2.2] : List Key) ≠ [Sum.inl a, Sum.inl l] from fun z => c (by injection z with z1 z2; injection z1 with z1; injection z2 with z2 _; injection z2 with z2; exact ⟨z1, z2⟩))]
    rfl
def whyN : Why → Nat
  | .place => 0
  | .word => 1
  | .taken => 2
  | .known => 3
theorem enter_V (bs : List Ent) (a l : Int) (t : Str) : deedV (bs.map (·.1)) false a l t = (enterV bs a l t).map whyN := by
  unfold deedV enterV
  rw [← atP_some, ← atW_some]
  generalize (atP bs a l).isSome = x
  generalize (atW bs t).isSome = y
  generalize okP a l = u
  generalize isW t = v
  cases u <;> cases v <;> cases x <;> cases y <;> rfl
/-- the class that a refusal of the phrasebook has -/
def whyS : Nat → Str
  | 0 => "BadPlace"
  | 1 => "BadWord"
  | 2 => "Taken"
  | 3 => "Known"
  | _ => "NoWord"
/-! ### is_sign, check_signs -/
def isSg (n : Int) : Bool := decide (1 ≤ n) && decide (n ≤ 94)
def sp_p_is_sign : Sp := fun vs H Q _ => ∃ n : Int, vs = [.int n] ∧ Q (.bl (isSg n)) H
theorem ok_p_is_sign (T : Txt K mg) : FnOk P w K mg base CX0 1 T.f_p_is_sign T.d_p_is_sign ["number"] sp_p_is_sign := by
  refine T.F_p_is_sign.ok sc_p_is_sign (fun vs H Q E h => ?_) (fun cdv A outer s H vs Q E hr h => ?_)
  · obtain ⟨n, rfl, _⟩ := h
    rfl
  · obtain ⟨n, rfl, k⟩ := h
    refine ⟨_, (pss_one (ps_ret (pe_chain op_le op_le pe_int (pv 0) (pe_glob rfl T.c_LAST_SIGN T.r_LAST_SIGN)))), ?_⟩
    refine ⟨_, rfl, _, _, rfl, rfl, _, rfl, ?_⟩
    unfold isSg at k
    by_cases c : 1 ≤ n
    · rw [decide_eq_true c] at k
      refine iteTo (decide_eq_true c) ⟨_, _, rfl, rfl, k⟩
    · rw [decide_eq_false c] at k
      exact iteFo (decide_eq_false c) k
def sp_p_check_signs (K : PySem.W.Frag) (C Pt : Addr) : Sp := fun vs H Q E => ∃ (a : Addr) (ns : List Int), vs = [.ref a] ∧ SqL K H a (ns.map V.int) ∧ GxR.TabG H Pt ∧ (ns.all isSg = true → ∀ H', Kp H H' → Q .non H') ∧ (ns.all isSg = false → ∀ H', Kp H H' → E (.ref C) none H')
theorem ok_p_check_signs (T : Txt K mg) (TBS : GxR.TabB base mg T.c_tabS T.P_tabS) : FnOk P w K mg base (L2.CX P w) 3 T.f_p_check_signs T.d_p_check_signs ["numbers"] (sp_p_check_signs K T.a_BadSign T.P_tabS) := by
  obtain ⟨tl, hu⟩ : ∃ tl, T.u_LAST_SIGN = Value.int 94 tl := T.r_LAST_SIGN
  have hL : mg "LAST_SIGN" = some (.int 94 tl) := T.c_LAST_SIGN.trans (congrArg some hu)
  refine T.W_p_check_signs.okX sc_p_check_signs (fun vs H Q E h => ?_) (fun A outer s H vs Q E hr h => ?_)
  · obtain ⟨a, ns, rfl, _⟩ := h
    rfl
  · obtain ⟨a, ns, rfl, hS, tg, k, kE⟩ := h
    have hD : (cxOf (L2.CX P w) P w K mg base ["numbers", "number"] "check_signs" (defScope s_p_check_signs) T.f_p_check_signs (.ref T.c_tabS) A outer s H E).A.depth + 1 < recursionLimit := by
      have := hr.dp
      show (A.deeper _).depth + 1 < recursionLimit
      omega
    refine ⟨_, (pss_one (ps_if (pt_not (pt_val (pe_allD hr (by rfl) T.m_all (by decide +kernel) TBS rfl ⟨rfl, rfl, noCell (by decide +kernel), rfl, rfl, noFree (by decide +kernel)⟩ (pv 0) (elt_call T.F_p_is_sign T.g_p_is_sign T.b_p_is_sign sc_p_is_sign (noCell (by decide +kernel)) rfl (elt_chain rfl rfl rfl hL) rfl rfl rfl rfl hD) (fun _ => rfl))))
      (pss_one (ps_raise rfl (takes_of rfl rfl rfl rfl) (pmk_own PySem.F.excBase_ValueError T.x_BadSign T.g_BadSign T.k_BadSign (raises_own T.b_BadSign T.t_BadSign) rfl)))
      pss_nil)), ?_⟩
    refine ⟨_, rfl, a, ns, rfl, hS, tg, fun H2 tb => ?_⟩
    have k2 := kp_tabbed tg tb
    refine ⟨_, rfl, iteB (fun c => ?_) (fun c => ?_)⟩
    · exact kE (by simpa [isSg] using c) _ k2
    · exact k (by simpa [isSg] using c) _ k2
/-! ### ways -/
def isWay (w : Str) : Bool := inV (.str w) [.str "up", .str "down"]
theorem isWay_iff {w : Str} : isWay w = true ↔ w = "up" ∨ w = "down" := by
  unfold isWay inV
  simp only [List.any_cons, List.any_nil, Bool.or_false, Bool.or_eq_true]
  show (((Str.ofString "up" == w) = true) ∨ ((Str.ofString "down" == w) = true)) ↔ _
  rw [beq_iff_eq, beq_iff_eq]
  exact ⟨fun h => h.elim (fun z => .inl z.symm) (fun z => .inr z.symm), fun h => h.elim (fun z => .inl z.symm) (fun z => .inr z.symm)⟩
def sp_p_check_way (C : Addr) : Sp := fun vs H Q E => ∃ w : Str, vs = [.str w] ∧ (isWay w = true → ∀ H', Kp H H' → Q .non H') ∧ (isWay w = false → ∀ H', Kp H H' → E (.ref C) none H')
theorem ok_p_check_way (T : Txt K mg) : FnOk P w K mg base (L2.CX P w) 2 T.f_p_check_way T.d_p_check_way ["way"] (sp_p_check_way T.a_BadWay) := by
  refine T.F_p_check_way.okX sc_p_check_way (fun vs H Q E h => ?_) (fun cdv A outer s H vs Q E hr h => ?_)
  · obtain ⟨w, rfl, _⟩ := h
    rfl
  · obtain ⟨w, rfl, k, kE⟩ := h
    refine ⟨_, (pss_one (ps_if (pt_cmpR op_notIn_seq (pv 0) (pe_tup (pa_cons (pe_glob rfl T.c_UP T.r_UP) (pa_cons (pe_glob rfl T.c_DOWN T.r_DOWN) pa_nil))) rfl)
      (pss_one (ps_raise rfl (takes_of rfl rfl rfl rfl) (pmk_own PySem.F.excBase_ValueError T.x_BadWay T.g_BadWay T.k_BadWay (raises_own T.b_BadWay T.t_BadWay) rfl)))
      pss_nil)), ?_⟩
    refine ⟨_, rfl, szl (by show 2 ≤ 100000; decide), fun t nt => ?_⟩
    generalize h_H1 : upd H t _ = H1
    have k_H1 : Kp H H1 := by rw [← h_H1]; exact .new nt
    have q_H1 := (congrFun h_H1 t).symm.trans upd_same
    clear h_H1
    refine ⟨t, _, rfl, .inr (.inl (.inl q_H1)), rfl, rfl, _, rfl, iteB (fun c => ?_) (fun c => ?_)⟩
    · exact kE (by have c : (!isWay w) = true := c; simpa using c) _ k_H1
    · exact k (by have c : (!isWay w) = false := c; simpa using c) _ k_H1
def sp_p_check_mast (D : Addr) : Sp := fun vs H Q E => ∃ masts mast : Int, vs = [.int masts, .int mast] ∧ (0 ≤ mast → mast < masts → Q .non H) ∧ (¬ (0 ≤ mast ∧ mast < masts) → E (.ref D) none H)
theorem ok_p_check_mast (T : Txt K mg) : FnOk P w K mg base (L2.CX P w) 2 T.f_p_check_mast T.d_p_check_mast ["masts", "mast"] (sp_p_check_mast T.a_NoMast) := by
  refine T.F_p_check_mast.okX sc_p_check_mast (fun vs H Q E h => ?_) (fun cdv A outer s H vs Q E hr h => ?_)
  · obtain ⟨masts, mast, rfl, _⟩ := h
    rfl
  · obtain ⟨masts, mast, rfl, k, kD⟩ := h
    refine ⟨_, (pss_one (ps_if (pt_not (pt_chain op_le op_lt pe_int (pv 1) (pv 0)))
      (pss_one (ps_raise rfl (takes_of rfl rfl rfl rfl) (pmk_own PySem.F.excBase_ValueError T.x_NoMast T.g_NoMast T.k_NoMast (raises_own T.b_NoMast T.t_NoMast) rfl)))
      pss_nil)), ?_⟩
    refine ⟨_, rfl, _, _, rfl, rfl, _, rfl, iteD (fun c => ?_) (fun c => ?_)⟩
    · refine ⟨_, rfl, _, _, rfl, rfl, _, rfl, ?_⟩
      by_cases c2 : mast < masts
      · exact iteFo (by rw [decide_eq_true c2]; rfl) (k c c2)
      · exact iteTo (by rw [decide_eq_false c2]; rfl) (kD (fun z => c2 z.2))
    · exact ⟨_, rfl, iteTo rfl (kD (fun z => c z.1))⟩
def plV (w : Str) (masts mast : Int) : V := if decide (V.str w = V.str "up") = true then .int mast else .int (masts - 1 - mast)
def sp_p_place_of (C D : Addr) : Sp := fun vs H Q E => ∃ (w : Str) (masts mast : Int), vs = [.str w, .int masts, .int mast] ∧
  (isWay w = true → 0 ≤ mast → mast < masts → ∀ H', Kp H H' → Q (plV w masts mast) H') ∧ (isWay w = true → ¬ (0 ≤ mast ∧ mast < masts) → ∀ H', Kp H H' → E (.ref D) none H') ∧ (isWay w = false → ∀ H', Kp H H' → E (.ref C) none H')
theorem ok_p_place_of (T : Txt K mg) : FnOk P w K mg base (L2.CX P w) 3 T.f_p_place_of T.d_p_place_of ["way", "masts", "mast"] (sp_p_place_of T.a_BadWay T.a_NoMast) := by
  refine T.F_p_place_of.okX sc_p_place_of (fun vs H Q E h => ?_) (fun cdv A outer s H vs Q E hr h => ?_)
  · obtain ⟨w, masts, mast, rfl, _⟩ := h
    rfl
  · obtain ⟨w, masts, mast, rfl, k, kD, kE⟩ := h
    refine ⟨_, (pss_cons (ps_expr (pe_call (ok_p_check_way T) (hr.mono (by decide)) rfl T.g_p_check_way T.F_p_check_way.kp T.b_p_check_way .nil (passes_call (takes_of rfl rfl rfl rfl) (fun _ _ _ _ z => z)) (pa_cons (pv 0) pa_nil)))
      (pss_cons (ps_expr (pe_call (ok_p_check_mast T) (hr.mono (by decide)) rfl T.g_al_check_mast_ways T.F_p_check_mast.kp T.b_p_check_mast .nil (passes_call (takes_of rfl rfl rfl rfl) (fun _ _ _ _ z => z)) (pa_cons (pv 1) (pa_cons (pv 2) pa_nil))))
      (pss_one (ps_ret (pe_ifExp (pt_cmpR op_eq (pv 0) (pe_glob rfl T.c_UP T.r_UP) (nomark _)) (pv 2) (pe_op op_sub (pe_op op_sub (pv 1) pe_int) (pv 2))))))), ?_⟩
    refine ⟨_, rfl, w, rfl, fun hw H1 k1 => ?_, fun hw H1 k1 => kE hw _ k1⟩
    refine ⟨_, rfl, _, rfl, masts, mast, rfl, fun c c2 => ?_, fun c => kD hw c _ k1⟩
    have z := k hw c c2 _ k1
    unfold plV at z
    refine ⟨_, rfl, rfl, _, rfl, iteB (fun c3 => ?_) (fun c3 => ?_)⟩
    · rw [if_pos c3] at z
      exact ⟨_, rfl, z⟩
    · rw [if_neg (by rw [c3]; exact Bool.false_ne_true)] at z
      exact ⟨_, rfl, _, _, rfl, rfl, _, rfl, _, _, rfl, rfl, z⟩
def sp_p_along (K : PySem.W.Frag) (C : Addr) : Sp := fun vs H Q E => ∃ (w : Str) (a : Addr) (xs : List V), vs = [.str w, .ref a] ∧ SqL K H a xs ∧ xs.length ≤ 1000 ∧
  (isWay w = true → ∀ (p : Addr) (H' : Hp), Kp H H' → H p = none → H' p = some (.lst (if decide (V.str w = V.str "up") = true then xs else xs.reverse)) → Q (.ref p) H') ∧ (isWay w = false → ∀ H', Kp H H' → E (.ref C) none H')
theorem ok_p_along (T : Txt K mg) : FnOk P w K mg base (L2.CX P w) 3 T.f_p_along T.d_p_along ["way", "row"] (sp_p_along K T.a_BadWay) := by
  refine T.F_p_along.okX sc_p_along (fun vs H Q E h => ?_) (fun cdv A outer s H vs Q E hr h => ?_)
  · obtain ⟨w, a, ns, rfl, _⟩ := h
    rfl
  · obtain ⟨w, a, ns, rfl, hS, hl, k, kE⟩ := h
    refine ⟨_, (pss_cons (ps_expr (pe_call (ok_p_check_way T) (hr.mono (by decide)) rfl T.g_p_check_way T.F_p_check_way.kp T.b_p_check_way .nil (passes_call (takes_of rfl rfl rfl rfl) (fun _ _ _ _ z => z)) (pa_cons (pv 0) pa_nil)))
      (pss_one (ps_ret (pe_ifExp (pt_cmpR op_eq (pv 0) (pe_glob rfl T.c_UP T.r_UP) (nomark _)) (pe_callTy call_list_of (by rfl) T.m_list (by decide +kernel) (pa_cons (pv 1) pa_nil)) (pe_revL (pv 1)))))), ?_⟩
    refine ⟨_, rfl, w, rfl, fun hw H1 k1 => ?_, fun hw H1 k1 => kE hw _ k1⟩
    have k := k hw
    refine ⟨_, rfl, rfl, _, rfl, iteB (fun c => ?_) (fun c => ?_)⟩
    · rw [if_pos c] at k
      refine ⟨_, rfl, a, _, rfl, .inl (k1.sqL hS), fun p np => ?_⟩
      exact k p _ (k1.trans (.new np)) (k1.free _ np) upd_same
    · rw [if_neg (by rw [c]; exact Bool.false_ne_true)] at k
      refine ⟨_, rfl, a, _, rfl, k1.sqL hS, fun p np => ?_⟩
      exact k p _ (k1.trans (.new np)) (k1.free _ np) upd_same
/-! ### the rows of a line -/
inductive RK where
  | way | arms | sleep | fog
  | q (u : Bool)
  | b (u : Bool) (m : Nat)
  deriving DecidableEq
def wayN (u : Bool) : Str := if u = true then "up" else "down"
theorem wayN_inj {u v : Bool} (h : wayN u = wayN v) : u = v := by
  cases u <;> cases v <;> first | rfl | (exfalso; revert h; decide +kernel)
def RK.mk : RK → MK
  | .way => .t "way"
  | .arms => .t "arms"
  | .sleep => .t "sleep"
  | .fog => .t "fog"
  | .q u => .u [Sum.inr "queue", Sum.inr (wayN u)]
  | .b u m => .u [Sum.inr "book", Sum.inr (wayN u), Sum.inl (m : Int)]
theorem RK.mk_inj {a b : RK} (h : a.mk = b.mk) : a = b := by
  cases a with
  | way => cases b <;> first | rfl | (exfalso; revert h; decide +kernel) | (exfalso; cases h)
  | arms => cases b <;> first | rfl | (exfalso; revert h; decide +kernel) | (exfalso; cases h)
  | sleep => cases b <;> first | rfl | (exfalso; revert h; decide +kernel) | (exfalso; cases h)
  | fog => cases b <;> first | rfl | (exfalso; revert h; decide +kernel) | (exfalso; cases h)
  | q u =>
    cases b with
    | q v =>
      injection h with h
      injection h with _ h
      injection h with h _
      injection h with h
      rw [wayN_inj h]
    | b v m =>
      exfalso
      injection h with h
      have := congrArg List.length h
      simp at this
    | _ => exfalso; cases h
  | b u m =>
    cases b with
    | q v =>
      exfalso
      injection h with h
      have := congrArg List.length h
      simp at this
    | b v k =>
      injection h with h
      injection h with _ h
      injection h with h h2
      injection h with h
      injection h2 with h2 _
      injection h2 with h2
      rw [wayN_inj h, Int.ofNat.inj h2]
    | _ => exfalso; cases h
def wayKeys (n : Nat) (u : Bool) : List RK := .q u :: (List.range n).map (.b u)
def baseKeys : List RK := [.way, .arms, .sleep, .fog]
def keysOf (n : Nat) : List RK := baseKeys ++ (wayKeys n true ++ wayKeys n false)
/-- the entries of the dict of rows -/
def entsR (ks : List RK) (ky : RK → V) (ad : RK → Addr) : List (MK × V × V) := ks.map fun k => (k.mk, ky k, V.ref (ad k))
structure RowsAt (P : Program) (w : World) (H : Hp) (R : Addr) (ks : List RK) (ad : RK → Addr) : Prop where
  ob : ∃ ky : RK → V, H R = some (MixO P w R (entsR ks ky ad)) ∧ ∀ k ∈ ks, KeyM H k.mk (ky k)
  inj : ∀ k ∈ ks, ∀ k' ∈ ks, ad k = ad k' → k = k'
/-- what the rows hold -/
structure ContAt (K : PySem.W.Frag) (H : Hp) (ks : List RK) (ad : RK → Addr) (row : RK → List PyData) : Prop where
  at_ : ∀ k ∈ ks, ∃ vs, H (ad k) = some (.lst vs) ∧ DpAll K H vs (row k)
  nl : ∀ k ∈ ks, ∀ d ∈ row k, Nl d
theorem KeyM.kp {H H' : Hp} (k : Kp H H') : ∀ {m : MK} {v : V}, KeyM H m v → KeyM H' m v
  | .t _, _, h => h
  | .u _, _, ⟨b, e, h⟩ => ⟨b, e, k.same _ _ rfl h⟩
theorem KeyM.kpE {S : List Addr} {H H' : Hp} (k : KpE S H H') (hS : ∀ a ∈ S, ∀ xs, H a ≠ some (.tup xs)) : ∀ {m : MK} {v : V}, KeyM H m v → KeyM H' m v
  | .t _, _, h => h
  | .u _, _, ⟨b, e, h⟩ => ⟨b, e, k.same _ _ rfl (fun m => hS b m _ h) h⟩
theorem RowsAt.kp {P : Program} {w : World} {H H' : Hp} {R : Addr} {ks : List RK} {ad : RK → Addr} (r : RowsAt P w H R ks ad) (k : Kp H H') : RowsAt P w H' R ks ad := by
  obtain ⟨ky, h1, h2⟩ := r.ob
  exact ⟨⟨ky, k.same _ _ rfl h1, fun x hx => (h2 x hx).kp k⟩, r.inj⟩
theorem ContAt.kp {K : PySem.W.Frag} {H H' : Hp} {ks : List RK} {ad : RK → Addr} {row : RK → List PyData} (c : ContAt K H ks ad row) (k : Kp H H') : ContAt K H' ks ad row :=
  ⟨fun x hx => let ⟨vs, h1, h2⟩ := c.at_ x hx; ⟨vs, k.same _ _ rfl h1, k.dpAll h2⟩, c.nl⟩
/-- the rows while they are laid: of texts alone at first -/
structure RowsI (P : Program) (w : World) (H : Hp) (R : Addr) (ks : List RK) (ad : RK → Addr) : Prop where
  ob : ∃ ky : RK → V, MixAt P w H R (entsR ks ky ad) ∧ ∀ k ∈ ks, KeyM H k.mk (ky k)
  inj : ∀ k ∈ ks, ∀ k' ∈ ks, ad k = ad k' → k = k'
theorem MixAt.kp {P : Program} {w : World} {H H' : Hp} {a : Addr} {kvs : List (MK × V × V)} (m : MixAt P w H a kvs) (k : Kp H H') : MixAt P w H' a kvs := by
  rcases m with h | ⟨k0, h, e⟩
  · exact .inl (k.same _ _ rfl h)
  · exact .inr ⟨k0, k.same _ _ rfl h, e⟩
theorem RowsI.kp {P : Program} {w : World} {H H' : Hp} {R : Addr} {ks : List RK} {ad : RK → Addr} (r : RowsI P w H R ks ad) (k : Kp H H') : RowsI P w H' R ks ad := by
  obtain ⟨ky, h1, h2⟩ := r.ob
  exact ⟨⟨ky, h1.kp k, fun x hx => (h2 x hx).kp k⟩, r.inj⟩
theorem RowsI.fin {P : Program} {w : World} {H : Hp} {R : Addr} {ks : List RK} {ad : RK → Addr} (r : RowsI P w H R ks ad) {u : Bool} (h : RK.q u ∈ ks) : RowsAt P w H R ks ad := by
  obtain ⟨ky, h1, h2⟩ := r.ob
  rcases h1 with h1 | ⟨k0, _, e⟩
  · exact ⟨⟨ky, h1, h2⟩, r.inj⟩
  · exfalso
    have hm : ((RK.q u).mk, ky (.q u), V.ref (ad (.q u))) ∈ entsR ks ky ad := List.mem_map.mpr ⟨_, h, rfl⟩
    rw [e] at hm
    obtain ⟨p, _, hp⟩ := List.mem_map.mp hm
    cases hp
def setA (ad : RK → Addr) (k : RK) (a : Addr) : RK → Addr := fun x => if x = k then a else ad x
theorem entsR_snoc {ks : List RK} {ky : RK → V} {ad : RK → Addr} {k : RK} {y : V} {a : Addr} (h : k ∉ ks) : entsR ks ky ad ++ [(k.mk, y, V.ref a)] = entsR (ks ++ [k]) (fun x => if x = k then y else ky x) (setA ad k a) := by
  unfold entsR
  rw [List.map_append]
  congr 1
  · refine List.map_congr_left fun x hx => ?_
    have ne : x ≠ k := fun z => h (z ▸ hx)
    show (x.mk, ky x, V.ref (ad x)) = (x.mk, (if x = k then y else ky x), V.ref (if x = k then a else ad x))
    rw [if_neg ne, if_neg ne]
  · show [(k.mk, y, V.ref a)] = [(k.mk, (if k = k then y else ky k), V.ref (if k = k then a else ad k))]
    rw [if_pos rfl, if_pos rfl]
/-- one more row is laid -/
theorem RowsI.put {P : Program} {w : World} {H : Hp} {R : Addr} {ks : List RK} {ad : RK → Addr} {k : RK} {y : V} {a : Addr} (r : RowsI P w H R ks ad) (hk : k ∉ ks) (hy : KeyM H k.mk y) (ha : ∀ x ∈ ks, ad x ≠ a) :
    ∃ kvs, MixAt P w H R kvs ∧ KeysM H kvs ∧ (∀ p ∈ kvs, p.1 ≠ k.mk) ∧ kvs.length = ks.length ∧ RowsI P w (upd H R (MixO P w R (kvs ++ [(k.mk, y, V.ref a)]))) R (ks ++ [k]) (setA ad k a) := by
  obtain ⟨ky, h1, h2⟩ := r.ob
  have mu := h1.mut
  have keep : ∀ {m : MK} {v : V}, KeyM H m v → KeyM (upd H R (MixO P w R (entsR ks ky ad ++ [(k.mk, y, V.ref a)]))) m v := fun {m v} hm => by
    cases m with
    | t x => exact hm
    | u l =>
      obtain ⟨b, e, hb⟩ := hm
      refine ⟨b, e, ?_⟩
      rw [upd_ne (fun z => by rw [z] at hb; rw [hb] at mu; exact mu)]
      exact hb
  refine ⟨entsR ks ky ad, h1, fun p hp => ?_, fun p hp e => ?_, by unfold entsR; rw [List.length_map], ⟨fun x => if x = k then y else ky x, .inl ?_, fun x hx => ?_⟩, fun x hx x' hx' e => ?_⟩
  · obtain ⟨x, hx, rfl⟩ := List.mem_map.mp hp
    exact h2 x hx
  · obtain ⟨x, hx, rfl⟩ := List.mem_map.mp hp
    exact hk (RK.mk_inj e ▸ hx)
  · rw [upd_same, entsR_snoc hk]
  · dsimp only
    rcases List.mem_append.mp hx with hx | hx
    · have ne : x ≠ k := fun z => hk (z ▸ hx)
      rw [if_neg ne]
      exact keep (h2 x hx)
    · have e : x = k := List.mem_singleton.mp hx
      subst e
      rw [if_pos rfl]
      exact keep hy
  · unfold setA at e
    rcases List.mem_append.mp hx with hx | hx
    · have ne : x ≠ k := fun z => hk (z ▸ hx)
      rw [if_neg ne] at e
      rcases List.mem_append.mp hx' with hx' | hx'
      · have ne' : x' ≠ k := fun z => hk (z ▸ hx')
        rw [if_neg ne'] at e
        exact r.inj x hx x' hx' e
      · rw [if_pos (List.mem_singleton.mp hx')] at e
        exact absurd e (ha x hx)
    · have ex : x = k := List.mem_singleton.mp hx
      rw [if_pos ex] at e
      rcases List.mem_append.mp hx' with hx' | hx'
      · have ne' : x' ≠ k := fun z => hk (z ▸ hx')
        rw [if_neg ne'] at e
        exact absurd e.symm (ha x' hx')
      · rw [ex, List.mem_singleton.mp hx']
theorem ContAt.snoc {K : PySem.W.Frag} {H : Hp} {ks : List RK} {ad : RK → Addr} {row : RK → List PyData} {k : RK} {a : Addr} (c : ContAt K H ks ad row) (hk : k ∉ ks) (ha : H a = some (.lst [])) (hr : row k = []) : ContAt K H (ks ++ [k]) (setA ad k a) row := by
  refine ⟨fun x hx => ?_, fun x hx d hd => ?_⟩
  · unfold setA
    rcases List.mem_append.mp hx with hx | hx
    · rw [if_neg (fun z : x = k => hk (z ▸ hx))]
      exact c.at_ x hx
    · have e : x = k := List.mem_singleton.mp hx
      rw [if_pos e, e, hr]
      exact ⟨[], ha, .nil⟩
  · rcases List.mem_append.mp hx with hx | hx
    · exact c.nl x hx d hd
    · rw [List.mem_singleton.mp hx, hr] at hd
      cases hd
/-! ### data of tuples are kept where tuples are -/
def TupK (H H' : Hp) : Prop := ∀ a xs, Rd H a (.tup xs) → Rd H' a (.tup xs)
theorem TupK.refl (H : Hp) : TupK H H := fun _ _ h => h
theorem TupK.trans {H H1 H2 : Hp} (a : TupK H H1) (b : TupK H1 H2) : TupK H H2 := fun x xs h => b x xs (a x xs h)
theorem Kp.tk {H H' : Hp} (k : Kp H H') : TupK H H' := fun _ _ h => k.rd rfl h
/-- what is no tuple and not locked -/
def Loose : HO → Prop
  | .tup _ => False
  | .frz _ _ => False
  | _ => True
theorem TupK.upd {H : Hp} {p : Addr} {o u : HO} (h : H p = some u) (l : Loose u) : TupK H (upd H p o) := fun a xs r => by
  have ne : a ≠ p := fun z => by
    rw [z] at r
    rcases r with r | ⟨ob, r⟩
    · rw [h] at r; cases r; exact l
    · rw [h] at r; cases r; exact l
  rcases r with r | ⟨ob, r⟩
  · exact .inl (by rw [upd_ne ne]; exact r)
  · exact .inr ⟨ob, by rw [upd_ne ne]; exact r⟩
theorem TupK.kpE {S : List Addr} {H H' : Hp} (k : KpE S H H') (h : ∀ a ∈ S, ∀ u, H a = some u → Loose u) : TupK H H' := fun a xs r => by
  have ne : a ∉ S := fun m => by
    rcases r with r | ⟨ob, r⟩
    · exact h a m _ r
    · exact h a m _ r
  rcases r with r | ⟨ob, r⟩
  · exact .inl (k.same _ _ rfl ne r)
  · exact .inr ⟨ob, k.same _ _ rfl ne r⟩
mutual
theorem Dp.tk {K : PySem.W.Frag} {H H' : Hp} (t : TupK H H') : ∀ {d : PyData} {v : V}, Nl d → Dp K H v d → Dp K H' v d
  | _, _, _, .non => .non
  | _, _, _, .bl b => .bl b
  | _, _, _, .int i => .int i
  | _, _, _, .str x => .str x
  | _, _, n, .lst _ _ => nomatch n
  | _, _, n, .tup h a => by
    cases n with
    | tup n =>
      refine .tup ?_ (DpAll.tk t n a)
      rcases h with h | h
      · exact .inl (t _ _ h)
      · exact .inr h
theorem DpAll.tk {K : PySem.W.Frag} {H H' : Hp} (t : TupK H H') : ∀ {ds : List PyData} {vs : List V}, (∀ d ∈ ds, Nl d) → DpAll K H vs ds → DpAll K H' vs ds
  | _, _, _, .nil => .nil
  | _, _, n, .cons h r => .cons (Dp.tk t (n _ List.mem_cons_self) h) (DpAll.tk t (fun d hd => n d (List.mem_cons_of_mem _ hd)) r)
end
theorem ContAt.put {K : PySem.W.Frag} {H : Hp} {ks : List RK} {ad : RK → Addr} {row : RK → List PyData} {p : Addr} {o u : HO} (c : ContAt K H ks ad row) (h : H p = some u) (l : Loose u) (ne : ∀ k ∈ ks, ad k ≠ p) : ContAt K (upd H p o) ks ad row :=
  ⟨fun k hk => let ⟨vs, h1, h2⟩ := c.at_ k hk; ⟨vs, by rw [upd_ne (ne k hk)]; exact h1, DpAll.tk (.upd h l) (c.nl k hk) h2⟩, c.nl⟩
theorem Loose.ntup {H : Hp} {S : List Addr} (h : ∀ a ∈ S, ∀ u, H a = some u → Loose u) : ∀ a ∈ S, ∀ xs, H a ≠ some (.tup xs) := fun a m xs e => h a m _ e
theorem RowsAt.kpE {P : Program} {w : World} {S : List Addr} {H H' : Hp} {R : Addr} {ks : List RK} {ad : RK → Addr} (r : RowsAt P w H R ks ad) (k : KpE S H H') (hR : R ∉ S) (hS : ∀ a ∈ S, ∀ u, H a = some u → Loose u) : RowsAt P w H' R ks ad := by
  obtain ⟨ky, h1, h2⟩ := r.ob
  exact ⟨⟨ky, k.same _ _ rfl hR h1, fun x hx => KeyM.kpE k (Loose.ntup hS) (h2 x hx)⟩, r.inj⟩
theorem ContAt.kpE {K : PySem.W.Frag} {S : List Addr} {H H' : Hp} {ks : List RK} {ad : RK → Addr} {row : RK → List PyData} (c : ContAt K H ks ad row) (k : KpE S H H') (ha : ∀ x ∈ ks, ad x ∉ S) (hS : ∀ a ∈ S, ∀ u, H a = some u → Loose u) : ContAt K H' ks ad row :=
  ⟨fun x hx => let ⟨vs, h1, h2⟩ := c.at_ x hx; ⟨vs, k.same _ _ rfl (ha x hx) h1, DpAll.tk (.kpE k hS) (c.nl x hx) h2⟩, c.nl⟩
theorem loose1 {H : Hp} {a : Addr} {u : HO} (h : H a = some u) (l : Loose u) : ∀ b ∈ [a], ∀ v, H b = some v → Loose v := fun b m v e => by
  rw [List.mem_singleton.mp m, h] at e
  cases e
  exact l
/-! ### how a line stands in memory: rows, words, deeds with their changes -/
structure LA where
  s : Addr
  R : Addr
  B : Addr
  d1 : Addr
  d2 : Addr
  p : Addr
  f : Addr
  ad : RK → Addr
inductive Ch where
  | row (k : RK) (i : Nat) (tk ds : List PyData)
  | word (p l : Int) (t : Str) (on : Bool)
def kD : MK → PyData
  | .t x => .str x
  | .u ks => .tuple (ks.map fun k => match k with | .inl i => .int i | .inr x => .str x)
def one (b : Bool) (t : Str) : List PyData := if b = true then [.str t] else []
def oneV (b : Bool) (t : Str) : List V := if b = true then [.str t] else []
def Ch.d : Ch → PyData
  | .row k i tk ds => .tuple [kD k.mk, .int (i : Int), .tuple tk, .tuple ds]
  | .word p l t on => .tuple [.str "words", .tuple [.int p, .int l], .tuple (one (!on) t), .tuple (one on t)]
def Ch.inv : Ch → Ch
  | .row k i tk ds => .row k i ds tk
  | .word p l t on => .word p l t (!on)
abbrev Dd := PyData × List Ch
structure LC where
  n : Nat
  row : RK → List PyData
  ws : List Tri
  past : List Dd
  fut : List Dd
def LC.set (c : LC) (k : RK) (r : List PyData) : LC := { c with row := fun x => if x = k then r else c.row x }
def LC.app (c : LC) : Ch → LC
  | .row k i tk ds => c.set k ((c.row k).take i ++ ds ++ (c.row k).drop (i + tk.length))
  | .word p l t on => { c with ws := deedT c.ws (!on) p l t }
def LC.apps (c : LC) (hs : List Ch) : LC := hs.foldl LC.app c
theorem app_n (c : LC) (h : Ch) : (c.app h).n = c.n := by cases h <;> rfl
theorem apps_n : ∀ (hs : List Ch) (c : LC), (c.apps hs).n = c.n
  | [], _ => rfl
  | h :: r, c => (apps_n r (c.app h)).trans (app_n c h)
theorem app_past (c : LC) (h : Ch) : (c.app h).past = c.past := by cases h <;> rfl
theorem app_fut (c : LC) (h : Ch) : (c.app h).fut = c.fut := by cases h <;> rfl
theorem apps_past : ∀ (hs : List Ch) (c : LC), (c.apps hs).past = c.past
  | [], _ => rfl
  | h :: r, c => (apps_past r (c.app h)).trans (app_past c h)
theorem apps_fut : ∀ (hs : List Ch) (c : LC), (c.apps hs).fut = c.fut
  | [], _ => rfl
  | h :: r, c => (apps_fut r (c.app h)).trans (app_fut c h)
theorem apps_snoc (c : LC) (hs : List Ch) (h : Ch) : c.apps (hs ++ [h]) = (c.apps hs).app h := by
  unfold LC.apps
  rw [List.foldl_append]
  rfl
/-- a change can be made -/
def Fits1 (c : LC) : Ch → Prop
  | .row k i tk ds => k ∈ keysOf c.n ∧ i + tk.length ≤ (c.row k).length ∧ (c.row k).length + ds.length ≤ 10000
  | .word p l t on => deedV c.ws (!on) p l t = none ∧ c.ws.length < 1000 ∧ t.length ≤ 1000 ∧ (on = false → plT c.ws p l = some (t, p, l))
def FitsC : LC → List Ch → Prop
  | _, [] => True
  | c, h :: r => Fits1 c h ∧ FitsC (c.app h) r
theorem fits_at : ∀ (hs : List Ch) (c : LC) (i : Nat), FitsC c hs → FitsC (c.apps (hs.take i)) (hs.drop i)
  | _, _, 0, h => h
  | [], _, _ + 1, h => h
  | _ :: r, c, i + 1, h => fits_at r _ i h.2
/-- the data of a change has no list in it -/
def Ch.Nd : Ch → Prop
  | .row _ _ tk ds => (∀ d ∈ tk, Nl d) ∧ ∀ d ∈ ds, Nl d
  | .word _ _ _ _ => True
def fldS (R B : Addr) : List (Str × V) := putF "phrasebook" (.ref B) (putF "rows" (.ref R) [])
def fldL (s p f : Addr) : List (Str × V) := putF "future" (.ref f) (putF "past" (.ref p) (putF "state" (.ref s) []))
theorem fldS_rows (R B : Addr) : (fldS R B).lookup ("rows" : Str) = some (.ref R) := by
  unfold fldS
  rw [lookup_putF, if_neg (by decide +kernel), lookup_putF, if_pos rfl]
theorem fldS_book (R B : Addr) : (fldS R B).lookup ("phrasebook" : Str) = some (.ref B) := by
  unfold fldS
  rw [lookup_putF, if_pos rfl]
theorem fldS_no (R B : Addr) {m : Str} (h1 : ¬ m = "phrasebook") (h2 : ¬ m = "rows") : (fldS R B).lookup m = none := by
  unfold fldS
  rw [lookup_putF, if_neg h1, lookup_putF, if_neg h2]
  rfl
theorem fldL_state (s p f : Addr) : (fldL s p f).lookup ("state" : Str) = some (.ref s) := by
  unfold fldL
  rw [lookup_putF, if_neg (by decide +kernel), lookup_putF, if_neg (by decide +kernel), lookup_putF, if_pos rfl]
theorem fldL_past (s p f : Addr) : (fldL s p f).lookup ("past" : Str) = some (.ref p) := by
  unfold fldL
  rw [lookup_putF, if_neg (by decide +kernel), lookup_putF, if_pos rfl]
theorem fldL_fut (s p f : Addr) : (fldL s p f).lookup ("future" : Str) = some (.ref f) := by
  unfold fldL
  rw [lookup_putF, if_pos rfl]
theorem fldL_no (s p f : Addr) {m : Str} (h1 : ¬ m = "future") (h2 : ¬ m = "past") (h3 : ¬ m = "state") : (fldL s p f).lookup m = none := by
  unfold fldL
  rw [lookup_putF, if_neg h1, lookup_putF, if_neg h2, lookup_putF, if_neg h3]
  rfl
theorem fldL_set (s p f f' : Addr) : putF "future" (.ref f') (fldL s p f) = fldL s p f' := by rfl
theorem fldL_len (s p f : Addr) : (fldL s p f).length < 1000 := by show 3 < 1000; decide
/-! #### a phrasebook by its words alone -/
def BookW (C : Addr) (H : Hp) (p d1 d2 : Addr) (ws : List Tri) : Prop := ∃ bs : List Ent, BookAt C H p d1 d2 bs ∧ bs.map (·.1) = ws
theorem BookW.kp {C : Addr} {H H' : Hp} {p d1 d2 : Addr} {ws : List Tri} (b : BookW C H p d1 d2 ws) (k : Kp H H') : BookW C H' p d1 d2 ws := let ⟨bs, h, e⟩ := b; ⟨bs, h.kp k, e⟩
theorem BookAt.kpE {C : Addr} {S : List Addr} {H H' : Hp} {b d1 d2 : Addr} {bs : List Ent} (x : BookAt C H b d1 d2 bs) (k : KpE S H H') (hb : b ∉ S) (h1 : d1 ∉ S) (h2 : d2 ∉ S) (hS : ∀ a ∈ S, ∀ u, H a = some u → Loose u) : BookAt C H' b d1 d2 bs :=
  ⟨let ⟨dx, h⟩ := x.ob; ⟨dx, k.same _ _ rfl hb h⟩, k.same _ _ rfl h1 x.pl, k.same _ _ rfl h2 x.wd, fun e he => k.same _ _ rfl (fun m => hS _ m _ (x.tu e he)) (x.tu e he)⟩
theorem BookW.kpE {C : Addr} {S : List Addr} {H H' : Hp} {b d1 d2 : Addr} {ws : List Tri} (x : BookW C H b d1 d2 ws) (k : KpE S H H') (hb : b ∉ S) (h1 : d1 ∉ S) (h2 : d2 ∉ S) (hS : ∀ a ∈ S, ∀ u, H a = some u → Loose u) : BookW C H' b d1 d2 ws := let ⟨bs, h, e⟩ := x; ⟨bs, h.kpE k hb h1 h2 hS, e⟩
theorem BookW.ob {C : Addr} {H : Hp} {p d1 d2 : Addr} {ws : List Tri} (b : BookW C H p d1 d2 ws) : ∃ dx, H p = some (.ins C dx (flds d1 d2)) := let ⟨_, h, _⟩ := b; h.ob
theorem BookW.pl {C : Addr} {H : Hp} {p d1 d2 : Addr} {ws : List Tri} (b : BookW C H p d1 d2 ws) : ∃ kvs, H d1 = some (.dT kvs) := let ⟨_, h, _⟩ := b; ⟨_, h.pl⟩
theorem BookW.wd {C : Addr} {H : Hp} {p d1 d2 : Addr} {ws : List Tri} (b : BookW C H p d1 d2 ws) : ∃ kvs, H d2 = some (.dK kvs) := let ⟨_, h, _⟩ := b; ⟨_, h.wd⟩
structure StateAt (P : Program) (w : World) (K : PySem.W.Frag) (H : Hp) (a : LA) (c : LC) : Prop where
  ob : ∃ dx, H a.s = some (.ins (He.ga K "State") dx (fldS a.R a.B))
  rows : RowsAt P w H a.R (keysOf c.n) a.ad
  cont : ContAt K H (keysOf c.n) a.ad c.row
  book : BookW (He.ga K "Phrasebook") H a.B a.d1 a.d2 c.ws
  good : GoodT c.ws
theorem StateAt.kp {P : Program} {w : World} {K : PySem.W.Frag} {H H' : Hp} {a : LA} {c : LC} (s : StateAt P w K H a c) (k : Kp H H') : StateAt P w K H' a c :=
  ⟨let ⟨dx, h⟩ := s.ob; ⟨dx, k.same _ _ rfl h⟩, s.rows.kp k, s.cont.kp k, s.book.kp k, s.good⟩
theorem StateAt.kpE {P : Program} {w : World} {K : PySem.W.Frag} {S : List Addr} {H H' : Hp} {a : LA} {c : LC} (s : StateAt P w K H a c) (e : KpE S H H') (l : ∀ b ∈ S, ∀ u, H b = some u → Loose u) (h1 : a.s ∉ S) (h2 : a.R ∉ S) (h3 : ∀ k ∈ keysOf c.n, a.ad k ∉ S) (h4 : a.B ∉ S) (h5 : a.d1 ∉ S) (h6 : a.d2 ∉ S) : StateAt P w K H' a c :=
  ⟨let ⟨dx, h⟩ := s.ob; ⟨dx, e.same _ _ rfl h1 h⟩, s.rows.kpE e h2 l, s.cont.kpE e h3 l, s.book.kpE e h4 h5 h6 l, s.good⟩
theorem key_arms (n : Nat) : RK.arms ∈ keysOf n := by simp [keysOf, baseKeys]
theorem key_way (n : Nat) : RK.way ∈ keysOf n := by simp [keysOf, baseKeys]
theorem key_sleep (n : Nat) : RK.sleep ∈ keysOf n := by simp [keysOf, baseKeys]
theorem key_fog (n : Nat) : RK.fog ∈ keysOf n := by simp [keysOf, baseKeys]
theorem key_q (n : Nat) (u : Bool) : RK.q u ∈ keysOf n := by cases u <;> simp [keysOf, baseKeys, wayKeys]
theorem key_b {n m : Nat} (u : Bool) (h : m < n) : RK.b u m ∈ keysOf n := by cases u <;> simp [keysOf, baseKeys, wayKeys, h]
/-- a row is found -/
theorem StateAt.get {P : Program} {w : World} {K : PySem.W.Frag} {H : Hp} {a : LA} {c : LC} (s : StateAt P w K H a c) {k : RK} (hk : k ∈ keysOf c.n) : ∃ kvs, H a.R = some (MixO P w a.R kvs) ∧ KeysM H kvs ∧ ∃ ky, (k.mk, ky, V.ref (a.ad k)) ∈ kvs := by
  obtain ⟨ky, h1, h2⟩ := s.rows.ob
  refine ⟨_, h1, fun p hp => ?_, ky k, List.mem_map.mpr ⟨k, hk, rfl⟩⟩
  obtain ⟨x, hx, rfl⟩ := List.mem_map.mp hp
  exact h2 x hx
def adsR (a : LA) (n : Nat) : List Addr := (keysOf n).map a.ad
def adsS (a : LA) (n : Nat) : List Addr := a.d1 :: a.d2 :: adsR a n
theorem StateAt.loose {P : Program} {w : World} {K : PySem.W.Frag} {H : Hp} {a : LA} {c : LC} (s : StateAt P w K H a c) : ∀ b ∈ adsS a c.n, ∀ u, H b = some u → Loose u := fun b hb u e => by
  rcases List.mem_cons.mp hb with rfl | hb
  · obtain ⟨kvs, h⟩ := s.book.pl
    rw [h] at e; cases e; trivial
  rcases List.mem_cons.mp hb with rfl | hb
  · obtain ⟨kvs, h⟩ := s.book.wd
    rw [h] at e; cases e; trivial
  obtain ⟨k, hk, rfl⟩ := List.mem_map.mp hb
  obtain ⟨vs, h1, _⟩ := s.cont.at_ k hk
  rw [h1] at e
  cases e
  trivial
/-- a row is set -/
theorem StateAt.put {P : Program} {w : World} {K : PySem.W.Frag} {H : Hp} {a : LA} {c : LC} (s : StateAt P w K H a c) {k : RK} (hk : k ∈ keysOf c.n) {vs : List V} {ds : List PyData} (h : DpAll K H vs ds) (hn : ∀ d ∈ ds, Nl d) : StateAt P w K (upd H (a.ad k) (.lst vs)) a (c.set k ds) := by
  obtain ⟨us, h1, h2⟩ := s.cont.at_ k hk
  have e : KpE [a.ad k] H (upd H (a.ad k) (.lst vs)) := KpE.put h1 rfl List.mem_cons_self
  have l := loose1 h1 (show Loose (.lst us) from trivial)
  have nS : ∀ {u : HO} {y : Addr}, H y = some u → (∀ g, u ≠ .lst g) → y ∉ [a.ad k] := fun {u y} hy hu m => by
    rw [List.mem_singleton.mp m, h1] at hy
    cases hy
    exact hu _ rfl
  refine ⟨?_, ?_, ⟨fun x hx => ?_, fun x hx => ?_⟩, ?_, s.good⟩
  · obtain ⟨dx, h⟩ := s.ob
    exact ⟨dx, e.same _ _ rfl (nS h (by intro g z; cases z)) h⟩
  · obtain ⟨ky, h3, _⟩ := s.rows.ob
    exact s.rows.kpE e (nS h3 (by intro g z; cases z)) l
  · by_cases z : x = k
    · subst z
      refine ⟨vs, upd_same, ?_⟩
      show DpAll _ _ _ (if x = x then ds else c.row x)
      rw [if_pos rfl]
      exact DpAll.tk (.upd h1 trivial) hn h
    · obtain ⟨us', h3, h4⟩ := s.cont.at_ x hx
      refine ⟨us', ?_, ?_⟩
      · rw [upd_ne (fun y => z (s.rows.inj x hx k hk y))]
        exact h3
      · show DpAll _ _ _ (if x = k then ds else c.row x)
        rw [if_neg z]
        exact DpAll.tk (.upd h1 trivial) (s.cont.nl x hx) h4
  · show ∀ d ∈ (if x = k then ds else c.row x), Nl d
    by_cases z : x = k
    · rw [if_pos z]
      exact hn
    · rw [if_neg z]
      exact s.cont.nl x hx
  · obtain ⟨dx, hb⟩ := s.book.ob
    obtain ⟨k1, hp⟩ := s.book.pl
    obtain ⟨k2, hw⟩ := s.book.wd
    exact s.book.kpE e (nS hb (by intro g z; cases z)) (nS hp (by intro g z; cases z)) (nS hw (by intro g z; cases z)) l
/-- a list that is no row changes -/
theorem StateAt.putL {P : Program} {w : World} {K : PySem.W.Frag} {H : Hp} {a : LA} {c : LC} (s : StateAt P w K H a c) {x : Addr} {vs : List V} {o : HO} (hx : H x = some (.lst vs)) (n : ∀ k ∈ keysOf c.n, a.ad k ≠ x) : StateAt P w K (upd H x o) a c := by
  have nS : ∀ {u : HO} {y : Addr}, H y = some u → (∀ g, u ≠ .lst g) → y ∉ [x] := fun {u y} hy hu m => by
    rw [List.mem_singleton.mp m, hx] at hy
    cases hy
    exact hu _ rfl
  obtain ⟨dx, h1⟩ := s.ob
  obtain ⟨ky, h2, _⟩ := s.rows.ob
  obtain ⟨dx2, h3⟩ := s.book.ob
  obtain ⟨k1, hp⟩ := s.book.pl
  obtain ⟨k2, hw⟩ := s.book.wd
  exact s.kpE (KpE.put hx rfl List.mem_cons_self) (loose1 hx trivial) (nS h1 (by intro g z; cases z)) (nS h2 (by intro g z; cases z)) (fun k hk m => n k hk (List.mem_singleton.mp m)) (nS h3 (by intro g z; cases z)) (nS hp (by intro g z; cases z)) (nS hw (by intro g z; cases z))
/-- the line's own object changes -/
theorem StateAt.putI {P : Program} {w : World} {K : PySem.W.Frag} {H : Hp} {a : LA} {c : LC} (s : StateAt P w K H a c) {x C dx : Addr} {fs : List (Str × V)} {o : HO} (hx : H x = some (.ins C dx fs)) (n1 : a.s ≠ x) (n2 : a.B ≠ x) : StateAt P w K (upd H x o) a c := by
  have nS : ∀ {u : HO} {y : Addr}, H y = some u → (∀ C d g, u ≠ .ins C d g) → y ∉ [x] := fun {u y} hy hu m => by
    rw [List.mem_singleton.mp m, hx] at hy
    cases hy
    exact hu _ _ _ rfl
  obtain ⟨ky, h2, _⟩ := s.rows.ob
  obtain ⟨k1, hp⟩ := s.book.pl
  obtain ⟨k2, hw⟩ := s.book.wd
  exact s.kpE (KpE.put hx rfl List.mem_cons_self) (loose1 hx trivial) (fun m => n1 (List.mem_singleton.mp m)) (nS h2 (by intro C d g z; cases z)) (fun k hk => by
    obtain ⟨vs, h1, _⟩ := s.cont.at_ k hk
    exact nS h1 (by intro C d g z; cases z)) (fun m => n2 (List.mem_singleton.mp m)) (nS hp (by intro C d g z; cases z)) (nS hw (by intro C d g z; cases z))
/-! #### changes in memory -/
theorem KpE.mono {S S' : List Addr} {H H' : Hp} (k : KpE S H H') (h : ∀ a ∈ S, a ∈ S') : KpE S' H H' := ⟨fun a o t n q => k.same a o t (fun m => n (h a m)) q, k.tab, k.free⟩
theorem KpE.sqL {K : PySem.W.Frag} {S : List Addr} {H H' : Hp} {a : Addr} {xs : List V} (k : KpE S H H') (n : a ∉ S) (h : SqL K H a xs) : SqL K H' a xs := by
  rcases h with h | h
  · rcases h with h | ⟨o, h⟩
    · exact .inl (.inl (k.same _ _ rfl n h))
    · exact .inl (.inr ⟨o, k.same _ _ rfl n h⟩)
  · exact .inr h
theorem TupK.sqT {K : PySem.W.Frag} {H H' : Hp} {a : Addr} {xs : List V} (t : TupK H H') (h : SqT K H a xs) : SqT K H' a xs := by
  rcases h with h | h
  · exact .inl (t _ _ h)
  · exact .inr h
/-- tuples are kept, as they are -/
structure TupS (H H' : Hp) : Prop where
  own : ∀ a xs, H a = some (.tup xs) → H' a = some (.tup xs)
  rd : TupK H H'
theorem TupS.trans {H H1 H2 : Hp} (a : TupS H H1) (b : TupS H1 H2) : TupS H H2 := ⟨fun x xs h => b.own x xs (a.own x xs h), a.rd.trans b.rd⟩
theorem Kp.ts {H H' : Hp} (k : Kp H H') : TupS H H' := ⟨fun _ _ h => k.same _ _ rfl h, k.tk⟩
theorem TupS.kpE {S : List Addr} {H H' : Hp} (k : KpE S H H') (h : ∀ a ∈ S, ∀ u, H a = some u → Loose u) : TupS H H' := ⟨fun a xs q => k.same _ _ rfl (fun m => h a m _ q) q, .kpE k h⟩
theorem TupS.upd {H : Hp} {p : Addr} {o u : HO} (h : H p = some u) (l : Loose u) : TupS H (upd H p o) := ⟨fun a xs q => by
  rw [upd_ne (fun z => by rw [z, h] at q; cases q; exact l)]
  exact q, .upd h l⟩
theorem KeyM.ts {H H' : Hp} (t : TupS H H') : ∀ {m : MK} {v : V}, KeyM H m v → KeyM H' m v
  | .t _, _, h => h
  | .u _, _, ⟨b, e, h⟩ => ⟨b, e, t.own _ _ h⟩
/-- a tuple's address and its values -/
def TupV (K : PySem.W.Frag) (H : Hp) (v : V) (xs : List V) : Prop := ∃ t : Addr, v = .ref t ∧ SqT K H t xs
theorem TupV.ts {K : PySem.W.Frag} {H H' : Hp} {v : V} {xs : List V} (h : TupV K H v xs) (t : TupS H H') : TupV K H' v xs := let ⟨a, e, q⟩ := h; ⟨a, e, t.rd.sqT q⟩
/-- what is handed to swap for a change -/
def ArgsAt (K : PySem.W.Frag) (H : Hp) : Ch → V → V → V → V → Prop
  | .row k i tk ds, wv, av, tv, uv => KeyM H k.mk wv ∧ av = .int (i : Int) ∧ (∃ ts, TupV K H tv ts ∧ DpAll K H ts tk) ∧ ∃ us, TupV K H uv us ∧ DpAll K H us ds
  | .word p l t on, wv, av, tv, uv => wv = .str "words" ∧ TupV K H av [.int p, .int l] ∧ TupV K H tv (oneV (!on) t) ∧ TupV K H uv (oneV on t)
theorem ArgsAt.ts {K : PySem.W.Frag} {H H' : Hp} {wv av tv uv : V} (t : TupS H H') : ∀ {h : Ch}, h.Nd → ArgsAt K H h wv av tv uv → ArgsAt K H' h wv av tv uv
  | .row k i tk ds, nd, ⟨a, b, ⟨ts, c, d⟩, us, e, f⟩ => ⟨a.ts t, b, ⟨ts, c.ts t, DpAll.tk t.rd nd.1 d⟩, us, e.ts t, DpAll.tk t.rd nd.2 f⟩
  | .word _ _ _ _, _, ⟨a, b, c, d⟩ => ⟨a, b.ts t, c.ts t, d.ts t⟩
theorem ArgsAt.inv {K : PySem.W.Frag} {H : Hp} {wv av tv uv : V} : ∀ {h : Ch}, ArgsAt K H h wv av tv uv → ArgsAt K H h.inv wv av uv tv
  | .row _ _ _ _, ⟨a, b, c, d⟩ => ⟨a, b, d, c⟩
  | .word p l t on, ⟨a, b, c, d⟩ => ⟨a, b, by rw [Bool.not_not]; exact d, c⟩
theorem Ch.Nd.inv : ∀ {h : Ch}, h.Nd → h.inv.Nd
  | .row _ _ _ _, ⟨a, b⟩ => ⟨b, a⟩
  | .word _ _ _ _, _ => trivial
def ChAt (K : PySem.W.Frag) (H : Hp) (v : V) (h : Ch) : Prop := h.Nd ∧ ∃ wv av tv uv : V, TupV K H v [wv, av, tv, uv] ∧ ArgsAt K H h wv av tv uv
theorem ChAt.ts {K : PySem.W.Frag} {H H' : Hp} {v : V} {h : Ch} (c : ChAt K H v h) (t : TupS H H') : ChAt K H' v h := let ⟨n, a, b, x, y, q, r⟩ := c; ⟨n, a, b, x, y, q.ts t, r.ts t n⟩
def ChsAt (K : PySem.W.Frag) (H : Hp) : List V → List Ch → Prop
  | [], [] => True
  | v :: vs, h :: hs => ChAt K H v h ∧ ChsAt K H vs hs
  | _, _ => False
theorem ChsAt.ts {K : PySem.W.Frag} {H H' : Hp} (t : TupS H H') : ∀ {vs : List V} {hs : List Ch}, ChsAt K H vs hs → ChsAt K H' vs hs
  | [], [], _ => trivial
  | _ :: _, _ :: _, ⟨a, b⟩ => ⟨a.ts t, ChsAt.ts t b⟩
  | [], _ :: _, h => h.elim
  | _ :: _, [], h => h.elim
theorem ChsAt.len {K : PySem.W.Frag} {H : Hp} : ∀ {vs : List V} {hs : List Ch}, ChsAt K H vs hs → vs.length = hs.length
  | [], [], _ => rfl
  | _ :: _, _ :: _, ⟨_, b⟩ => congrArg (· + 1) (ChsAt.len b)
  | [], _ :: _, h => h.elim
  | _ :: _, [], h => h.elim
theorem ChsAt.at_ {K : PySem.W.Frag} {H : Hp} : ∀ {vs : List V} {hs : List Ch}, ChsAt K H vs hs → ∀ {i : Nat} {v : V} {h : Ch}, vs[i]? = some v → hs[i]? = some h → ChAt K H v h
  | [], [], _, _, _, _, e, _ => by simp at e
  | _ :: _, _ :: _, ⟨a, b⟩, 0, _, _, e, f => by cases Option.some.inj e; cases Option.some.inj f; exact a
  | _ :: _, _ :: _, ⟨a, b⟩, i + 1, _, _, e, f => ChsAt.at_ b (i := i) e f
  | [], _ :: _, h, _, _, _, _, _ => h.elim
  | _ :: _, [], h, _, _, _, _, _ => h.elim
theorem ChsAt.snoc {K : PySem.W.Frag} {H : Hp} : ∀ {vs : List V} {hs : List Ch} {v : V} {h : Ch}, ChsAt K H vs hs → ChAt K H v h → ChsAt K H (vs ++ [v]) (hs ++ [h])
  | [], [], _, _, _, c => ⟨c, trivial⟩
  | _ :: _, _ :: _, _, _, ⟨a, b⟩, c => ⟨a, ChsAt.snoc b c⟩
  | [], _ :: _, _, _, h, _ => h.elim
  | _ :: _, [], _, _, h, _ => h.elim
/-- a deed that stands, with its changes -/
def DdAt (K : PySem.W.Frag) (H : Hp) (v : V) (d : Dd) : Prop := Nl d.1 ∧ d.2.length < 9000 ∧ ∃ (dv cv : V) (cs : List V), TupV K H v [dv, cv] ∧ Dp K H dv d.1 ∧ TupV K H cv cs ∧ ChsAt K H cs d.2
theorem DdAt.ts {K : PySem.W.Frag} {H H' : Hp} {v : V} {d : Dd} (c : DdAt K H v d) (t : TupS H H') : DdAt K H' v d := let ⟨n, n2, dv, cv, cs, a, b, x, y⟩ := c; ⟨n, n2, dv, cv, cs, a.ts t, Dp.tk t.rd n b, x.ts t, y.ts t⟩
def DdsAt (K : PySem.W.Frag) (H : Hp) : List V → List Dd → Prop
  | [], [] => True
  | v :: vs, h :: hs => DdAt K H v h ∧ DdsAt K H vs hs
  | _, _ => False
theorem DdsAt.ts {K : PySem.W.Frag} {H H' : Hp} (t : TupS H H') : ∀ {vs : List V} {hs : List Dd}, DdsAt K H vs hs → DdsAt K H' vs hs
  | [], [], _ => trivial
  | _ :: _, _ :: _, ⟨a, b⟩ => ⟨a.ts t, DdsAt.ts t b⟩
  | [], _ :: _, h => h.elim
  | _ :: _, [], h => h.elim
theorem DdsAt.len {K : PySem.W.Frag} {H : Hp} : ∀ {vs : List V} {hs : List Dd}, DdsAt K H vs hs → vs.length = hs.length
  | [], [], _ => rfl
  | _ :: _, _ :: _, ⟨_, b⟩ => congrArg (· + 1) (DdsAt.len b)
  | [], _ :: _, h => h.elim
  | _ :: _, [], h => h.elim
theorem DdsAt.at_ {K : PySem.W.Frag} {H : Hp} : ∀ {vs : List V} {hs : List Dd}, DdsAt K H vs hs → ∀ {i : Nat} {v : V} {h : Dd}, vs[i]? = some v → hs[i]? = some h → DdAt K H v h
  | [], [], _, _, _, _, e, _ => by simp at e
  | _ :: _, _ :: _, ⟨a, b⟩, 0, _, _, e, f => by cases Option.some.inj e; cases Option.some.inj f; exact a
  | _ :: _, _ :: _, ⟨a, b⟩, i + 1, _, _, e, f => DdsAt.at_ b (i := i) e f
  | [], _ :: _, h, _, _, _, _, _ => h.elim
  | _ :: _, [], h, _, _, _, _, _ => h.elim
theorem DdsAt.snoc {K : PySem.W.Frag} {H : Hp} : ∀ {vs : List V} {hs : List Dd} {v : V} {h : Dd}, DdsAt K H vs hs → DdAt K H v h → DdsAt K H (vs ++ [v]) (hs ++ [h])
  | [], [], _, _, _, c => ⟨c, trivial⟩
  | _ :: _, _ :: _, _, _, ⟨a, b⟩, c => ⟨a, DdsAt.snoc b c⟩
  | [], _ :: _, _, _, h, _ => h.elim
  | _ :: _, [], _, _, h, _ => h.elim
theorem DdsAt.init {K : PySem.W.Frag} {H : Hp} : ∀ {vs : List V} {hs : List Dd} {v : V} {h : Dd}, DdsAt K H (vs ++ [v]) (hs ++ [h]) → DdsAt K H vs hs ∧ DdAt K H v h
  | [], [], _, _, c => ⟨trivial, c.1⟩
  | x :: vs, y :: hs, _, _, ⟨a, b⟩ => let ⟨p, q⟩ := DdsAt.init b; ⟨⟨a, p⟩, q⟩
  | [], [y], _, _, h => h.2.elim
  | [], _ :: _ :: _, _, _, h => h.2.elim
  | [x], [], _, _, h => h.2.elim
  | _ :: _ :: _, [], _, _, h => h.2.elim
structure LineAt (P : Program) (w : World) (K : PySem.W.Frag) (H : Hp) (L : Addr) (a : LA) (c : LC) : Prop where
  ob : ∃ dx, H L = some (.ins (He.ga K "Line") dx (fldL a.s a.p a.f))
  st : StateAt P w K H a c
  past : ∃ vs, H a.p = some (.lst vs) ∧ DdsAt K H vs c.past
  fut : ∃ vs, H a.f = some (.lst vs) ∧ DdsAt K H vs c.fut
  ap : ∀ k ∈ keysOf c.n, a.ad k ≠ a.p ∧ a.ad k ≠ a.f
  pf : a.p ≠ a.f
/-- what a deed may change -/
def footL (L : Addr) (a : LA) (n : Nat) : List Addr := [L, a.p, a.f] ++ adsS a n
theorem LineAt.kp {P : Program} {w : World} {K : PySem.W.Frag} {H H' : Hp} {L : Addr} {a : LA} {c : LC} (l : LineAt P w K H L a c) (k : Kp H H') : LineAt P w K H' L a c :=
  ⟨let ⟨dx, h⟩ := l.ob; ⟨dx, k.same _ _ rfl h⟩, l.st.kp k, let ⟨vs, h, d⟩ := l.past; ⟨vs, k.same _ _ rfl h, d.ts k.ts⟩, let ⟨vs, h, d⟩ := l.fut; ⟨vs, k.same _ _ rfl h, d.ts k.ts⟩, l.ap, l.pf⟩
theorem LineAt.loose {P : Program} {w : World} {K : PySem.W.Frag} {H : Hp} {L : Addr} {a : LA} {c : LC} (l : LineAt P w K H L a c) : ∀ b ∈ footL L a c.n, ∀ u, H b = some u → Loose u := fun b hb u e => by
  rcases List.mem_append.mp hb with hb | hb
  · simp only [List.mem_cons, List.not_mem_nil, or_false] at hb
    rcases hb with rfl | rfl | rfl
    · obtain ⟨dx, h⟩ := l.ob
      rw [h] at e; cases e; trivial
    · obtain ⟨vs, h, _⟩ := l.past
      rw [h] at e; cases e; trivial
    · obtain ⟨vs, h, _⟩ := l.fut
      rw [h] at e; cases e; trivial
  · exact l.st.loose b hb u e
theorem LineAt.alloc {P : Program} {w : World} {K : PySem.W.Frag} {H : Hp} {L : Addr} {a : LA} {c : LC} (l : LineAt P w K H L a c) : ∀ b ∈ footL L a c.n, H b ≠ none := fun b hb z => by
  rcases List.mem_append.mp hb with hb | hb
  · simp only [List.mem_cons, List.not_mem_nil, or_false] at hb
    rcases hb with rfl | rfl | rfl
    · obtain ⟨dx, h⟩ := l.ob
      rw [h] at z; cases z
    · obtain ⟨vs, h, _⟩ := l.past
      rw [h] at z; cases z
    · obtain ⟨vs, h, _⟩ := l.fut
      rw [h] at z; cases z
  · rcases List.mem_cons.mp hb with rfl | hb
    · obtain ⟨kvs, h⟩ := l.st.book.pl
      rw [h] at z; cases z
    rcases List.mem_cons.mp hb with rfl | hb
    · obtain ⟨kvs, h⟩ := l.st.book.wd
      rw [h] at z; cases z
    obtain ⟨y, hy, rfl⟩ := List.mem_map.mp hb
    obtain ⟨vs, h, _⟩ := l.st.cont.at_ y hy
    rw [h] at z
    cases z
theorem LineAt.neS {P : Program} {w : World} {K : PySem.W.Frag} {H : Hp} {L : Addr} {a : LA} {c : LC} (l : LineAt P w K H L a c) : a.s ≠ L ∧ a.B ≠ L := by
  obtain ⟨dx, h⟩ := l.ob
  refine ⟨fun z => ?_, fun z => ?_⟩
  · obtain ⟨dy, h2⟩ := l.st.ob
    rw [z, h] at h2
    have := congrArg (fun o => match o with | some (HO.ins _ _ fs) => fs.length | _ => 0) h2
    cases this
  · obtain ⟨dy, h2⟩ := l.st.book.ob
    rw [z, h] at h2
    have := congrArg (fun o => match o with | some (HO.ins _ _ fs) => fs.length | _ => 0) h2
    cases this
/-- an object that is not in the foot of a line may change -/
theorem LineAt.kpE {P : Program} {w : World} {K : PySem.W.Frag} {S : List Addr} {H H' : Hp} {L : Addr} {a : LA} {c : LC} (l : LineAt P w K H L a c) (e : KpE S H H') (lo : ∀ b ∈ S, ∀ u, H b = some u → Loose u) (h0 : ∀ b ∈ footL L a c.n, b ∉ S) (h1 : a.s ∉ S) (h2 : a.R ∉ S) (h3 : a.B ∉ S) : LineAt P w K H' L a c := by
  have i1 : ∀ b ∈ ([L, a.p, a.f] : List Addr), b ∉ S := fun b hb => h0 b (List.mem_append.mpr (.inl hb))
  have i2 : ∀ b ∈ adsS a c.n, b ∉ S := fun b hb => h0 b (List.mem_append.mpr (.inr hb))
  have ts := TupS.kpE e lo
  refine ⟨?_, l.st.kpE e lo h1 h2 (fun k hk => i2 _ (List.mem_cons_of_mem _ (List.mem_cons_of_mem _ (List.mem_map.mpr ⟨k, hk, rfl⟩)))) h3 (i2 _ List.mem_cons_self) (i2 _ (List.mem_cons_of_mem _ List.mem_cons_self)), ?_, ?_, l.ap, l.pf⟩
  · obtain ⟨dx, h⟩ := l.ob
    exact ⟨dx, e.same _ _ rfl (i1 _ (by simp)) h⟩
  · obtain ⟨vs, h, d⟩ := l.past
    exact ⟨vs, e.same _ _ rfl (i1 _ (by simp)) h, d.ts ts⟩
  · obtain ⟨vs, h, d⟩ := l.fut
    exact ⟨vs, e.same _ _ rfl (i1 _ (by simp)) h, d.ts ts⟩
/-! ### new rows -/
def sp_p_queue_of : Sp := fun vs H Q _ => ∃ (x : Str), vs = [.str x] ∧ ∀ (r : Addr) (H' : Hp), H r = none → Kp H H' → H' r = some (.tup [.str "queue", .str x]) → Q (.ref r) H'
theorem ok_p_queue_of (T : Txt K mg) : FnOk P w K mg base CX0 1 T.f_p_queue_of T.d_p_queue_of ["way"] sp_p_queue_of := by
  refine T.F_p_queue_of.ok sc_p_queue_of (fun vs H Q E h => ?_) (fun cdv A outer s H vs Q E hr h => ?_)
  · obtain ⟨x, rfl, _⟩ := h
    rfl
  · obtain ⟨x, rfl, k⟩ := h
    exact ⟨_, (pss_one (ps_ret (pe_tup (pa_cons pe_str (pa_cons (pv 0) pa_nil))))), _, rfl, szl (by show 2 ≤ 100000; decide), fun r nr => k r _ nr (.new nr) upd_same⟩
def sp_p_book_of : Sp := fun vs H Q _ => ∃ (x : Str) (m : Int), vs = [.str x, .int m] ∧ ∀ (r : Addr) (H' : Hp), H r = none → Kp H H' → H' r = some (.tup [.str "book", .str x, .int m]) → Q (.ref r) H'
theorem ok_p_book_of (T : Txt K mg) : FnOk P w K mg base CX0 1 T.f_p_book_of T.d_p_book_of ["way", "mast"] sp_p_book_of := by
  refine T.F_p_book_of.ok sc_p_book_of (fun vs H Q E h => ?_) (fun cdv A outer s H vs Q E hr h => ?_)
  · obtain ⟨x, m, rfl, _⟩ := h
    rfl
  · obtain ⟨x, m, rfl, k⟩ := h
    exact ⟨_, (pss_one (ps_ret (pe_tup (pa_cons pe_str (pa_cons (pv 0) (pa_cons (pv 1) pa_nil)))))), _, rfl, _, rfl, szl (by show 3 ≤ 100000; decide), fun r nr => k r _ nr (.new nr) upd_same⟩
/-- what new rows hold -/
def newRow (n : Nat) : RK → List PyData
  | .way => [.str "up"]
  | .arms => List.replicate n (.int 0)
  | .sleep => List.replicate n (.bool false)
  | .fog => List.replicate (n - 1) (.bool false)
  | _ => []
theorem dp_rep {K : PySem.W.Frag} {H : Hp} {v : V} {d : PyData} (h : Dp K H v d) : ∀ n : Nat, DpAll K H (List.replicate n v) (List.replicate n d)
  | 0 => .nil
  | n + 1 => .cons h (dp_rep h n)
theorem rep_one {v : V} (n : Nat) : (List.replicate n [v]).flatten = List.replicate n v := by
  induction n with
  | zero => rfl
  | succ n ih => rw [List.replicate_succ, List.flatten_cons, ih]; rfl
def laid (n : Nat) : Nat → List RK
  | 0 => baseKeys
  | 1 => baseKeys ++ wayKeys n true
  | _ => keysOf n
theorem laid_q {n : Nat} {u : Bool} {j : Nat} {ks : List RK} (h : ∀ k ∈ ks, k ∈ baseKeys ∨ ∃ v, v ≠ u ∧ k ∈ wayKeys n v) : RK.q u ∉ ks ∧ RK.b u j ∉ ks := by
  constructor
  · intro m
    rcases h _ m with h | ⟨v, hv, h⟩
    · simp [baseKeys] at h
    · unfold wayKeys at h
      rcases List.mem_cons.mp h with h | h
      · injection h with h
        exact hv h.symm
      · obtain ⟨_, _, e⟩ := List.mem_map.mp h
        cases e
  · intro m
    rcases h _ m with h | ⟨v, hv, h⟩
    · simp [baseKeys] at h
    · unfold wayKeys at h
      rcases List.mem_cons.mp h with h | h
      · cases h
      · obtain ⟨_, _, e⟩ := List.mem_map.mp h
        injection e with e _
        exact hv e
theorem MixAt.loose {P : Program} {w : World} {H : Hp} {a : Addr} {kvs : List (MK × V × V)} (m : MixAt P w H a kvs) : ∃ u, H a = some u ∧ Loose u ∧ ∀ xs, u ≠ .lst xs := by
  rcases m with h | ⟨k0, h, _⟩
  · exact ⟨_, h, trivial, fun xs z => by cases z⟩
  · exact ⟨_, h, trivial, fun xs z => by cases z⟩
/-- one more empty row: what is asked of the store, what holds behind it -/
theorem rows_more {P : Program} {w : World} {K : PySem.W.Frag} {H0 A : Hp} {R : Addr} {ks : List RK} {ad : RK → Addr} {row : RK → List PyData} {k : RK} {y : V} {l tw : Addr} {tv : List V} (rI : RowsI P w A R ks ad) (cA : ContAt K A ks ad row) (fr : ∀ x ∈ ks, H0 (ad x) = none) (kp : Kp H0 A) (hR : H0 R = none) (hl0 : H0 l = none)
    (hk : k ∉ ks) (hy : KeyM A k.mk y) (hl : A l = some (.lst [])) (ne : ∀ x ∈ ks, ad x ≠ l) (hr : row k = []) (htw : A tw = some (.tup tv)) :
    ∃ kvs, MixAt P w A R kvs ∧ KeysM A kvs ∧ (∀ p ∈ kvs, p.1 ≠ k.mk) ∧ kvs.length = ks.length ∧ ∀ A', upd A R (MixO P w R (kvs ++ [(k.mk, y, V.ref l)])) = A' → RowsI P w A' R (ks ++ [k]) (setA ad k l) ∧ ContAt K A' (ks ++ [k]) (setA ad k l) row ∧ (∀ x ∈ ks ++ [k], H0 (setA ad k l x) = none) ∧ Kp H0 A' ∧ A' tw = some (.tup tv) := by
  obtain ⟨kvs, m1, m2, m3, m4, rI3⟩ := rI.put hk hy ne
  refine ⟨kvs, m1, m2, m3, m4, fun A' e => ?_⟩
  subst e
  obtain ⟨u, hu, lo, nl⟩ := m1.loose
  have c2 := cA.snoc hk hl hr
  refine ⟨rI3, c2.put hu lo fun x hx z => ?_, fun x hx => ?_, kp.mut hR, ?_⟩
  · obtain ⟨vs, h1, _⟩ := c2.at_ x hx
    rw [z, hu] at h1
    exact nl _ (Option.some.inj h1)
  · unfold setA
    rcases List.mem_append.mp hx with hx | hx
    · rw [if_neg (fun z : x = k => hk (z ▸ hx))]
      exact fr x hx
    · rw [if_pos (List.mem_singleton.mp hx)]
      exact hl0
  · rw [upd_ne (fun z => by rw [z, hu] at htw; cases htw; exact lo)]
    exact htw
def sp_p_new_rows (P : Program) (w : World) (K : PySem.W.Frag) : Sp := fun vs H Q _ => ∃ n : Nat, vs = [.int (n : Int)] ∧ 1 ≤ n ∧ n ≤ 12 ∧ ∀ (R : Addr) (ad : RK → Addr) (H' : Hp), H R = none → (∀ k ∈ keysOf n, H (ad k) = none) → Kp H H' → RowsAt P w H' R (keysOf n) ad → ContAt K H' (keysOf n) ad (newRow n) → Q (.ref R) H'
theorem ok_p_new_rows (T : Txt K mg) : FnOk P w K mg base CX0 2 T.f_p_new_rows T.d_p_new_rows ["masts"] (sp_p_new_rows P w K) := by
  refine T.F_p_new_rows.ok sc_p_new_rows (fun vs H Q E h => ?_) (fun cdv A outer s H vs Q E hr h => ?_)
  · obtain ⟨n, rfl, _⟩ := h
    rfl
  · obtain ⟨n, rfl, hn1, hn2, k⟩ := h
    have hu := hu_of hr
    refine ⟨_, (pss_cons (ps_set (i := 1) sc_p_new_rows.nd rfl (by first | exact Or.inl rfl | exact Or.inr rfl) (pe_disp (pps_cons (pe_glob rfl T.c_WAY T.r_WAY) (pe_lst (pa_cons (pe_glob rfl T.c_UP T.r_UP) pa_nil)) (pps_cons (pe_glob rfl T.c_ARMS T.r_ARMS) (pe_op op_rep (pe_lst (pa_cons (pe_glob rfl T.c_REST T.r_REST) pa_nil)) (pv 0)) (pps_cons (pe_glob rfl T.c_SLEEP T.r_SLEEP) (pe_op op_rep (pe_lst (pa_cons pe_bl pa_nil)) (pv 0)) (pps_cons (pe_glob rfl T.c_FOG T.r_FOG) (pe_op op_rep (pe_lst (pa_cons pe_bl pa_nil)) (pe_op op_sub (pv 0) pe_int)) pps_nil)))) rfl rfl (by intro z; cases z) (by decide)))
      (pss_cons (ps_for PassesOwn.never rfl (pi_tup (pe_tup (pa_cons (pe_glob rfl T.c_UP T.r_UP) (pa_cons (pe_glob rfl T.c_DOWN T.r_DOWN) pa_nil)))) (pg_name (i := 2) sc_p_new_rows.nd rfl (by first | exact Or.inl rfl | exact Or.inr rfl))
      (pss_cons (ps_mputK P w rfl rfl hu (pv 1) (pe_call (ok_p_queue_of T) (hr.mono (by decide)) rfl T.g_p_queue_of T.F_p_queue_of.kp T.b_p_queue_of .nil pass0 (pa_cons (pv 2) pa_nil)) (pe_lst pa_nil) rfl)
      (pss_one (ps_for PassesOwn.never rfl (pi_range1 (by rfl) T.m_range (pa_cons (pv 0) pa_nil)) (pg_name (i := 3) sc_p_new_rows.nd rfl (by first | exact Or.inl rfl | exact Or.inr rfl))
      (pss_one (ps_mputK P w rfl rfl hu (pv 1) (pe_call (ok_p_book_of T) (hr.mono (by decide)) rfl T.g_p_book_of T.F_p_book_of.kp T.b_p_book_of .nil pass0 (pa_cons (pv 2) (pa_cons (pv 3) pa_nil))) (pe_lst pa_nil) rfl))))))
      (pss_one (ps_ret (pv 1))))), ?_⟩
    intro R nR
    generalize h_G0 : upd H R _ = G0
    have k_G0 : Kp H G0 := by rw [← h_G0]; exact .new nR
    have q_G0 := (congrFun h_G0 R).symm.trans upd_same
    clear h_G0
    refine ⟨szl (by show 1 ≤ 100000; decide), fun l1 n1 => ?_⟩
    generalize h_G1 : upd G0 l1 _ = G1
    have k_G1 : Kp G0 G1 := by rw [← h_G1]; exact .new n1
    have q_G1 := (congrFun h_G1 l1).symm.trans upd_same
    clear h_G1
    refine ⟨szl (by show 1 ≤ 100000; decide), fun l2a n2a => ?_⟩
    generalize h_G2a : upd G1 l2a _ = G2a
    have k_G2a : Kp G1 G2a := by rw [← h_G2a]; exact .new n2a
    have q_G2a := (congrFun h_G2a l2a).symm.trans upd_same
    clear h_G2a
    refine ⟨_, rfl, l2a, _, _, rfl, rfl, q_G2a, by omega, by omega, szl (by show 1 * ((n : Int)).toNat ≤ 100000; omega), fun l2 n2 => ?_⟩
    generalize h_G2 : upd G2a l2 _ = G2
    have k_G2 : Kp G2a G2 := by rw [← h_G2]; exact .new n2
    have q_G2 := (congrFun h_G2 l2).symm.trans upd_same
    clear h_G2
    refine ⟨szl (by show 1 ≤ 100000; decide), fun l3a n3a => ?_⟩
    generalize h_G3a : upd G2 l3a _ = G3a
    have k_G3a : Kp G2 G3a := by rw [← h_G3a]; exact .new n3a
    have q_G3a := (congrFun h_G3a l3a).symm.trans upd_same
    clear h_G3a
    refine ⟨_, rfl, l3a, _, _, rfl, rfl, q_G3a, by omega, by omega, szl (by show 1 * ((n : Int)).toNat ≤ 100000; omega), fun l3 n3 => ?_⟩
    generalize h_G3 : upd G3a l3 _ = G3
    have k_G3 : Kp G3a G3 := by rw [← h_G3]; exact .new n3
    have q_G3 := (congrFun h_G3 l3).symm.trans upd_same
    clear h_G3
    refine ⟨szl (by show 1 ≤ 100000; decide), fun l4a n4a => ?_⟩
    generalize h_G4a : upd G3 l4a _ = G4a
    have k_G4a : Kp G3 G4a := by rw [← h_G4a]; exact .new n4a
    have q_G4a := (congrFun h_G4a l4a).symm.trans upd_same
    clear h_G4a
    refine ⟨_, rfl, _, _, rfl, rfl, l4a, _, _, rfl, rfl, q_G4a, by omega, by omega, szl (by show 1 * ((n : Int) - 1).toNat ≤ 100000; omega), fun l4 n4 => ?_⟩
    generalize h_G4 : upd G4a l4 _ = G4
    have k_G4 : Kp G4a G4 := by rw [← h_G4]; exact .new n4
    have q_G4 := (congrFun h_G4 l4).symm.trans upd_same
    clear h_G4
    have kR : Kp G0 G4 := ((((((k_G1.trans k_G2a).trans k_G2).trans k_G3a).trans k_G3).trans k_G4a).trans k_G4)
    have hR4 := kR.same _ _ rfl q_G0
    refine ⟨hR4, [(Sum.inr "way", .ref l1), (Sum.inr "arms", .ref l2), (Sum.inr "sleep", .ref l3), (Sum.inr "fog", .ref l4)], rfl, (by show 4 ≤ 15; decide), ?_⟩
    have em : mergeK [] [((Sum.inr "way" : Key), V.ref l1), (Sum.inr "arms", .ref l2), (Sum.inr "sleep", .ref l3), (Sum.inr "fog", .ref l4)] = ([(Sum.inr "way", V.ref l1), (Sum.inr "arms", V.ref l2), (Sum.inr "sleep", V.ref l3), (Sum.inr "fog", V.ref l4)] : List (Key × V)) := by rfl
    rw [em]
    have h1 : G4 l1 = some (.lst [.str "up"]) := k_G4.same _ _ rfl (k_G4a.same _ _ rfl (k_G3.same _ _ rfl (k_G3a.same _ _ rfl (k_G2.same _ _ rfl (k_G2a.same _ _ rfl q_G1)))))
    have h2 : G4 l2 = some (.lst (List.replicate n (.int 0))) := by
      have z := k_G4.same _ _ rfl (k_G4a.same _ _ rfl (k_G3.same _ _ rfl (k_G3a.same _ _ rfl q_G2)))
      rw [rep_one, Int.toNat_natCast] at z
      exact z
    have h3 : G4 l3 = some (.lst (List.replicate n (.bl false))) := by
      have z := k_G4.same _ _ rfl (k_G4a.same _ _ rfl q_G3)
      rw [rep_one, Int.toNat_natCast] at z
      exact z
    have h4 : G4 l4 = some (.lst (List.replicate (n - 1) (.bl false))) := by
      have z := q_G4
      rw [rep_one, show ((n : Int) - 1).toNat = n - 1 by omega] at z
      exact z
    have e1 : l1 ≠ R := fun z => by rw [z, q_G0] at n1; cases n1
    have e2 : l2 ≠ R := fun z => by rw [z, (k_G1.trans k_G2a).same _ _ rfl q_G0] at n2; cases n2
    have e3 : l3 ≠ R := fun z => by rw [z, (((k_G1.trans k_G2a).trans k_G2).trans k_G3a).same _ _ rfl q_G0] at n3; cases n3
    have e4 : l4 ≠ R := fun z => by rw [z, (((((k_G1.trans k_G2a).trans k_G2).trans k_G3a).trans k_G3).trans k_G4a).same _ _ rfl q_G0] at n4; cases n4
    have m12 : l1 ≠ l2 := fun z => by rw [← z, k_G2a.same _ _ rfl q_G1] at n2; cases n2
    have m13 : l1 ≠ l3 := fun z => by rw [← z, ((k_G2a.trans k_G2).trans k_G3a).same _ _ rfl q_G1] at n3; cases n3
    have m14 : l1 ≠ l4 := fun z => by rw [← z, ((((k_G2a.trans k_G2).trans k_G3a).trans k_G3).trans k_G4a).same _ _ rfl q_G1] at n4; cases n4
    have m23 : l2 ≠ l3 := fun z => by rw [← z, k_G3a.same _ _ rfl q_G2] at n3; cases n3
    have m24 : l2 ≠ l4 := fun z => by rw [← z, ((k_G3a.trans k_G3).trans k_G4a).same _ _ rfl q_G2] at n4; cases n4
    have m34 : l3 ≠ l4 := fun z => by rw [← z, k_G4a.same _ _ rfl q_G3] at n4; cases n4
    have f1 : H l1 = none := k_G0.free _ n1
    have f2 : H l2 = none := k_G0.free _ ((k_G1.trans k_G2a).free _ n2)
    have f3 : H l3 = none := k_G0.free _ ((((k_G1.trans k_G2a).trans k_G2).trans k_G3a).free _ n3)
    have f4 : H l4 = none := k_G0.free _ ((((((k_G1.trans k_G2a).trans k_G2).trans k_G3a).trans k_G3).trans k_G4a).free _ n4)
    have kH5 : Kp H (upd G4 R (.dK [(Sum.inr "way", .ref l1), (Sum.inr "arms", .ref l2), (Sum.inr "sleep", .ref l3), (Sum.inr "fog", .ref l4)])) := (k_G0.trans kR).mut nR
    have r5 : upd G4 R (.dK [(Sum.inr "way", .ref l1), (Sum.inr "arms", .ref l2), (Sum.inr "sleep", .ref l3), (Sum.inr "fog", .ref l4)]) R = some (.dK [(Sum.inr "way", .ref l1), (Sum.inr "arms", .ref l2), (Sum.inr "sleep", .ref l3), (Sum.inr "fog", .ref l4)]) := upd_same
    have h1' : upd G4 R (.dK [(Sum.inr "way", .ref l1), (Sum.inr "arms", .ref l2), (Sum.inr "sleep", .ref l3), (Sum.inr "fog", .ref l4)]) l1 = some (.lst [.str "up"]) := by rw [upd_ne e1]; exact h1
    have h2' : upd G4 R (.dK [(Sum.inr "way", .ref l1), (Sum.inr "arms", .ref l2), (Sum.inr "sleep", .ref l3), (Sum.inr "fog", .ref l4)]) l2 = some (.lst (List.replicate n (.int 0))) := by rw [upd_ne e2]; exact h2
    have h3' : upd G4 R (.dK [(Sum.inr "way", .ref l1), (Sum.inr "arms", .ref l2), (Sum.inr "sleep", .ref l3), (Sum.inr "fog", .ref l4)]) l3 = some (.lst (List.replicate n (.bl false))) := by rw [upd_ne e3]; exact h3
    have h4' : upd G4 R (.dK [(Sum.inr "way", .ref l1), (Sum.inr "arms", .ref l2), (Sum.inr "sleep", .ref l3), (Sum.inr "fog", .ref l4)]) l4 = some (.lst (List.replicate (n - 1) (.bl false))) := by rw [upd_ne e4]; exact h4
    generalize upd G4 R (.dK [(Sum.inr "way", .ref l1), (Sum.inr "arms", .ref l2), (Sum.inr "sleep", .ref l3), (Sum.inr "fog", .ref l4)]) = G5 at kH5 r5 h1' h2' h3' h4' ⊢
    let ad0 : RK → Addr := fun k => match k with
      | .way => l1
      | .arms => l2
      | .sleep => l3
      | _ => l4
    have I0 : RowsI P w G5 R baseKeys ad0 := by
      refine ⟨⟨fun k => match k with | .way => .str "way" | .arms => .str "arms" | .sleep => .str "sleep" | _ => .str "fog", .inr ⟨[("way", .ref l1), ("arms", .ref l2), ("sleep", .ref l3), ("fog", .ref l4)], r5, rfl⟩, fun k hk => ?_⟩, fun k hk k' hk' e => ?_⟩
      · simp only [baseKeys, List.mem_cons, List.not_mem_nil, or_false] at hk
        rcases hk with rfl | rfl | rfl | rfl <;> rfl
      · simp only [baseKeys, List.mem_cons, List.not_mem_nil, or_false] at hk hk'
        rcases hk with rfl | rfl | rfl | rfl <;> rcases hk' with rfl | rfl | rfl | rfl <;> first | rfl | exact absurd e (by assumption) | exact absurd e.symm (by assumption)
    have C0 : ContAt K G5 baseKeys ad0 (newRow n) := by
      refine ⟨fun k hk => ?_, fun k hk d hd => ?_⟩
      · simp only [baseKeys, List.mem_cons, List.not_mem_nil, or_false] at hk
        rcases hk with rfl | rfl | rfl | rfl
        · exact ⟨_, h1', .cons (.str _) .nil⟩
        · exact ⟨_, h2', dp_rep (.int 0) n⟩
        · exact ⟨_, h3', dp_rep (.bl false) n⟩
        · exact ⟨_, h4', dp_rep (.bl false) (n - 1)⟩
      · simp only [baseKeys, List.mem_cons, List.not_mem_nil, or_false] at hk
        rcases hk with rfl | rfl | rfl | rfl
        · rw [List.mem_singleton.mp hd]; exact .str _
        · rw [List.eq_of_mem_replicate hd]; exact .int _
        · rw [List.eq_of_mem_replicate hd]; exact .bl _
        · rw [List.eq_of_mem_replicate hd]; exact .bl _
    have F0 : ∀ k ∈ baseKeys, H (ad0 k) = none := fun k hk => by
      simp only [baseKeys, List.mem_cons, List.not_mem_nil, or_false] at hk
      rcases hk with rfl | rfl | rfl | rfl
      · exact f1
      · exact f2
      · exact f3
      · exact f4
    clear_value ad0
    refine ⟨szl (by show 2 ≤ 100000; decide), fun tw ntw => ?_⟩
    generalize h_G6 : upd G5 tw _ = G6
    have k_G6 : Kp G5 G6 := by rw [← h_G6]; exact .new ntw
    have q_G6 := (congrFun h_G6 tw).symm.trans upd_same
    clear h_G6
    have k6 : Kp H G6 := kH5.trans k_G6
    refine ⟨tw, rfl, ⟨_, .inl (.inl q_G6)⟩, for_tup (K := K) (a := tw) (xs := [.str "up", .str "down"]) (fun i σ H' => ∃ (ad : RK → Addr) (y2 y3 : Option V), σ = [some (.int (n : Int)), some (.ref R), y2, y3] ∧ Kp H H' ∧ H' tw = some (.tup [.str "up", .str "down"]) ∧ RowsI P w H' R (laid n i) ad ∧ ContAt K H' (laid n i) ad (newRow n) ∧ ∀ k ∈ laid n i, H (ad k) = none)
      ⟨ad0, none, none, rfl, k6, q_G6, I0.kp k_G6, C0.kp k_G6, F0⟩ (fun i σ H' _ ⟨_, _, _, _, _, h, _⟩ => .inl (.inl h)) ?_ ?_⟩
    · have step : ∀ (ks : List RK) (u : Bool), ks.length ≤ 100 → (∀ k ∈ ks, k ∈ baseKeys ∨ ∃ v, v ≠ u ∧ k ∈ wayKeys n v) → True := fun _ _ _ _ => trivial
      clear step
      rintro i x σ H' hi ⟨ad, y2, y3, rfl, kp, htw, rI, cA, fr⟩
      obtain ⟨u, rfl, eL, hks, hlen⟩ : ∃ u, x = .str (wayN u) ∧ laid n (i + 1) = laid n i ++ wayKeys n u ∧ (∀ k ∈ laid n i, k ∈ baseKeys ∨ ∃ v, v ≠ u ∧ k ∈ wayKeys n v) ∧ (laid n i).length ≤ 100 := by
        rcases i with _ | _ | i
        · refine ⟨true, ?_, rfl, fun k hk => .inl hk, (by show 4 ≤ 100; decide)⟩
          have z := Option.some.inj hi
          rw [← z]
          rfl
        · refine ⟨false, ?_, ?_, fun k hk => ?_, ?_⟩
          · have z := Option.some.inj hi
            rw [← z]
            rfl
          · show keysOf n = (baseKeys ++ wayKeys n true) ++ wayKeys n false
            unfold keysOf
            rw [List.append_assoc]
          · rcases List.mem_append.mp hk with hk | hk
            · exact .inl hk
            · exact .inr ⟨true, by decide, hk⟩
          · show (baseKeys ++ wayKeys n true).length ≤ 100
            unfold wayKeys baseKeys
            simp
            omega
        · exfalso
          simp at hi
      rw [eL]
      refine ⟨Nat.zero_le _, fun l nl => ?_⟩
      generalize h_A1 : upd H' l _ = A1
      have k_A1 : Kp H' A1 := by rw [← h_A1]; exact .new nl
      have q_A1 := (congrFun h_A1 l).symm.trans upd_same
      clear h_A1
      refine ⟨_, rfl, _, rfl, wayN u, rfl, fun rq A2 nrq kA2 qA2 => ?_⟩
      have kp2 : Kp H A2 := (kp.trans k_A1).trans kA2
      have kA : Kp H' A2 := k_A1.trans kA2
      have rI2 := rI.kp kA
      have cA2 := cA.kp kA
      have hl2 := kA2.same _ _ rfl q_A1
      have adne : ∀ k ∈ laid n i, ad k ≠ l := fun k hk z => by
        obtain ⟨vs, h1, _⟩ := cA.at_ k hk
        rw [z, nl] at h1
        cases h1
      have fl : H l = none := kp.free _ nl
      obtain ⟨kvs, m1, m2, m3, m4, fin⟩ := rows_more (k := .q u) (y := .ref rq) rI2 cA2 fr kp2 nR fl (laid_q (j := 0) hks).1 ⟨rq, rfl, qA2⟩ hl2 adne rfl (kA.same _ _ rfl htw)
      refine ⟨R, kvs, (RK.q u).mk, rfl, m1, m2, ⟨rq, rfl, qA2⟩, m3, szt (by omega), ?_⟩
      generalize hA3 : upd A2 R (MixO P w R (kvs ++ [((RK.q u).mk, V.ref rq, V.ref l)])) = A3
      obtain ⟨rI3, cA3, fr3, kp3, tw3⟩ := fin A3 hA3
      refine ⟨_, rfl, (n : Int), rfl, by omega, by omega, ?_⟩
      refine for_range (lo := 0) (n := ((n : Int)).toNat) (fun j σ G => ∃ (ad : RK → Addr) (y3 : Option V), σ = [some (.int (n : Int)), some (.ref R), some (.str (wayN u)), y3] ∧ Kp H G ∧ G tw = some (.tup [.str "up", .str "down"]) ∧ RowsI P w G R ((laid n i ++ [.q u]) ++ (List.range j).map (.b u)) ad ∧ ContAt K G ((laid n i ++ [.q u]) ++ (List.range j).map (.b u)) ad (newRow n) ∧ ∀ k ∈ (laid n i ++ [.q u]) ++ (List.range j).map (.b u), H (ad k) = none)
        ⟨setA ad (.q u) l, _, rfl, kp3, tw3, by rw [List.range_zero, List.map_nil, List.append_nil]; exact rI3, by rw [List.range_zero, List.map_nil, List.append_nil]; exact cA3, by rw [List.range_zero, List.map_nil, List.append_nil]; exact fr3⟩ ?_ ?_
      · rintro j σ G hj ⟨ad', y3', rfl, kg, twg, rg, cg, fg⟩
        have hjn : j < n := hj
        refine ⟨Nat.zero_le _, fun l' nl' => ?_⟩
        generalize h_B1 : upd G l' _ = B1
        have k_B1 : Kp G B1 := by rw [← h_B1]; exact .new nl'
        have q_B1 := (congrFun h_B1 l').symm.trans upd_same
        clear h_B1
        refine ⟨_, rfl, _, rfl, _, rfl, wayN u, _, rfl, fun rb B2 nrb kB2 qB2 => ?_⟩
        have kB : Kp G B2 := k_B1.trans kB2
        have hjj : (0 : Int) + (j : Int) = (j : Int) := by omega
        rw [hjj] at qB2
        have notin : RK.b u j ∉ (laid n i ++ [.q u]) ++ (List.range j).map (.b u) := fun m => by
          rcases List.mem_append.mp m with m | m
          · rcases List.mem_append.mp m with m | m
            · exact (laid_q (j := j) hks).2 m
            · cases List.mem_singleton.mp m
          · obtain ⟨j', hj', e⟩ := List.mem_map.mp m
            injection e with _ e
            rw [e, List.mem_range] at hj'
            omega
        have adne' : ∀ k ∈ (laid n i ++ [.q u]) ++ (List.range j).map (.b u), ad' k ≠ l' := fun k hk z => by
          obtain ⟨vs, h1, _⟩ := cg.at_ k hk
          rw [z, nl'] at h1
          cases h1
        obtain ⟨kvs', m1', m2', m3', m4', fin'⟩ := rows_more (k := .b u j) (y := .ref rb) (rg.kp kB) (cg.kp kB) fg (kg.trans kB) nR (kg.free _ nl') notin ⟨rb, rfl, qB2⟩ (kB2.same _ _ rfl q_B1) adne' rfl (kB.same _ _ rfl twg)
        refine ⟨R, kvs', (RK.b u j).mk, rfl, m1', m2', ⟨rb, rfl, qB2⟩, m3', szt (by rw [m4', List.length_append, List.length_append, List.length_map, List.length_range, List.length_singleton]; omega), ?_⟩
        generalize hB3 : upd B2 R (MixO P w R (kvs' ++ [((RK.b u j).mk, V.ref rb, V.ref l')])) = B3
        obtain ⟨rI4, cA4, fr4, kp4, tw4⟩ := fin' B3 hB3
        have er : ((laid n i ++ [.q u]) ++ (List.range j).map (.b u)) ++ [RK.b u j] = (laid n i ++ [.q u]) ++ (List.range (j + 1)).map (.b u) := by
          rw [List.range_succ, List.map_append, List.append_assoc]
          rfl
        rw [er] at rI4 cA4 fr4
        exact ⟨_, _, rfl, kp4, tw4, rI4, cA4, fr4⟩
      · rintro σ G ⟨ad', y3', rfl, kg, twg, rg, cg, fg⟩
        have er : (laid n i ++ [.q u]) ++ (List.range ((n : Int)).toNat).map (.b u) = laid n i ++ wayKeys n u := by
          rw [List.append_assoc, Int.toNat_natCast]
          rfl
        rw [er] at rg cg fg
        exact ⟨ad', _, _, rfl, kg, twg, rg, cg, fg⟩
    · rintro σ H' ⟨ad, y2, y3, rfl, kp, htw, rI, cA, fr⟩
      have hq : RK.q true ∈ keysOf n := by
        unfold keysOf wayKeys
        simp
      exact ⟨_, rfl, k R ad H' nR fr kp (rI.fin hq) cA⟩
/-! ### a state, a line, made -/
def newC (n : Nat) : LC := ⟨n, newRow n, [], [], []⟩
theorem good_nil : GoodT [] := ⟨by simp, by simp, by simp⟩
def sp_p_State_init (P : Program) (w : World) (K : PySem.W.Frag) : Sp := fun vs H Q _ => ∃ (s dx : Addr) (n : Nat), vs = [.ref s, .int (n : Int)] ∧ H s = some (.ins (He.ga K "State") dx []) ∧ 1 ≤ n ∧ n ≤ 12 ∧
  ∀ (a : LA) (H' : Hp), a.s = s → (H a.d1 = none ∧ H a.d2 = none ∧ ∀ k ∈ keysOf n, H (a.ad k) = none) → KpE [s] H H' → StateAt P w K H' a (newC n) → Q .non H'
theorem ok_p_State_init (T : Txt K mg) : FnOk P w K mg base CX0 4 T.f_p_State_init T.d_p_State_init ["self", "masts"] (sp_p_State_init P w K) := by
  refine T.F_p_State_init.ok sc_p_State_init (fun vs H Q E h => ?_) (fun cdv A outer s H vs Q E hr h => ?_)
  · obtain ⟨s, dx, n, rfl, _⟩ := h
    rfl
  · obtain ⟨sa, dx, n, rfl, hs, hn1, hn2, k⟩ := h
    refine ⟨_, (pss_cons (ps_fld (pv 0) (pe_call (ok_p_new_rows T) (hr.mono (by decide)) rfl T.g_p_new_rows T.F_p_new_rows.kp T.b_p_new_rows .nil pass0 (pa_cons (pv 1) pa_nil)) rfl)
      (pss_one (ps_fld (pv 0) (pe_make0 T.K_Phrasebook (ok_p_Phrasebook_init T) (hr.mono (by decide)) rfl T.g_Phrasebook T.b_p_Phrasebook_init .nil pass0) rfl))), ?_⟩
    refine ⟨_, rfl, n, rfl, hn1, hn2, fun R ad H1 nR nad k1 rA cA => ?_⟩
    have hs1 := k1.same _ _ rfl hs
    refine ⟨_, rfl, sa, _, dx, _, rfl, hs1, T.cl_State, T.n_State_rows, (by show 0 < 1000; decide), ?_⟩
    generalize hH2 : upd H1 sa (.ins (He.ga K "State") dx (putF "rows" (.ref R) [])) = H2
    have hs2 : H2 sa = some (.ins (He.ga K "State") dx (putF "rows" (.ref R) [])) := by rw [← hH2]; exact upd_same
    have e12 : KpE [sa] H1 H2 := by rw [← hH2]; exact KpE.put hs1 rfl List.mem_cons_self
    intro x dx2 nx ndx ne
    refine ⟨x, dx2, rfl, upd_same, fun d1 d2 H3 f1 f2 B3 e3 => ⟨rfl, ?_⟩⟩
    have k3 : Kp H2 H3 := kp_made nx ndx ne e3
    have hs3 := k3.same _ _ rfl hs2
    refine ⟨_, rfl, sa, _, dx, _, rfl, hs3, T.cl_State, T.n_State_phrasebook, (by show 1 < 1000; decide), ?_⟩
    generalize hH4 : upd H3 sa (.ins (He.ga K "State") dx (putF "phrasebook" (.ref x) (putF "rows" (.ref R) []))) = H4
    have hs4 : H4 sa = some (.ins (He.ga K "State") dx (fldS R x)) := by rw [← hH4]; exact upd_same
    have e34 : KpE [sa] H3 H4 := by rw [← hH4]; exact KpE.put hs3 rfl List.mem_cons_self
    have k0 : Kp H2 (upd (upd H2 dx2 (.own x)) x (.ins (He.ga K "Phrasebook") dx2 [])) := (Kp.new ndx).trans (.new (by rw [upd_ne ne.symm]; exact nx))
    have rA3 : RowsAt P w H3 R (keysOf n) ad := (rA.kpE e12 (fun m => by
      obtain ⟨ky, h1, _⟩ := rA.ob
      rw [List.mem_singleton.mp m, hs1] at h1
      cases h1) (loose1 hs1 trivial)).kp k3
    have cA3 : ContAt K H3 (keysOf n) ad (newRow n) := (cA.kpE e12 (fun y hy m => by
      obtain ⟨vs, h1, _⟩ := cA.at_ y hy
      rw [List.mem_singleton.mp m, hs1] at h1
      cases h1) (loose1 hs1 trivial)).kp k3
    have nS : ∀ {u : HO} {y : Addr}, H3 y = some u → (∀ C d g, u ≠ .ins C d g) → y ∉ [sa] := fun {u y} hy hu m => by
      rw [List.mem_singleton.mp m, hs3] at hy
      cases hy
      exact hu _ _ _ rfl
    obtain ⟨dxb, hb⟩ := B3.ob
    have nxs : x ≠ sa := fun z => by
      rw [z, hs2] at nx
      cases nx
    refine k ⟨sa, R, x, d1, d2, 0, 0, ad⟩ H4 rfl ⟨k1.free _ (e12.free _ (k0.free _ f1)), k1.free _ (e12.free _ (k0.free _ f2)), nad⟩ ((((KpE.of k1).trans e12).trans (KpE.of k3)).trans e34) ⟨⟨dx, hs4⟩, rA3.kpE e34 ?_ (loose1 hs3 trivial), cA3.kpE e34 ?_ (loose1 hs3 trivial), ⟨[], ⟨⟨dxb, e34.same _ _ rfl (fun m => nxs (List.mem_singleton.mp m)) hb⟩, e34.same _ _ rfl (nS B3.pl (by intro C d g z; cases z)) B3.pl, e34.same _ _ rfl (nS B3.wd (by intro C d g z; cases z)) B3.wd, (by intro b hb; cases hb)⟩, rfl⟩, good_nil⟩
    · obtain ⟨ky, h1, _⟩ := rA3.ob
      exact nS h1 (by intro C d g z; cases z)
    · intro y hy
      obtain ⟨vs, h1, _⟩ := cA3.at_ y hy
      exact nS h1 (by intro C d g z; cases z)
def sp_p_State_size (P : Program) (w : World) (K : PySem.W.Frag) : Sp := fun vs H Q _ => ∃ (a : LA) (c : LC), vs = [.ref a.s] ∧ StateAt P w K H a c ∧ (c.row .arms).length = c.n ∧ Q (.int (c.n : Int)) H
theorem ok_p_State_size (T : Txt K mg) : FnOk P w K mg base CX0 1 T.f_p_State_size T.d_p_State_size ["self"] (sp_p_State_size P w K) := by
  refine T.F_p_State_size.ok sc_p_State_size (fun vs H Q E h => ?_) (fun cdv A outer s H vs Q E hr h => ?_)
  · obtain ⟨a, c, rfl, _⟩ := h
    rfl
  · obtain ⟨a, c, rfl, hS, hl, k⟩ := h
    have hu := hu_of hr
    refine ⟨_, (pss_one (ps_ret (pe_callB call_len_seq (by rfl) T.m_len PySem.boot_len (pa_cons (pe_mgetK P w rfl rfl hu (pe_fld (pv 0) rfl) (pe_glob rfl T.c_ARMS T.r_ARMS) (fun _ _ => rfl)) pa_nil)))), ?_⟩
    obtain ⟨dx, hs⟩ := hS.ob
    obtain ⟨kvs, m1, m2, ky, m3⟩ := hS.get (key_arms c.n)
    obtain ⟨vs, h1, h2⟩ := hS.cont.at_ .arms (key_arms c.n)
    refine ⟨_, rfl, a.s, _, dx, _, _, rfl, hs, T.cl_State, T.n_State_rows, fldS_rows _ _, a.R, kvs, RK.arms.mk, _, rfl, m1, m2, rfl, ⟨ky, m3⟩, a.ad .arms, _, rfl, .inl (SqL.of h1), ?_⟩
    have e : vs.length = c.n := by rw [DpAll.len h2]; exact hl
    rw [e]
    exact k
/-- what lies in a line's foot or was free -/
def FootNew (H : Hp) (L : Addr) (a : LA) (n : Nat) : Prop := ∀ b ∈ footL L a n, b = L ∨ H b = none
def sp_p_Line_init (P : Program) (w : World) (K : PySem.W.Frag) : Sp := fun vs H Q _ => ∃ (L dx : Addr) (n : Nat), vs = [.ref L, .int (n : Int)] ∧ H L = some (.ins (He.ga K "Line") dx []) ∧ 2 ≤ n ∧ n ≤ 12 ∧
  ∀ (a : LA) (H' : Hp), FootNew H L a n → KpE [L] H H' → LineAt P w K H' L a (newC n) → Q .non H'
theorem ok_p_Line_init (T : Txt K mg) : FnOk P w K mg base CX0 6 T.f_p_Line_init T.d_p_Line_init ["self", "masts"] (sp_p_Line_init P w K) := by
  refine T.F_p_Line_init.ok sc_p_Line_init (fun vs H Q E h => ?_) (fun cdv A outer s H vs Q E hr h => ?_)
  · obtain ⟨s, dx, n, rfl, _⟩ := h
    rfl
  · obtain ⟨L, dx, n, rfl, hL, hn1, hn2, k⟩ := h
    refine ⟨_, (pss_cons (ps_if (pt_not (pt_chain op_le op_le (pe_glob rfl T.c_FEWEST_MASTS T.r_FEWEST_MASTS) (pv 1) (pe_glob rfl T.c_MOST_MASTS T.r_MOST_MASTS)))
      (pss_one ps_never)
      pss_nil)
      (pss_cons (ps_fld (pv 0) (pe_make T.K_State (ok_p_State_init T) (hr.mono (by decide)) rfl T.g_State T.b_p_State_init .nil pass0 (pa_cons (pv 1) pa_nil)) rfl)
      (pss_cons (ps_fld (pv 0) (pe_lst pa_nil) rfl)
      (pss_one (ps_fld (pv 0) (pe_lst pa_nil) rfl))))), ?_⟩
    refine ⟨_, rfl, _, _, rfl, rfl, _, rfl, iteTo (decide_eq_true (by omega)) ⟨_, _, rfl, rfl, _, rfl, iteFo (by rw [decide_eq_true (by omega)]; rfl) ?_⟩⟩
    refine ⟨_, rfl, fun x dx2 nx ndx ne => ?_⟩
    refine ⟨x, dx2, n, rfl, upd_same, by omega, hn2, fun a H1 ea ⟨f1, f2, f3⟩ e1 hS => ⟨rfl, ?_⟩⟩
    have k1 : Kp H H1 := kp_made nx ndx ne e1
    have k0 : Kp H (upd (upd H dx2 (.own x)) x (.ins (He.ga K "State") dx2 [])) := (Kp.new ndx).trans (.new (by rw [upd_ne ne.symm]; exact nx))
    have hL1 := k1.same _ _ rfl hL
    have nsL : a.s ≠ L := fun z => by
      rw [ea] at z
      rw [z, hL] at nx
      cases nx
    have nBL : a.B ≠ L := fun z => by
      obtain ⟨dxb, hb⟩ := hS.book.ob
      rw [z, hL1] at hb
      have := congrArg (fun o => match o with | some (HO.ins _ _ fs) => fs.length | _ => 0) hb
      cases this
    refine ⟨_, rfl, L, _, dx, _, rfl, hL1, T.cl_Line, T.n_Line_state, (by show 0 < 1000; decide), ?_⟩
    have hS2 := hS.putI (o := .ins (He.ga K "Line") dx (putF "state" (.ref x) [])) hL1 nsL nBL
    generalize hH2 : upd H1 L (.ins (He.ga K "Line") dx (putF "state" (.ref x) [])) = H2 at hS2
    have hL2 : H2 L = some (.ins (He.ga K "Line") dx (putF "state" (.ref x) [])) := by rw [← hH2]; exact upd_same
    have e12 : KpE [L] H1 H2 := by rw [← hH2]; exact KpE.put hL1 rfl List.mem_cons_self
    refine ⟨Nat.zero_le _, fun p np => ?_⟩
    generalize h_H3 : upd H2 p _ = H3
    have k_H3 : Kp H2 H3 := by rw [← h_H3]; exact .new np
    have q_H3 := (congrFun h_H3 p).symm.trans upd_same
    clear h_H3
    have hL3 := k_H3.same _ _ rfl hL2
    have hS3 := hS2.kp k_H3
    refine ⟨_, rfl, L, _, dx, _, rfl, hL3, T.cl_Line, T.n_Line_past, (by show 1 < 1000; decide), ?_⟩
    have hS4 := hS3.putI (o := .ins (He.ga K "Line") dx (putF "past" (.ref p) (putF "state" (.ref x) []))) hL3 nsL nBL
    have npL : p ≠ L := fun z => by
      rw [z, hL2] at np
      cases np
    generalize hH4 : upd H3 L (.ins (He.ga K "Line") dx (putF "past" (.ref p) (putF "state" (.ref x) []))) = H4 at hS4
    have hL4 : H4 L = some (.ins (He.ga K "Line") dx (putF "past" (.ref p) (putF "state" (.ref x) []))) := by rw [← hH4]; exact upd_same
    have e34 : KpE [L] H3 H4 := by rw [← hH4]; exact KpE.put hL3 rfl List.mem_cons_self
    have hp4 : H4 p = some (.lst []) := e34.same _ _ rfl (fun m => npL (List.mem_singleton.mp m)) q_H3
    refine ⟨Nat.zero_le _, fun f nf => ?_⟩
    generalize h_H5 : upd H4 f _ = H5
    have k_H5 : Kp H4 H5 := by rw [← h_H5]; exact .new nf
    have q_H5 := (congrFun h_H5 f).symm.trans upd_same
    clear h_H5
    have hL5 := k_H5.same _ _ rfl hL4
    have hS5 := hS4.kp k_H5
    have hp5 := k_H5.same _ _ rfl hp4
    refine ⟨_, rfl, L, _, dx, _, rfl, hL5, T.cl_Line, T.n_Line_future, (by show 2 < 1000; decide), ?_⟩
    have hS6 := hS5.putI (o := .ins (He.ga K "Line") dx (fldL x p f)) hL5 nsL nBL
    have e56 : KpE [L] H5 (upd H5 L (.ins (He.ga K "Line") dx (fldL x p f))) := KpE.put hL5 rfl List.mem_cons_self
    have nfL : f ≠ L := fun z => by
      rw [z, hL4] at nf
      cases nf
    have npf : p ≠ f := fun z => by
      rw [← z, hp4] at nf
      cases nf
    have b2 : ∀ b, H2 b = none → H b = none := fun b hb => k1.free _ (e12.free _ hb)
    have b4 : ∀ b, H4 b = none → H b = none := fun b hb => b2 _ (k_H3.free _ (e34.free _ hb))
    refine k ⟨a.s, a.R, a.B, a.d1, a.d2, p, f, a.ad⟩ _ (fun b hb => ?_) ((((((KpE.of k1).trans e12).trans (KpE.of k_H3)).trans e34).trans (KpE.of k_H5)).trans e56) ⟨⟨dx, ?_⟩, ⟨hS6.ob, hS6.rows, hS6.cont, hS6.book, hS6.good⟩, ⟨[], ?_, trivial⟩, ⟨[], ?_, trivial⟩, fun y hy => ?_, npf⟩
    · rcases List.mem_append.mp hb with hb | hb
      · simp only [List.mem_cons, List.not_mem_nil, or_false] at hb
        rcases hb with rfl | rfl | rfl
        · exact .inl rfl
        · exact .inr (b2 _ np)
        · exact .inr (b4 _ nf)
      · rcases List.mem_cons.mp hb with rfl | hb
        · exact .inr (k0.free _ f1)
        rcases List.mem_cons.mp hb with rfl | hb
        · exact .inr (k0.free _ f2)
        obtain ⟨y, hy, rfl⟩ := List.mem_map.mp hb
        exact .inr (k0.free _ (f3 y hy))
    · rw [upd_same]
      show some (HO.ins _ dx (fldL x p f)) = some (HO.ins _ dx (fldL a.s p f))
      rw [ea]
    · exact e56.same _ _ rfl (fun m => npL (List.mem_singleton.mp m)) hp5
    · exact e56.same _ _ rfl (fun m => nfL (List.mem_singleton.mp m)) q_H5
    · obtain ⟨vs, h1, _⟩ := hS2.cont.at_ y hy
      obtain ⟨vs', h2, _⟩ := hS4.cont.at_ y hy
      exact ⟨fun z => (by rw [show a.ad y = p from z, np] at h1; cases h1), fun z => (by rw [show a.ad y = f from z, nf] at h2; cases h2)⟩
/-! ### one change of a state -/
theorem dp_keys {K : PySem.W.Frag} {H : Hp} : ∀ (ks : List Key), DpAll K H (ks.map kV) (ks.map fun k => match k with | .inl i => PyData.int i | .inr x => .str x)
  | [] => .nil
  | .inl i :: r => .cons (.int i) (dp_keys r)
  | .inr x :: r => .cons (.str x) (dp_keys r)
theorem KeyM.dp {K : PySem.W.Frag} {H : Hp} : ∀ {m : MK} {v : V}, KeyM H m v → Dp K H v (kD m)
  | .t x, _, h => by
    rw [show _ = V.str x from h]
    exact .str x
  | .u ks, _, ⟨b, e, h⟩ => by
    rw [e]
    exact .tup (.inl (.inl h)) (dp_keys ks)
theorem way_ok (u : Bool) : PyData.strOk (wayN u) = true := by cases u <;> decide +kernel
theorem key_shaped (k : RK) : SeqAt.shaped (kD k.mk) = true := by
  show (PyData.canLay0 (kD k.mk) && decide (PyData.depth (kD k.mk) ≤ 64)) = true
  have h1 : PyData.strOk "book" = true := by decide +kernel
  have h2 : PyData.strOk "queue" = true := by decide +kernel
  cases k with
  | q u => simp [kD, RK.mk, PyData.canLay0, PyData.canLayAll0, PyData.depth, PyData.depthAll, way_ok, h2]
  | b u m => simp [kD, RK.mk, PyData.canLay0, PyData.canLayAll0, PyData.depth, PyData.depthAll, way_ok, h1]
  | _ => decide +kernel
theorem key_words (k : RK) : PyData.eqv (kD k.mk) (.str "words") = false := by
  cases k with
  | q u => simp [kD, RK.mk, PyData.eqv]
  | b u m => simp [kD, RK.mk, PyData.eqv]
  | _ => decide +kernel
theorem DpAll.tak {K : PySem.W.Frag} {H : Hp} : ∀ (n : Nat) {xs : List V} {ds : List PyData}, DpAll K H xs ds → DpAll K H (xs.take n) (ds.take n)
  | 0, _, _, _ => .nil
  | _ + 1, _, _, .nil => .nil
  | n + 1, _, _, .cons a b => .cons a (DpAll.tak n b)
theorem DpAll.drp {K : PySem.W.Frag} {H : Hp} : ∀ (n : Nat) {xs : List V} {ds : List PyData}, DpAll K H xs ds → DpAll K H (xs.drop n) (ds.drop n)
  | 0, _, _, h => h
  | _ + 1, _, _, .nil => .nil
  | n + 1, _, _, .cons _ b => DpAll.drp n b
theorem deed_str {c : LC} {p l : Int} {t : Str} {b : Tri} (h : plT c.ws p l = some b) : b = (b.1, p, l) := by
  obtain ⟨_, h1, h2⟩ := plT_mem h
  exact Prod.ext rfl (Prod.ext h1 h2)
theorem dT_map (bs : List Ent) (st : Bool) (p l : Int) (t : Str) (u : Addr) : (if st = true then bs.filter (fun e => !hereF p l e) else bs ++ [((t, p, l), u)]).map (·.1) = deedT (bs.map (·.1)) st p l t := by
  cases st
  · show (bs ++ [((t, p, l), u)]).map (·.1) = bs.map (·.1) ++ [(t, p, l)]
    rw [List.map_append]
    rfl
  · exact filt_T bs p l
/-- the words change -/
theorem StateAt.words {P : Program} {w : World} {K : PySem.W.Frag} {H H' : Hp} {a : LA} {c : LC} {ws : List Tri} (s : StateAt P w K H a c) (e : KpE [a.d1, a.d2] H H') (b : BookW (He.ga K "Phrasebook") H' a.B a.d1 a.d2 ws) (g : GoodT ws) : StateAt P w K H' a { c with ws := ws } := by
  obtain ⟨k1, hp⟩ := s.book.pl
  obtain ⟨k2, hw⟩ := s.book.wd
  have lo : ∀ b ∈ [a.d1, a.d2], ∀ u, H b = some u → Loose u := fun b hb => s.loose b (by
    simp only [List.mem_cons, List.not_mem_nil, or_false] at hb
    rcases hb with rfl | rfl
    · exact List.mem_cons_self
    · exact List.mem_cons_of_mem _ List.mem_cons_self)
  have nS : ∀ {u : HO} {y : Addr}, H y = some u → (∀ g, u ≠ .dT g) → (∀ g, u ≠ .dK g) → y ∉ [a.d1, a.d2] := fun {u y} hy h1 h2 m => by
    simp only [List.mem_cons, List.not_mem_nil, or_false] at m
    rcases m with rfl | rfl
    · rw [hp] at hy; cases hy; exact h1 _ rfl
    · rw [hw] at hy; cases hy; exact h2 _ rfl
  obtain ⟨dx, h1⟩ := s.ob
  obtain ⟨ky, h2, _⟩ := s.rows.ob
  refine ⟨⟨dx, e.same _ _ rfl (nS h1 (by intro g z; cases z) (by intro g z; cases z)) h1⟩, s.rows.kpE e (nS h2 (by intro g z; cases z) (by intro g z; cases z)) lo, s.cont.kpE e (fun x hx => ?_) lo, b, g⟩
  obtain ⟨vs, h3, _⟩ := s.cont.at_ x hx
  exact nS h3 (by intro g z; cases z) (by intro g z; cases z)
def sp_p_State_swap_word (T : Txt K mg) (P : Program) (w : World) : Sp := fun vs H Q E => ∃ (a : LA) (c : LC) (av tv uv : V) (p l : Int) (t : Str) (on : Bool), vs = [.ref a.s, av, tv, uv] ∧ StateAt P w K H a c ∧ TupV K H av [.int p, .int l] ∧ TupV K H tv (oneV (!on) t) ∧ TupV K H uv (oneV on t) ∧ c.ws.length < 1000 ∧ t.length ≤ 1000 ∧ GxR.TabG H T.P_tab ∧
  (on = false → deedV c.ws true p l t = none) ∧
  (deedV c.ws (!on) p l t = none → ∀ H', KpE [a.d1, a.d2] H H' → StateAt P w K H' a (c.app (.word p l t on)) → Q .non H') ∧
  (∀ i, deedV c.ws (!on) p l t = some i → ∀ H', Kp H H' → E (.ref (He.ga K (whyS i))) none H')
theorem ok_p_State_swap_word (T : Txt K mg) (TB : GxR.TabB base mg T.c_tab T.P_tab) : FnOk P w K mg base (L2.CX P w) 6 T.f_p_State_swap_word T.d_p_State_swap_word ["self", "at", "taken", "put"] (sp_p_State_swap_word T P w) := by
  refine T.F_p_State_swap_word.okX sc_p_State_swap_word (fun vs H Q E h => ?_) (fun cdv A outer s H vs Q E hr h => ?_)
  · obtain ⟨a, c, av, tv, uv, p, l, t, on, rfl, _⟩ := h
    rfl
  · obtain ⟨a, c, av, tv, uv, p, l, t, on, rfl, hS, ⟨qa, rfl, hq⟩, ⟨ta, rfl, ht⟩, ⟨ua, rfl, hu'⟩, hwl, htl, hT, hoff, k, kE⟩ := h
    have hu := hu_of hr
    refine ⟨_, (pss_cons (ps_asg (pv 1) (pg_tup (n := 2) rfl (pgs_cons (pg_name (i := 4) sc_p_State_swap_word.nd rfl (by first | exact Or.inl rfl | exact Or.inr rfl)) (pgs_cons (pg_name (i := 5) sc_p_State_swap_word.nd rfl (by first | exact Or.inl rfl | exact Or.inr rfl)) pgs_nil))))
      (pss_cons (ps_if (pt_truth (pv 2) (by intro _; rfl))
      (pss_one (ps_expr (pe_meth (pe_fld (pv 0) rfl) T.cl_Phrasebook T.M_p_Phrasebook_strike (ok_p_Phrasebook_strike T) (hr.mono (by decide)) T.b_p_Phrasebook_strike .nil (passes_call (takes_of rfl rfl rfl rfl) (fun _ _ _ _ z => z)) (pa_cons (pv 4) (pa_cons (pv 5) pa_nil)))))
      pss_nil)
      (pss_one (ps_if (pt_truth (pv 3) (by intro _; rfl))
      (pss_one (ps_expr (pe_meth (pe_fld (pv 0) rfl) T.cl_Phrasebook T.M_p_Phrasebook_enter (ok_p_Phrasebook_enter T TB) (hr.mono (by decide)) T.b_p_Phrasebook_enter .nil (passes_call (takes_of rfl rfl rfl rfl) (fun _ _ _ _ z => z)) (pa_cons (pv 4) (pa_cons (pv 5) (pa_cons (pe_ix ix_tup (pv 3) pe_int (fun _ _ => rfl)) pa_nil))))))
      pss_nil)))), ?_⟩
    obtain ⟨dx, hs⟩ := hS.ob
    obtain ⟨bs, hB, eb⟩ := hS.book
    have g : GoodT (bs.map (·.1)) := by rw [eb]; exact hS.good
    have hbl : bs.length ≤ 1000 := by
      have := congrArg List.length eb
      rw [List.length_map] at this
      omega
    refine ⟨_, rfl, qa, _, rfl, hq, rfl, _, _, rfl, _, _, rfl, rfl, ?_⟩
    obtain ⟨dxb, hb⟩ := hB.ob
    cases on with
    | true =>
      refine ⟨_, rfl, false, .inr (.inl ⟨_, ht, rfl⟩), iteFo rfl ?_⟩
      refine ⟨_, rfl, true, .inr (.inl ⟨_, hu', rfl⟩), iteTo rfl ?_⟩
      refine ⟨_, rfl, a.s, _, dx, _, _, rfl, hs, T.cl_State, T.n_State_phrasebook, fldS_book _ _, a.B, _, _, rfl, hb, flds_no _ _ (by decide +kernel) (by decide +kernel), _, rfl, _, rfl, _, rfl, ua, _, _, _, rfl, rfl, hu', rfl, a.B, a.d1, a.d2, bs, p, l, t, rfl, hB, hbl, htl, hT, fun ev u H1 k1 B1 => ?_, fun y ev H1 k1 => ?_⟩
      · have dv : deedV c.ws false p l t = none := by rw [← eb, enter_V, ev]; rfl
        refine k dv H1 k1 (hS.words k1 ⟨_, B1, ?_⟩ (hS.good.step dv))
        rw [← eb]
        exact dT_map bs false p l t u
      · have dv : deedV c.ws false p l t = some (whyN y) := by rw [← eb, enter_V, ev]; rfl
        have z := kE _ dv H1 k1
        cases y <;> exact z
    | false =>
      refine ⟨_, rfl, true, .inr (.inl ⟨_, ht, rfl⟩), iteTo rfl ?_⟩
      have dv : deedV c.ws true p l t = none := hoff rfl
      have ok : okP p l = true := by
        unfold deedV at dv
        by_cases z : okP p l = false
        · rw [if_pos z] at dv; cases dv
        · simpa using z
      have some_ : (plT c.ws p l).isSome = true := by
        unfold deedV at dv
        rw [if_neg (by rw [ok]; decide), if_pos rfl] at dv
        by_cases z : (plT c.ws p l).isSome = true
        · exact z
        · rw [if_neg z] at dv; cases dv
      refine ⟨_, rfl, a.s, _, dx, _, _, rfl, hs, T.cl_State, T.n_State_phrasebook, fldS_book _ _, a.B, _, _, rfl, hb, flds_no _ _ (by decide +kernel) (by decide +kernel), _, rfl, _, rfl, a.B, a.d1, a.d2, bs, p, l, rfl, hB, fun ev => ?_, fun ev en => ?_, fun ev b eb2 => ?_⟩
      · rw [ok] at ev; cases ev
      · rw [← eb, ← atP_some, en] at some_; cases some_
      · have hpl : plT (bs.map (·.1)) p l = some b.1 := by rw [← atP_T, eb2]; rfl
        refine ⟨bs.filter fun e => !hereF p l e, drop_P bs p l, drop_W g hpl, fun e he => (List.mem_filter.mp he).1, fun H1 k1 B1 => ?_⟩
        have ts : TupS H H1 := .kpE k1 (fun b hb => hS.loose b (by
          simp only [List.mem_cons, List.not_mem_nil, or_false] at hb
          rcases hb with rfl | rfl
          · exact List.mem_cons_self
          · exact List.mem_cons_of_mem _ List.mem_cons_self))
        refine ⟨_, rfl, false, .inr (.inl ⟨_, ts.rd.sqT hu', rfl⟩), iteFo rfl ?_⟩
        refine k dv H1 k1 (hS.words k1 ⟨_, B1, ?_⟩ (hS.good.step dv))
        rw [← eb]
        exact dT_map bs true p l t 0
def sp_p_State_swap (T : Txt K mg) (P : Program) (w : World) : Sp := fun vs H Q E => ∃ (a : LA) (c : LC) (h : Ch) (wv av tv uv : V), vs = [.ref a.s, wv, av, tv, uv] ∧ StateAt P w K H a c ∧ h.Nd ∧ ArgsAt K H h wv av tv uv ∧ GxR.TabG H T.P_tab ∧
  (Fits1 c h → ∀ H', KpE (adsS a c.n) H H' → StateAt P w K H' a (c.app h) → Q .non H') ∧
  (¬ Fits1 c h → ∃ p l t, h = .word p l t true ∧ c.ws.length < 1000 ∧ t.length ≤ 1000 ∧ ∀ i, deedV c.ws false p l t = some i → ∀ H', Kp H H' → E (.ref (He.ga K (whyS i))) none H')
theorem ok_p_State_swap (T : Txt K mg) (TB : GxR.TabB base mg T.c_tab T.P_tab) : FnOk P w K mg base (L2.CX P w) 7 T.f_p_State_swap T.d_p_State_swap ["self", "where", "at", "taken", "put"] (sp_p_State_swap T P w) := by
  refine T.F_p_State_swap.okX sc_p_State_swap (fun vs H Q E h => ?_) (fun cdv A outer s H vs Q E hr h => ?_)
  · obtain ⟨a, c, h, wv, av, tv, uv, rfl, _⟩ := h
    rfl
  · obtain ⟨a, c, h, wv, av, tv, uv, rfl, hS, nd, ar, hT, q, qE⟩ := h
    have hu := hu_of hr
    refine ⟨_, (pss_one (ps_if (pt_cmpR (op_eqD hr.units) (pv 1) (pe_glob rfl T.c_WORDS T.r_WORDS) (nomark _))
      (pss_one (ps_expr (pe_meth (pv 0) T.cl_State T.M_p_State_swap_word (ok_p_State_swap_word T TB) (hr.mono (by decide)) T.b_p_State_swap_word .nil (passes_call (takes_of rfl rfl rfl rfl) (fun _ _ _ _ z => z)) (pa_cons (pv 2) (pa_cons (pv 3) (pa_cons (pv 4) pa_nil))))))
      (pss_cons (ps_set (i := 5) sc_p_State_swap.nd rfl (by first | exact Or.inl rfl | exact Or.inr rfl) (pe_mgetK P w rfl rfl hu (pe_fld (pv 0) rfl) (pv 1) (fun _ _ => rfl)))
      (pss_one (ps_slput (pv 5) (po_some (pv 2)) (po_some (pe_op op_add (pv 2) (pe_callB call_len_seq (by rfl) T.m_len PySem.boot_len (pa_cons (pv 3) pa_nil)))) (pe_callTy call_list_of (by rfl) T.m_list (by decide +kernel) (pa_cons (pv 4) pa_nil)) rfl))))), ?_⟩
    obtain ⟨dx, hs⟩ := hS.ob
    cases h with
    | row k i tk ds =>
      have hf : Fits1 c (.row k i tk ds) := Classical.byContradiction fun z => by
        obtain ⟨p, l, t, e, _⟩ := qE z
        cases e
      have q := q hf
      obtain ⟨hk, hi, hl⟩ := hf
      obtain ⟨hw, rfl, ⟨ts, ⟨t, rfl, ht⟩, hts⟩, us, ⟨u, rfl, hu'⟩, hds⟩ := ar
      obtain ⟨ntk, nds⟩ := nd
      obtain ⟨kvs, m1, m2, ky, m3⟩ := hS.get hk
      obtain ⟨vs, h1, h2⟩ := hS.cont.at_ k hk
      have hlen := DpAll.len h2
      refine ⟨_, rfl, _, _, hw.dp, .str _, key_shaped k, (by decide +kernel), ?_⟩
      refine ⟨false, congrArg V.bl (key_words k), iteB (fun c => by cases c) (fun _ => ?_)⟩
      refine ⟨_, rfl, a.s, _, dx, _, _, rfl, hs, T.cl_State, T.n_State_rows, fldS_rows _ _, _, rfl, a.R, kvs, k.mk, _, rfl, m1, m2, hw, ⟨ky, m3⟩, ?_⟩
      refine ⟨_, rfl, u, us, rfl, .inr hu', fun b nb => ?_⟩
      generalize h_H1 : upd H b _ = H1
      have k_H1 : Kp H H1 := by rw [← h_H1]; exact .new nb
      have q_H1 := (congrFun h_H1 b).symm.trans upd_same
      clear h_H1
      have hne : a.ad k ≠ b := fun z => by
        rw [z, nb] at h1
        cases h1
      have hk1 := k_H1.same _ _ rfl h1
      have ht1 := k_H1.sqT ht
      have el : us.length = ds.length := DpAll.len hds
      have etl : ts.length = tk.length := DpAll.len hts
      have hlen' : vs.length = (c.row k).length := hlen
      refine ⟨_, rfl, _, rfl, _, rfl, _, rfl, _, rfl, t, ts, rfl, .inr ht1, _, _, rfl, rfl, _, rfl, a.ad k, b, vs, us, i, (i : Int) + (ts.length : Int), rfl, rfl, rfl, rfl, hk1, q_H1, hne, by omega, by omega, by omega, Nat.le_of_lt (szt (by omega)), ?_⟩
      have hS1 := hS.kp k_H1
      have e1 : (i : Int).toNat = i := by omega
      have e2 : ((i : Int) + (ts.length : Int)).toNat = i + tk.length := by omega
      rw [e1, e2]
      refine q _ (((KpE.of (S := [a.ad k]) k_H1).trans (KpE.put hk1 rfl List.mem_cons_self)).mono fun b hb => ?_) (hS1.put hk ?_ ?_)
      · rw [List.mem_singleton.mp hb]
        exact List.mem_cons_of_mem _ (List.mem_cons_of_mem _ (List.mem_map.mpr ⟨k, hk, rfl⟩))
      · exact DpAll.app (DpAll.app (DpAll.tak i (k_H1.dpAll h2)) (k_H1.dpAll hds)) (DpAll.drp _ (k_H1.dpAll h2))
      · intro d hd
        rcases List.mem_append.mp hd with hd | hd
        · rcases List.mem_append.mp hd with hd | hd
          · exact hS.cont.nl k hk d (List.mem_of_mem_take hd)
          · exact nds d hd
        · exact hS.cont.nl k hk d (List.mem_of_mem_drop hd)
    | word p l t on =>
      obtain ⟨rfl, hav, htv, huv⟩ := ar
      refine ⟨_, rfl, _, _, .str _, .str _, (by decide +kernel), (by decide +kernel), ?_⟩
      refine ⟨true, congrArg V.bl (by decide +kernel), iteB (fun _ => ?_) (fun c => by cases c)⟩
      have wl : c.ws.length < 1000 ∧ t.length ≤ 1000 ∧ (on = false → deedV c.ws true p l t = none) := by
        by_cases z : Fits1 c (.word p l t on)
        · exact ⟨z.2.1, z.2.2.1, fun y => by have := z.1; rw [y] at this; exact this⟩
        · obtain ⟨p', l', t', e, h1, h2, _⟩ := qE z
          injection e with e1 e2 e3 e4
          subst e1 e2 e3 e4
          exact ⟨h1, h2, fun y => by cases y⟩
      refine ⟨_, rfl, a.s, dx, _, rfl, hs, fldS_no _ _ (by decide +kernel) (by decide +kernel), _, rfl, _, rfl, _, rfl, a, c, av, tv, uv, p, l, t, on, rfl, hS, hav, htv, huv, wl.1, wl.2.1, hT, wl.2.2, fun dv H1 k1 hS1 => ?_, fun i dv H1 k1 => ?_⟩
      · by_cases z : Fits1 c (.word p l t on)
        · exact q z H1 (k1.mono fun b hb => by
            simp only [List.mem_cons, List.not_mem_nil, or_false] at hb
            rcases hb with rfl | rfl
            · exact List.mem_cons_self
            · exact List.mem_cons_of_mem _ List.mem_cons_self) hS1
        · exfalso
          obtain ⟨p', l', t', e, h1, h2, _⟩ := qE z
          injection e with e1 e2 e3 e4
          subst e1 e2 e3 e4
          exact z ⟨dv, h1, h2, fun y => by cases y⟩
      · have z : ¬ Fits1 c (.word p l t on) := fun z => by
          have := z.1
          rw [this] at dv
          cases dv
        obtain ⟨p', l', t', e, h1, h2, hE⟩ := qE z
        injection e with e1 e2 e3 e4
        subst e1 e2 e3 e4
        exact hE i dv H1 k1
/-! ### changes, made and taken back -/
def sp_p_State_make (T : Txt K mg) (P : Program) (w : World) : Sp := fun vs H Q E => ∃ (a : LA) (c : LC) (cl : Addr) (xs : List V) (hs : List Ch), vs = [.ref a.s, .ref cl] ∧ StateAt P w K H a c ∧ (SqL K H cl xs ∧ cl ∉ adsS a c.n ∨ SqT K H cl xs) ∧ ChsAt K H xs hs ∧ GxR.TabG H T.P_tab ∧
  (FitsC c hs → ∀ H', KpE (adsS a c.n) H H' → StateAt P w K H' a (c.apps hs) → Q .non H') ∧
  (¬ FitsC c hs → ∃ p l t, hs = [.word p l t true] ∧ c.ws.length < 1000 ∧ t.length ≤ 1000 ∧ ∀ i, deedV c.ws false p l t = some i → ∀ H', Kp H H' → E (.ref (He.ga K (whyS i))) none H')
theorem ok_p_State_make (T : Txt K mg) (TB : GxR.TabB base mg T.c_tab T.P_tab) : FnOk P w K mg base (L2.CX P w) 8 T.f_p_State_make T.d_p_State_make ["self", "changes"] (sp_p_State_make T P w) := by
  refine T.F_p_State_make.okX sc_p_State_make (fun vs H Q E h => ?_) (fun cdv A outer s H vs Q E hr h => ?_)
  · obtain ⟨a, c, cl, xs, hs, rfl, _⟩ := h
    rfl
  · obtain ⟨a, c, cl, xs, hs, rfl, hS, hcl, hch, hT, q, qE⟩ := h
    have hu := hu_of hr
    have hlen := hch.len
    refine ⟨_, (pss_one (ps_for (passes_of rfl) rfl (pi_seq (pv 1)) (pg_tup (n := 4) rfl (pgs_cons (pg_name (i := 2) sc_p_State_make.nd rfl (by first | exact Or.inl rfl | exact Or.inr rfl)) (pgs_cons (pg_name (i := 3) sc_p_State_make.nd rfl (by first | exact Or.inl rfl | exact Or.inr rfl)) (pgs_cons (pg_name (i := 4) sc_p_State_make.nd rfl (by first | exact Or.inl rfl | exact Or.inr rfl)) (pgs_cons (pg_name (i := 5) sc_p_State_make.nd rfl (by first | exact Or.inl rfl | exact Or.inr rfl)) pgs_nil)))))
      (pss_one (ps_expr (pe_meth (pv 0) T.cl_State T.M_p_State_swap (ok_p_State_swap T TB) (hr.mono (by decide)) T.b_p_State_swap .nil (passes_call (takes_of rfl rfl rfl rfl) (fun _ _ _ _ z => z)) (pa_cons (pv 2) (pa_cons (pv 3) (pa_cons (pv 4) (pa_cons (pv 5) pa_nil))))))))), ?_⟩
    refine ⟨_, rfl, cl, rfl, ?_⟩
    rcases hcl with ⟨hcl, ncl⟩ | hcl
    · refine .inl ⟨⟨_, hcl⟩, for_list (K := K) (a := cl) (xs := xs) (fun i σ H' => ∃ (y2 y3 y4 y5 : Option V), σ = [some (.ref a.s), some (.ref cl), y2, y3, y4, y5] ∧ KpE (adsS a c.n) H H' ∧ StateAt P w K H' a (c.apps (hs.take i)) ∧ (i = 0 → H' = H) ∧ (0 < i → FitsC c hs)) ⟨_, _, _, _, rfl, KpE.of (Kp.refl H), hS, fun _ => rfl, fun z => absurd z (Nat.lt_irrefl 0)⟩ (fun i σ H' _ ⟨_, _, _, _, _, k, _⟩ => k.sqL ncl hcl) ?_ ?_⟩
      · rintro i v σ H' ev ⟨y2, y3, y4, y5, rfl, k, hS', h0, hp⟩
        have hi : i < hs.length := by
          rw [← hlen]
          exact (List.getElem?_eq_some_iff.mp ev).1
        have ts := TupS.kpE k hS.loose
        obtain ⟨nd, wv, av, tv, uv, ⟨t, rfl, ht⟩, ar⟩ := (hch.at_ ev (List.getElem?_eq_getElem hi)).ts ts
        obtain ⟨dx, hs'⟩ := hS'.ob
        refine ⟨t, _, rfl, ht, rfl, _, _, rfl, _, _, rfl, _, _, rfl, _, _, rfl, rfl, ?_⟩
        refine ⟨_, rfl, a.s, dx, _, rfl, hs', fldS_no _ _ (by decide +kernel) (by decide +kernel), _, rfl, _, rfl, _, rfl, _, rfl, a, c.apps (hs.take i), hs[i], wv, av, tv, uv, rfl, hS', nd, ar, k.tab _ hT, fun f1 H2 k2 hS2 => ⟨_, _, _, _, rfl, ?_, ?_, fun z => absurd z (Nat.succ_ne_zero i), fun _ => ?_⟩, fun nf => ?_⟩
        · rw [apps_n] at k2
          exact k.trans k2
        · rw [List.take_succ_eq_append_getElem hi, apps_snoc]
          exact hS2
        · by_cases hf : FitsC c hs
          · exact hf
          · obtain ⟨p, l, t, e, h1, h2, hE⟩ := qE hf
            subst e
            have hi0 : i = 0 := by
              simp only [List.length_singleton] at hi
              omega
            subst hi0
            exact ⟨f1, trivial⟩
        · by_cases hf : FitsC c hs
          · exfalso
            have ff := fits_at hs c i hf
            rw [List.drop_eq_getElem_cons hi] at ff
            exact nf ff.1
          · obtain ⟨p, l, t, e, h1, h2, hE⟩ := qE hf
            subst e
            have hi0 : i = 0 := by
              simp only [List.length_singleton] at hi
              omega
            subst hi0
            refine ⟨p, l, t, rfl, h1, h2, fun j dj H2 k2 => ?_⟩
            rw [h0 rfl] at k2
            exact hE j dj H2 k2
      · rintro σ H' ⟨y2, y3, y4, y5, rfl, k, hS', h0, hp⟩
        by_cases hf : FitsC c hs
        · rw [hlen, List.take_length] at hS'
          exact q hf H' k hS'
        · obtain ⟨p, l, t, e, _⟩ := qE hf
          exact absurd (hp (by rw [hlen, e]; exact Nat.one_pos)) hf
    · refine .inr ⟨⟨_, hcl⟩, for_tup (K := K) (a := cl) (xs := xs) (fun i σ H' => ∃ (y2 y3 y4 y5 : Option V), σ = [some (.ref a.s), some (.ref cl), y2, y3, y4, y5] ∧ KpE (adsS a c.n) H H' ∧ StateAt P w K H' a (c.apps (hs.take i)) ∧ (i = 0 → H' = H) ∧ (0 < i → FitsC c hs)) ⟨_, _, _, _, rfl, KpE.of (Kp.refl H), hS, fun _ => rfl, fun z => absurd z (Nat.lt_irrefl 0)⟩ (fun i σ H' _ ⟨_, _, _, _, _, k, _⟩ => (TupK.kpE k hS.loose).sqT hcl) ?_ ?_⟩
      · rintro i v σ H' ev ⟨y2, y3, y4, y5, rfl, k, hS', h0, hp⟩
        have hi : i < hs.length := by
          rw [← hlen]
          exact (List.getElem?_eq_some_iff.mp ev).1
        have ts := TupS.kpE k hS.loose
        obtain ⟨nd, wv, av, tv, uv, ⟨t, rfl, ht⟩, ar⟩ := (hch.at_ ev (List.getElem?_eq_getElem hi)).ts ts
        obtain ⟨dx, hs'⟩ := hS'.ob
        refine ⟨t, _, rfl, ht, rfl, _, _, rfl, _, _, rfl, _, _, rfl, _, _, rfl, rfl, ?_⟩
        refine ⟨_, rfl, a.s, dx, _, rfl, hs', fldS_no _ _ (by decide +kernel) (by decide +kernel), _, rfl, _, rfl, _, rfl, _, rfl, a, c.apps (hs.take i), hs[i], wv, av, tv, uv, rfl, hS', nd, ar, k.tab _ hT, fun f1 H2 k2 hS2 => ⟨_, _, _, _, rfl, ?_, ?_, fun z => absurd z (Nat.succ_ne_zero i), fun _ => ?_⟩, fun nf => ?_⟩
        · rw [apps_n] at k2
          exact k.trans k2
        · rw [List.take_succ_eq_append_getElem hi, apps_snoc]
          exact hS2
        · by_cases hf : FitsC c hs
          · exact hf
          · obtain ⟨p, l, t, e, h1, h2, hE⟩ := qE hf
            subst e
            have hi0 : i = 0 := by
              simp only [List.length_singleton] at hi
              omega
            subst hi0
            exact ⟨f1, trivial⟩
        · by_cases hf : FitsC c hs
          · exfalso
            have ff := fits_at hs c i hf
            rw [List.drop_eq_getElem_cons hi] at ff
            exact nf ff.1
          · obtain ⟨p, l, t, e, h1, h2, hE⟩ := qE hf
            subst e
            have hi0 : i = 0 := by
              simp only [List.length_singleton] at hi
              omega
            subst hi0
            refine ⟨p, l, t, rfl, h1, h2, fun j dj H2 k2 => ?_⟩
            rw [h0 rfl] at k2
            exact hE j dj H2 k2
      · rintro σ H' ⟨y2, y3, y4, y5, rfl, k, hS', h0, hp⟩
        by_cases hf : FitsC c hs
        · rw [hlen, List.take_length] at hS'
          exact q hf H' k hS'
        · obtain ⟨p, l, t, e, _⟩ := qE hf
          exact absurd (hp (by rw [hlen, e]; exact Nat.one_pos)) hf
/-! ### a deed is done -/
def LC.did (c : LC) (dd : PyData) (hs : List Ch) : LC := ⟨c.n, (c.apps hs).row, (c.apps hs).ws, c.past ++ [(dd, hs)], []⟩
def LA.futA (a : LA) (f : Addr) : LA := ⟨a.s, a.R, a.B, a.d1, a.d2, a.p, f, a.ad⟩
theorem foot_fut {L f b : Addr} {a : LA} {n : Nat} (h : b ∈ footL L (a.futA f) n) : b = f ∨ b ∈ footL L a n := by
  unfold footL at h ⊢
  rcases List.mem_append.mp h with h | h
  · simp only [List.mem_cons, List.not_mem_nil, or_false, LA.futA] at h
    rcases h with rfl | rfl | rfl
    · exact .inr (by simp)
    · exact .inr (by simp)
    · exact .inl rfl
  · exact .inr (List.mem_append.mpr (.inr h))
theorem foot_sub {L b : Addr} {a : LA} {n : Nat} (h : b ∈ adsS a n) : b ∈ footL L a n := List.mem_append.mpr (.inr h)
/-- behind a deed: what changed, and how the line stands -/
structure Did (P : Program) (w : World) (K : PySem.W.Frag) (H H' : Hp) (L : Addr) (a : LA) (n : Nat) (a' : LA) (c' : LC) : Prop where
  e : KpE (footL L a n) H H'
  ft : ∀ b ∈ footL L a' n, b ∈ footL L a n ∨ H b = none
  nn : c'.n = n
  at_ : LineAt P w K H' L a' c'
def sp_p_Line_do (T : Txt K mg) (P : Program) (w : World) : Sp := fun vs H Q E => ∃ (L : Addr) (a : LA) (c : LC) (dv : V) (dd : PyData) (cl : Addr) (xs : List V) (hs : List Ch), vs = [.ref L, dv, .ref cl] ∧ LineAt P w K H L a c ∧ Dp K H dv dd ∧ Nl dd ∧ SqL K H cl xs ∧ cl ∉ footL L a c.n ∧ ChsAt K H xs hs ∧ c.past.length < 9000 ∧ hs.length < 9000 ∧ GxR.TabG H T.P_tab ∧
  (FitsC c hs → ∀ (a' : LA) (H' : Hp), Did P w K H H' L a c.n a' (c.did dd hs) → Q .non H') ∧
  (¬ FitsC c hs → ∃ p l t, hs = [.word p l t true] ∧ c.ws.length < 1000 ∧ t.length ≤ 1000 ∧ ∀ i, deedV c.ws false p l t = some i → ∀ H', Kp H H' → E (.ref (He.ga K (whyS i))) none H')
theorem ok_p_Line_do (T : Txt K mg) (TB : GxR.TabB base mg T.c_tab T.P_tab) : FnOk P w K mg base (L2.CX P w) 9 T.f_p_Line_do T.d_p_Line_do ["self", "deed", "changes"] (sp_p_Line_do T P w) := by
  refine T.F_p_Line_do.okX sc_p_Line_do (fun vs H Q E h => ?_) (fun cdv A outer s H vs Q E hr h => ?_)
  · obtain ⟨L, a, c, dv, dd, cl, xs, hs, rfl, _⟩ := h
    rfl
  · obtain ⟨L, a, c, dv, dd, cl, xs, hs, rfl, hL, hdv, hnl, hcl, ncl, hch, hp, hh, hT, q, qE⟩ := h
    refine ⟨_, (pss_cons (ps_expr (pe_meth (pe_fld (pv 0) rfl) T.cl_State T.M_p_State_make (ok_p_State_make T TB) (hr.mono (by decide)) T.b_p_State_make .nil (passes_call (takes_of rfl rfl rfl rfl) (fun _ _ _ _ z => z)) (pa_cons (pv 2) pa_nil)))
      (pss_cons (ps_expr (pe_bm PySem.F.plainAttrs_list PySem.F.slot_list_append PySem.F.type_list_append mt_append (pe_fld (pv 0) rfl) (pa_cons (pe_tup (pa_cons (pv 1) (pa_cons (pe_callTy call_tuple_of (by rfl) T.m_tuple (by decide +kernel) (pa_cons (pv 2) pa_nil)) pa_nil))) pa_nil)))
      (pss_one (ps_fld (pv 0) (pe_lst pa_nil) rfl)))), ?_⟩
    obtain ⟨dx, hl⟩ := hL.ob
    obtain ⟨dxs, hs0⟩ := hL.st.ob
    have sub : ∀ b ∈ adsS a c.n, b ∈ footL L a c.n := fun b hb => foot_sub hb
    refine ⟨_, rfl, L, _, dx, _, _, rfl, hl, T.cl_Line, T.n_Line_state, fldL_state _ _ _, a.s, dxs, _, rfl, hs0, fldS_no _ _ (by decide +kernel) (by decide +kernel), _, rfl, a, c, cl, xs, hs, rfl, hL.st, .inl ⟨hcl, fun m => ncl (sub _ m)⟩, hch, hT, fun hf H1 e1 hS1 => ?_, qE⟩
    have lS := hL.st.loose
    have ts := TupS.kpE e1 lS
    obtain ⟨pv, hp0, dp0⟩ := hL.past
    have nL : L ∉ adsS a c.n := fun m => by
      rcases List.mem_cons.mp m with z | m
      · obtain ⟨kvs, h⟩ := hL.st.book.pl
        rw [← z, hl] at h; cases h
      rcases List.mem_cons.mp m with z | m
      · obtain ⟨kvs, h⟩ := hL.st.book.wd
        rw [← z, hl] at h; cases h
      obtain ⟨y, hy, z⟩ := List.mem_map.mp m
      obtain ⟨vs, h1, _⟩ := hL.st.cont.at_ y hy
      rw [z, hl] at h1
      cases h1
    have nP : a.p ∉ adsS a c.n := fun m => by
      rcases List.mem_cons.mp m with z | m
      · obtain ⟨kvs, h⟩ := hL.st.book.pl
        rw [← z, hp0] at h; cases h
      rcases List.mem_cons.mp m with z | m
      · obtain ⟨kvs, h⟩ := hL.st.book.wd
        rw [← z, hp0] at h; cases h
      obtain ⟨y, hy, z⟩ := List.mem_map.mp m
      exact (hL.ap y hy).1 z
    have hl1 := e1.same _ _ rfl nL hl
    have hp1 := e1.same _ _ rfl nP hp0
    have dp1 := dp0.ts ts
    have hcl1 := e1.sqL (fun m => ncl (sub _ m)) hcl
    have hdv1 := Dp.tk ts.rd hnl hdv
    have hch1 := hch.ts ts
    have epv : pv.length = c.past.length := dp0.len
    refine ⟨_, rfl, L, _, dx, _, _, rfl, hl1, T.cl_Line, T.n_Line_past, fldL_past _ _ _, .inl ⟨rfl, _, .inl (.inl hp1)⟩, _, rfl, _, rfl, cl, xs, rfl, .inl ⟨hcl1, fun t nt => ?_⟩⟩
    generalize h_H2 : upd H1 t _ = H2
    have k_H2 : Kp H1 H2 := by rw [← h_H2]; exact .new nt
    have q_H2 := (congrFun h_H2 t).symm.trans upd_same
    clear h_H2
    refine ⟨Nat.le_of_lt (szt (by show 2 < 100000; decide)), fun u nu => ?_⟩
    generalize h_H3 : upd H2 u _ = H3
    have k_H3 : Kp H2 H3 := by rw [← h_H3]; exact .new nu
    have q_H3 := (congrFun h_H3 u).symm.trans upd_same
    clear h_H3
    have k13 := k_H2.trans k_H3
    have hp3 := k13.same _ _ rfl hp1
    have hl3 := k13.same _ _ rfl hl1
    have hS3 := hS1.kp k13
    refine ⟨a.p, _, _, rfl, rfl, hp3, szt (by omega), ?_⟩
    have D3 : DdsAt K H3 (pv ++ [.ref u]) (c.past ++ [(dd, hs)]) := (dp1.ts k13.ts).snoc ⟨hnl, hh, dv, .ref t, xs, ⟨u, rfl, .inl (.inl q_H3)⟩, k13.dp hdv1, ⟨t, rfl, .inl (.inl (k_H3.same _ _ rfl q_H2))⟩, hch1.ts k13.ts⟩
    have ap1 : ∀ k ∈ keysOf (c.apps hs).n, a.ad k ≠ a.p := fun k hk => by
      rw [apps_n] at hk
      exact (hL.ap k hk).1
    have neS := hL.neS
    have npL : a.p ≠ L := fun z => by
      rw [z, hl] at hp0
      cases hp0
    have hS4 := hS3.putL (o := .lst (pv ++ [.ref u])) hp3 ap1
    have D4 := D3.ts (.upd (o := .lst (pv ++ [.ref u])) hp3 trivial)
    have e34 : KpE (footL L a c.n) H3 (upd H3 a.p (.lst (pv ++ [.ref u]))) := KpE.put hp3 rfl (by unfold footL; simp)
    generalize hH4 : upd H3 a.p (.lst (pv ++ [.ref u])) = H4 at hS4 D4 e34
    have hp4 : H4 a.p = some (.lst (pv ++ [.ref u])) := by rw [← hH4]; exact upd_same
    have hl4 : H4 L = some (.ins (He.ga K "Line") dx (fldL a.s a.p a.f)) := by rw [← hH4, upd_ne npL.symm]; exact hl3
    refine ⟨Nat.zero_le _, fun f nf => ?_⟩
    generalize h_H5 : upd H4 f _ = H5
    have k_H5 : Kp H4 H5 := by rw [← h_H5]; exact .new nf
    have q_H5 := (congrFun h_H5 f).symm.trans upd_same
    clear h_H5
    have hl5 := k_H5.same _ _ rfl hl4
    have hS5 := hS4.kp k_H5
    have D5 := D4.ts k_H5.ts
    refine ⟨_, rfl, L, _, dx, _, rfl, hl5, T.cl_Line, T.n_Line_future, fldL_len _ _ _, ?_⟩
    rw [fldL_set]
    have hS6 := hS5.putI (o := .ins (He.ga K "Line") dx (fldL a.s a.p f)) hl5 neS.1 neS.2
    have D6 := D5.ts (.upd (o := .ins (He.ga K "Line") dx (fldL a.s a.p f)) hl5 trivial)
    have e56 : KpE (footL L a c.n) H5 (upd H5 L (.ins (He.ga K "Line") dx (fldL a.s a.p f))) := KpE.put hl5 rfl (by unfold footL; simp)
    have e16 := ((KpE.of (S := footL L a c.n) k13).trans e34).trans ((KpE.of k_H5).trans e56)
    have nfL : f ≠ L := fun z => by
      rw [z, hl4] at nf
      cases nf
    have nf0 : H f = none := e1.free _ (k13.free _ (e34.free _ nf))
    refine q hf (a.futA f) _ ⟨(e1.mono sub).trans e16, fun b hb => (foot_fut hb).elim (fun z => .inr (by rw [z]; exact nf0)) .inl, rfl, ⟨⟨dx, upd_same⟩, ⟨hS6.ob, ?_, ?_, hS6.book, hS6.good⟩, ⟨_, ?_, D6⟩, ⟨[], ?_, trivial⟩, fun y hy => ?_, ?_⟩⟩
    · have := hS6.rows
      rw [apps_n] at this
      exact this
    · have := hS6.cont
      rw [apps_n] at this
      exact this
    · show upd H5 L _ a.p = _
      rw [upd_ne npL]
      exact k_H5.same _ _ rfl hp4
    · show upd H5 L _ f = _
      rw [upd_ne nfL]
      exact q_H5
    · obtain ⟨vs, h1, _⟩ := hS4.cont.at_ y (by rw [apps_n]; exact hy)
      exact ⟨(hL.ap y hy).1, fun z => (by rw [show a.ad y = f from z, nf] at h1; cases h1)⟩
    · intro z
      rw [show a.p = f from z, nf] at hp4
      cases hp4
/-! ### a line by what it is -/
structure PS where
  n : Nat
  up : Bool
  arms : List Int
  sl : List Bool
  fg : List Bool
  q : Bool → List Int
  bk : Bool → Nat → List (Int × Bool)
def rowD (r : Int × Bool) : PyData := .tuple [.int r.1, .bool r.2]
def PS.row (s : PS) : RK → List PyData
  | .way => [.str (wayN s.up)]
  | .arms => s.arms.map .int
  | .sleep => s.sl.map .bool
  | .fog => s.fg.map .bool
  | .q u => (s.q u).map .int
  | .b u m => (s.bk u m).map rowD
structure PS.Ok (s : PS) : Prop where
  lo : 2 ≤ s.n
  hi : s.n ≤ 12
  arms : s.arms.length = s.n
  sl : s.sl.length = s.n
  fg : s.fg.length + 1 = s.n
  q : ∀ u, (s.q u).length ≤ 60
def newP (n : Nat) : PS := ⟨n, true, List.replicate n 0, List.replicate n false, List.replicate (n - 1) false, fun _ => [], fun _ _ => []⟩
theorem newP_row (n : Nat) : (newP n).row = newRow n := by
  funext k
  cases k <;> simp [PS.row, newP, newRow, wayN]
theorem newP_ok {n : Nat} (h1 : 2 ≤ n) (h2 : n ≤ 12) : (newP n).Ok := ⟨h1, h2, by simp [newP], by simp [newP], by simp [newP]; omega, fun _ => by simp [newP]⟩
structure LS where
  a : LA
  s : PS
  ws : List Tri
  past : List Dd
  fut : List Dd
def LS.c (x : LS) : LC := ⟨x.s.n, x.s.row, x.ws, x.past, x.fut⟩
def LS.foot (x : LS) (L : Addr) : List Addr := footL L x.a x.s.n
structure LineP (P : Program) (w : World) (K : PySem.W.Frag) (H : Hp) (L : Addr) (x : LS) : Prop where
  at_ : LineAt P w K H L x.a x.c
  ok : x.s.Ok
theorem LineP.kp {P : Program} {w : World} {K : PySem.W.Frag} {H H' : Hp} {L : Addr} {x : LS} (l : LineP P w K H L x) (k : Kp H H') : LineP P w K H' L x := ⟨l.at_.kp k, l.ok⟩
/-- behind a deed -/
structure Went (P : Program) (w : World) (K : PySem.W.Frag) (H H' : Hp) (L : Addr) (x x' : LS) : Prop where
  e : KpE (x.foot L) H H'
  ft : ∀ b ∈ x'.foot L, b ∈ x.foot L ∨ H b = none
  nn : x'.s.n = x.s.n
  at_ : LineP P w K H' L x'
theorem Went.pre {P : Program} {w : World} {K : PySem.W.Frag} {G H H' : Hp} {L : Addr} {x x' : LS} (k : Kp G H) (g : Went P w K H H' L x x') : Went P w K G H' L x x' :=
  ⟨(KpE.of k).trans g.e, fun b hb => (g.ft b hb).imp id (k.free b), g.nn, g.at_⟩
theorem Went.post {P : Program} {w : World} {K : PySem.W.Frag} {G H H' : Hp} {L : Addr} {x x' : LS} (g : Went P w K G H L x x') (k : Kp H H') : Went P w K G H' L x x' :=
  ⟨g.e.trans (KpE.of k), g.ft, g.nn, g.at_.kp k⟩
theorem Went.of {P : Program} {w : World} {K : PySem.W.Frag} {H H' : Hp} {L : Addr} {x : LS} {a' : LA} {c' : LC} {s' : PS} {ws : List Tri} {past fut : List Dd} (g : Did P w K H H' L x.a x.s.n a' c') (e : c' = ⟨s'.n, s'.row, ws, past, fut⟩) (ok : s'.Ok) : Went P w K H H' L x ⟨a', s', ws, past, fut⟩ := by
  subst e
  have nn : s'.n = x.s.n := g.nn
  exact ⟨g.e, fun b hb => g.ft b (by rw [← nn]; exact hb), nn, ⟨g.at_, ok⟩⟩
/-- one row changes: how the deed leaves the line -/
theorem did_row {x : LS} {s' : PS} {dd : PyData} {k : RK} {i : Nat} {tk ds : List PyData} (hn : s'.n = x.s.n) (h : ∀ y, s'.row y = if y = k then (x.s.row k).take i ++ ds ++ (x.s.row k).drop (i + tk.length) else x.s.row y) :
    x.c.did dd [.row k i tk ds] = ⟨s'.n, s'.row, x.ws, x.past ++ [(dd, [.row k i tk ds])], []⟩ := by
  have e : s'.row = fun y => if y = k then (x.s.row k).take i ++ ds ++ (x.s.row k).drop (i + tk.length) else x.s.row y := funext h
  rw [e, hn]
  rfl
theorem SqL.not_foot {P : Program} {w : World} {K : PySem.W.Frag} {H : Hp} {L : Addr} {a : LA} {c : LC} (l : LineAt P w K H L a c) {b : Addr} (h : H b = none) : b ∉ footL L a c.n := fun m => l.alloc b m h
def wayU (w : Str) : Bool := decide (w = "up")
theorem wayU_N {w : Str} (h : isWay w = true) : wayN (wayU w) = w := by
  rcases isWay_iff.mp h with rfl | rfl
  · rfl
  · rfl
theorem wayN_is (u : Bool) : isWay (wayN u) = true := isWay_iff.mpr (by cases u; exact .inr rfl; exact .inl rfl)
theorem wayU_of (u : Bool) : wayU (wayN u) = u := by cases u <;> decide +kernel
/-! #### the looks at what waits -/
def sp_p_State_queue_on (P : Program) (w : World) (K : PySem.W.Frag) : Sp := fun vs H Q E => ∃ (a : LA) (c : LC) (wy : Str) (qs : Bool → List Int), vs = [.ref a.s, .str wy] ∧ StateAt P w K H a c ∧ (∀ u, c.row (.q u) = (qs u).map PyData.int) ∧
  (isWay wy = true → ∀ (r : Addr) (H' : Hp), H r = none → Kp H H' → H' r = some (.lst ((qs (wayU wy)).map V.int)) → Q (.ref r) H') ∧ (isWay wy = false → ∀ H', Kp H H' → E (.ref (He.ga K "BadWay")) none H')
theorem ok_p_State_queue_on (T : Txt K mg) : FnOk P w K mg base (L2.CX P w) 3 T.f_p_State_queue_on T.d_p_State_queue_on ["self", "way"] (sp_p_State_queue_on P w K) := by
  refine T.F_p_State_queue_on.okX sc_p_State_queue_on (fun vs H Q E h => ?_) (fun cdv A outer s H vs Q E hr h => ?_)
  · obtain ⟨a, c, wy, qs, rfl, _⟩ := h
    rfl
  · obtain ⟨a, c, wy, qs, rfl, hS, hq, k, kE⟩ := h
    have hu := hu_of hr
    refine ⟨_, (pss_cons (ps_expr (pe_call (ok_p_check_way T) (hr.mono (by decide)) rfl T.g_p_check_way T.F_p_check_way.kp T.b_p_check_way .nil (passes_call (takes_of rfl rfl rfl rfl) (fun _ _ _ _ z => z)) (pa_cons (pv 1) pa_nil)))
      (pss_one (ps_ret (pe_callTy call_list_of (by rfl) T.m_list (by decide +kernel) (pa_cons (pe_mgetK P w rfl rfl hu (pe_fld (pv 0) rfl) (pe_call (ok_p_queue_of T) (hr.mono (by decide)) rfl T.g_p_queue_of T.F_p_queue_of.kp T.b_p_queue_of .nil pass0 (pa_cons (pv 1) pa_nil)) (fun _ _ => rfl)) pa_nil))))), ?_⟩
    refine ⟨_, rfl, wy, rfl, fun c1 H1 k1 => ?_, fun c1 H1 k1 => kE c1 H1 k1⟩
    have hS1 := hS.kp k1
    obtain ⟨dx, hs⟩ := hS1.ob
    refine ⟨_, rfl, a.s, _, dx, _, _, rfl, hs, T.cl_State, T.n_State_rows, fldS_rows _ _, _, rfl, wy, rfl, fun t H2 nt k2 ht => ?_⟩
    have hS2 := hS1.kp k2
    obtain ⟨kvs, m1, m2, ky, m3⟩ := hS2.get (key_q c.n (wayU wy))
    obtain ⟨vs, h1, h2⟩ := hS2.cont.at_ (.q (wayU wy)) (key_q c.n (wayU wy))
    rw [hq] at h2
    have ev := dpAll_ints h2
    subst ev
    refine ⟨a.R, kvs, (RK.q (wayU wy)).mk, _, rfl, m1, m2, ⟨t, rfl, ?_⟩, ⟨ky, m3⟩, a.ad (.q (wayU wy)), _, rfl, .inl (SqL.of h1), fun r nr => k c1 r _ (k1.free _ (k2.free _ nr)) ((k1.trans k2).trans (.new nr)) upd_same⟩
    rw [ht]
    show some (HO.tup [V.str "queue", V.str wy]) = some (HO.tup [V.str "queue", V.str (wayN (wayU wy))])
    rw [wayU_N c1]
def sp_p_Line_waiting (P : Program) (w : World) (K : PySem.W.Frag) : Sp := fun vs H Q E => ∃ (L : Addr) (x : LS) (wy : Str), vs = [.ref L, .str wy] ∧ LineP P w K H L x ∧
  (isWay wy = true → ∀ (r : Addr) (H' : Hp), H r = none → Kp H H' → H' r = some (.lst ((x.s.q (wayU wy)).map V.int)) → Q (.ref r) H') ∧ (isWay wy = false → ∀ H', Kp H H' → E (.ref (He.ga K "BadWay")) none H')
theorem ok_p_Line_waiting (T : Txt K mg) : FnOk P w K mg base (L2.CX P w) 4 T.f_p_Line_waiting T.d_p_Line_waiting ["self", "way"] (sp_p_Line_waiting P w K) := by
  refine T.F_p_Line_waiting.okX sc_p_Line_waiting (fun vs H Q E h => ?_) (fun cdv A outer s H vs Q E hr h => ?_)
  · obtain ⟨L, x, wy, rfl, _⟩ := h
    rfl
  · obtain ⟨L, x, wy, rfl, hL, k, kE⟩ := h
    refine ⟨_, (pss_one (ps_ret (pe_meth (pe_fld (pv 0) rfl) T.cl_State T.M_p_State_queue_on (ok_p_State_queue_on T) (hr.mono (by decide)) T.b_p_State_queue_on .nil (passes_call (takes_of rfl rfl rfl rfl) (fun _ _ _ _ z => z)) (pa_cons (pv 1) pa_nil)))), ?_⟩
    obtain ⟨dx, hl⟩ := hL.at_.ob
    obtain ⟨dxs, hs⟩ := hL.at_.st.ob
    exact ⟨_, rfl, L, _, dx, _, _, rfl, hl, T.cl_Line, T.n_Line_state, fldL_state _ _ _, x.a.s, dxs, _, rfl, hs, fldS_no _ _ (by decide +kernel) (by decide +kernel), _, rfl, x.a, x.c, wy, x.s.q, rfl, hL.at_.st, fun _ => rfl, k, kE⟩
theorem at_1 {a b : V} {r : List V} : atI (a :: b :: r) 1 = some b := atI_nat (j := 1) rfl
theorem at_0 {a : V} {r : List V} : atI (a :: r) 0 = some a := atI_nat (j := 0) rfl
/-! #### signs that wait -/
def PS.setq (s : PS) (u : Bool) (xs : List Int) : PS := { s with q := fun v => if v = u then xs else s.q v }
theorem setq_row (s : PS) (u : Bool) (xs : List Int) (y : RK) : (s.setq u xs).row y = if y = .q u then xs.map PyData.int else s.row y := by
  cases y with
  | q v =>
    show (if v = u then xs else s.q v).map PyData.int = _
    by_cases z : v = u
    · rw [if_pos z, if_pos (by rw [z])]
    · rw [if_neg z, if_neg (fun e => z (by injection e))]
      rfl
  | _ => rw [if_neg (by intro z; cases z)]; rfl
theorem setq_ok {s : PS} (o : s.Ok) {u : Bool} {xs : List Int} (h : xs.length ≤ 60) : (s.setq u xs).Ok := ⟨o.lo, o.hi, o.arms, o.sl, o.fg, fun v => by
  show (if v = u then xs else s.q v).length ≤ 60
  by_cases z : v = u
  · rw [if_pos z]; exact h
  · rw [if_neg z]; exact o.q v⟩
/-- signs put among those that wait -/
def insQ (s : PS) (u : Bool) (i : Nat) (ns : List Int) : PS := s.setq u ((s.q u).take i ++ ns ++ (s.q u).drop i)
def sp_p_Line_let_wait (T : Txt K mg) (P : Program) (w : World) : Sp := fun vs H Q E => ∃ (L : Addr) (x : LS) (D : Addr) (nm wy : Str) (more : List V) (dd : PyData) (i : Nat) (sg : Addr) (ns : List Int), vs = [.ref L, .ref D, .int (i : Int), .ref sg] ∧ LineP P w K H L x ∧ SqT K H D (.str nm :: .str wy :: more) ∧ Dp K H (.ref D) dd ∧ Nl dd ∧ isWay wy = true ∧
  SqL K H sg (ns.map V.int) ∧ sg ∉ x.foot L ∧ ns.length ≤ 1000 ∧ i ≤ (x.s.q (wayU wy)).length ∧ x.past.length < 9000 ∧ GxR.TabG H T.P_tab ∧
  (60 < (x.s.q (wayU wy)).length + ns.length → ∀ H', Kp H H' → E (.ref (He.ga K "Full")) none H') ∧
  (¬ 60 < (x.s.q (wayU wy)).length + ns.length → ns = [] → ∀ H', Kp H H' → Q .non H') ∧
  (¬ 60 < (x.s.q (wayU wy)).length + ns.length → ns ≠ [] → ∀ a' H', Went P w K H H' L x ⟨a', insQ x.s (wayU wy) i ns, x.ws, x.past ++ [(dd, [.row (.q (wayU wy)) i [] (ns.map .int)])], []⟩ → Q .non H')
theorem ok_p_Line_let_wait (T : Txt K mg) (TB : GxR.TabB base mg T.c_tab T.P_tab) : FnOk P w K mg base (L2.CX P w) 10 T.f_p_Line_let_wait T.d_p_Line_let_wait ["self", "deed", "at", "signs"] (sp_p_Line_let_wait T P w) := by
  refine T.F_p_Line_let_wait.okX sc_p_Line_let_wait (fun vs H Q E h => ?_) (fun cdv A outer s H vs Q E hr h => ?_)
  · obtain ⟨L, x, D, nm, wy, more, dd, i, sg, ns, rfl, _⟩ := h
    rfl
  · obtain ⟨L, x, D, nm, wy, more, dd, i, sg, ns, rfl, hL, hD, hdd, hnl, hw, hsg, nsg, hnl2, hi, hp, hT, kF, kN, k⟩ := h
    refine ⟨_, (pss_cons (ps_set (i := 4) sc_p_Line_let_wait.nd rfl (by first | exact Or.inl rfl | exact Or.inr rfl) (pe_ix ix_tup (pv 1) pe_int (fun _ _ => rfl)))
      (pss_cons (ps_if (pt_cmpR op_gt (pe_op op_add (pe_callB call_len_seq (by rfl) T.m_len PySem.boot_len (pa_cons (pe_meth (pv 0) T.cl_Line T.M_p_Line_waiting (ok_p_Line_waiting T) (hr.mono (by decide)) T.b_p_Line_waiting .nil (passes_call (takes_of rfl rfl rfl rfl) (fun _ _ _ _ z => z)) (pa_cons (pv 4) pa_nil)) pa_nil)) (pe_callB call_len_seq (by rfl) T.m_len PySem.boot_len (pa_cons (pv 3) pa_nil))) (pe_glob rfl T.c_MOST_WAITING T.r_MOST_WAITING) (nomark _))
      (pss_one (ps_raise rfl (takes_of rfl rfl rfl rfl) (pmk_own PySem.F.excBase_ValueError T.x_Full T.g_Full T.k_Full (raises_own T.b_Full T.t_Full) rfl)))
      pss_nil)
      (pss_one (ps_if (pt_truth (pv 3) (by intro _; rfl))
      (pss_one (ps_expr (pe_meth (pv 0) T.cl_Line T.M_p_Line_do (ok_p_Line_do T TB) (hr.mono (by decide)) T.b_p_Line_do .nil (passes_call (takes_of rfl rfl rfl rfl) (fun _ _ _ _ z => z)) (pa_cons (pv 1) (pa_cons (pe_lst (pa_cons (pe_tup (pa_cons (pe_call (ok_p_queue_of T) (hr.mono (by decide)) rfl T.g_p_queue_of T.F_p_queue_of.kp T.b_p_queue_of .nil pass0 (pa_cons (pv 4) pa_nil)) (pa_cons (pv 2) (pa_cons (pe_tup pa_nil) (pa_cons (pe_callTy call_tuple_of (by rfl) T.m_tuple (by decide +kernel) (pa_cons (pv 3) pa_nil)) pa_nil))))) pa_nil)) pa_nil)))))
      pss_nil)))), ?_⟩
    obtain ⟨dx, hl⟩ := hL.at_.ob
    refine ⟨_, rfl, D, _, _, _, rfl, rfl, hD, at_1, ?_⟩
    refine ⟨_, rfl, L, dx, _, rfl, hl, fldL_no _ _ _ (by decide +kernel) (by decide +kernel) (by decide +kernel), _, rfl, L, x, wy, rfl, hL, fun _ r H1 nr k1 hr1 => ?_, fun c => by rw [hw] at c; cases c⟩
    have hsg1 := k1.sqL hsg
    have hl1 := k1.same _ _ rfl hl
    have hL1 := hL.kp k1
    have el : (((x.s.q (wayU wy)).map V.int).length : Int) = ((x.s.q (wayU wy)).length : Int) := by rw [List.length_map]
    have en : ((ns.map V.int).length : Int) = (ns.length : Int) := by rw [List.length_map]
    refine ⟨r, _, rfl, .inl (SqL.of hr1), _, rfl, sg, _, rfl, .inl hsg1, _, _, rfl, rfl, _, _, rfl, rfl, _, rfl, iteD (fun c => ?_) (fun c => ?_)⟩
    · rw [el, en] at c
      exact kF (by omega) H1 k1
    rw [el, en] at c
    have c60 : ¬ 60 < (x.s.q (wayU wy)).length + ns.length := by omega
    refine ⟨_, rfl, !(ns.map V.int).isEmpty, .inl ⟨_, hsg1, rfl⟩, ?_⟩
    by_cases en0 : ns = []
    · rw [en0]
      exact iteFo rfl (kN c60 en0 H1 k1)
    have ne : (!(ns.map V.int).isEmpty) = true := by
      cases ns with
      | nil => exact absurd rfl en0
      | cons => rfl
    refine iteTo ne ?_
    refine ⟨_, rfl, L, dx, _, rfl, hl1, fldL_no _ _ _ (by decide +kernel) (by decide +kernel) (by decide +kernel), _, rfl, _, rfl, wy, rfl, fun t H2 nt k2 ht => ?_⟩
    refine ⟨_, rfl, Nat.zero_le _, fun e0 ne0 => ?_⟩
    generalize h_H3 : upd H2 e0 _ = H3
    have k_H3 : Kp H2 H3 := by rw [← h_H3]; exact .new ne0
    have q_H3 := (congrFun h_H3 e0).symm.trans upd_same
    clear h_H3
    refine ⟨_, rfl, sg, _, rfl, .inl ⟨(k2.trans k_H3).sqL hsg1, fun tu ntu => ?_⟩⟩
    generalize h_H4 : upd H3 tu _ = H4
    have k_H4 : Kp H3 H4 := by rw [← h_H4]; exact .new ntu
    have q_H4 := (congrFun h_H4 tu).symm.trans upd_same
    clear h_H4
    refine ⟨szl (by show 4 ≤ 100000; decide), fun t4 nt4 => ?_⟩
    generalize h_H5 : upd H4 t4 _ = H5
    have k_H5 : Kp H4 H5 := by rw [← h_H5]; exact .new nt4
    have q_H5 := (congrFun h_H5 t4).symm.trans upd_same
    clear h_H5
    refine ⟨szl (by show 1 ≤ 100000; decide), fun cl ncl => ?_⟩
    generalize h_H6 : upd H5 cl _ = H6
    have k_H6 : Kp H5 H6 := by rw [← h_H6]; exact .new ncl
    have q_H6 := (congrFun h_H6 cl).symm.trans upd_same
    clear h_H6
    have k16 := (((k2.trans k_H3).trans k_H4).trans k_H5).trans k_H6
    have kA := k1.trans k16
    have hL6 := hL.kp kA
    have k36 := (k_H4.trans k_H5).trans k_H6
    have row : Ch := .row (.q (wayU wy)) i [] (ns.map .int)
    have hch : ChsAt K H6 [.ref t4] [.row (.q (wayU wy)) i [] (ns.map .int)] := by
      refine ⟨⟨⟨by simp, fun d hd => ?_⟩, .ref t, .int (i : Int), .ref e0, .ref tu, ⟨t4, rfl, .inl (.inl (k_H6.same _ _ rfl q_H5))⟩, ⟨t, rfl, ?_⟩, rfl, ⟨[], ⟨e0, rfl, .inl (.inl (k36.same _ _ rfl q_H3))⟩, .nil⟩, _, ⟨tu, rfl, .inl (.inl ((k_H5.trans k_H6).same _ _ rfl q_H4))⟩, dp_ints ns⟩, trivial⟩
      · obtain ⟨z, _, rfl⟩ := List.mem_map.mp hd
        exact .int z
      · rw [(k_H3.trans k36).same _ _ rfl ht]
        show some (HO.tup [V.str "queue", V.str wy]) = some (HO.tup [V.str "queue", V.str (wayN (wayU wy))])
        rw [wayU_N hw]
    have fcl : cl ∉ footL L x.a x.s.n := SqL.not_foot (hL.kp (k1.trans (((k2.trans k_H3).trans k_H4).trans k_H5))).at_ ncl
    have oq := hL.ok.q (wayU wy)
    have hfit : FitsC x.c [.row (.q (wayU wy)) i [] (ns.map .int)] := by
      refine ⟨⟨key_q _ _, ?_, ?_⟩, trivial⟩
      · show i + 0 ≤ ((x.s.q (wayU wy)).map PyData.int).length
        rw [List.length_map]
        omega
      · show ((x.s.q (wayU wy)).map PyData.int).length + (ns.map PyData.int).length ≤ 10000
        rw [List.length_map, List.length_map]
        omega
    refine ⟨L, x.a, x.c, .ref D, dd, cl, [.ref t4], [.row (.q (wayU wy)) i [] (ns.map .int)], rfl, hL6.at_, kA.dp hdd, hnl, .inl (.inl q_H6), fcl, hch, hp, (by show 1 < 9000; decide), kA.tab _ hT, fun _ a' H' g => ?_, fun nf => absurd hfit nf⟩
    refine k c60 en0 a' H' (Went.pre kA (Went.of g ?_ (setq_ok hL.ok ?_)))
    · refine did_row (s' := insQ x.s (wayU wy) i ns) rfl fun y => ?_
      rw [insQ, setq_row]
      by_cases z : y = .q (wayU wy)
      · rw [if_pos z, if_pos z]
        show _ = ((x.s.q (wayU wy)).map PyData.int).take i ++ ns.map PyData.int ++ ((x.s.q (wayU wy)).map PyData.int).drop (i + 0)
        rw [List.map_append, List.map_append, List.map_take, List.map_drop, Nat.add_zero]
      · rw [if_neg z, if_neg z]
    · rw [List.length_append, List.length_append, List.length_take, List.length_drop]
      omega
/-! ### a list of one's own changes, beside a line -/
theorem KpE.mut {S : List Addr} {H H' : Hp} {p : Addr} {o : HO} (e : KpE S H H') (h : H p = none) : KpE S H (upd H' p o) := by
  refine ⟨fun a u t n ha => ?_, fun a ⟨ps, ha, ht⟩ => ?_, fun a ha => ?_⟩
  · rw [upd_ne (ne_of_none ha h)]
    exact e.same a u t n ha
  · obtain ⟨ps', h1, h2⟩ := e.tab a ⟨ps, ha, ht⟩
    exact ⟨ps', by rw [upd_ne (ne_of_none ha h)]; exact h1, h2⟩
  · by_cases q : a = p
    · rw [q]
      exact h
    · rw [upd_ne q] at ha
      exact e.free a ha
theorem LineP.putL {P : Program} {w : World} {K : PySem.W.Frag} {H : Hp} {L : Addr} {x : LS} (l : LineP P w K H L x) {y : Addr} {vs : List V} {o : HO} (hy : H y = some (.lst vs)) (n : y ∉ x.foot L) : LineP P w K (upd H y o) L x := by
  have nS : ∀ {u : HO} {z : Addr}, H z = some u → (∀ g, u ≠ .lst g) → z ∉ [y] := fun {u z} hz hu m => by
    rw [List.mem_singleton.mp m, hy] at hz
    cases hz
    exact hu _ rfl
  obtain ⟨dx, h1⟩ := l.at_.st.ob
  obtain ⟨ky, h2, _⟩ := l.at_.st.rows.ob
  obtain ⟨dx2, h3⟩ := l.at_.st.book.ob
  exact ⟨l.at_.kpE (KpE.put hy rfl List.mem_cons_self) (loose1 hy trivial) (fun b hb m => n (by rw [← List.mem_singleton.mp m]; exact hb)) (nS h1 (by intro g z; cases z)) (nS h2 (by intro g z; cases z)) (nS h3 (by intro g z; cases z)), l.ok⟩
theorem Went.putL {P : Program} {w : World} {K : PySem.W.Frag} {G H : Hp} {L : Addr} {x x' : LS} (g : Went P w K G H L x x') {y : Addr} {vs : List V} {o : HO} (hy : H y = some (.lst vs)) (n : y ∉ x'.foot L) (f : G y = none) : Went P w K G (upd H y o) L x x' :=
  ⟨g.e.mut f, g.ft, g.nn, g.at_.putL hy n⟩
theorem Went.off {P : Program} {w : World} {K : PySem.W.Frag} {G H : Hp} {L : Addr} {x x' : LS} (g : Went P w K G H L x x') {y : Addr} (h : G y ≠ none) (n : y ∉ x.foot L) : y ∉ x'.foot L := fun m => (g.ft y m).elim n h
theorem Went.tup {P : Program} {w : World} {K : PySem.W.Frag} {G H : Hp} {L : Addr} {x x' : LS} (g : Went P w K G H L x x') (l : LineP P w K G L x) {y : Addr} {vs : List V} (h : G y = some (.tup vs)) : H y = some (.tup vs) := g.e.same _ _ rfl (fun m => l.at_.loose y m _ h) h
theorem LineP.foot_none {P : Program} {w : World} {K : PySem.W.Frag} {H : Hp} {L : Addr} {x : LS} (l : LineP P w K H L x) {b : Addr} (h : H b = none) : b ∉ x.foot L := fun m => l.at_.alloc b m h
/-- objects that are no part of a line may change -/
theorem LineP.kpX {P : Program} {w : World} {K : PySem.W.Frag} {X : List Addr} {H H' : Hp} {L : Addr} {x : LS} (l : LineP P w K H L x) (e : KpE X H H') (ob : ∀ b ∈ X, (∃ g, H b = some (.lst g)) ∨ (∃ g, H b = some (.dK g)) ∨ (∃ g, H b = some (.dT g)) ∨ H b = none) (dj : ∀ b ∈ X, b ∉ x.foot L) : LineP P w K H' L x := by
  have lo : ∀ b ∈ X, ∀ u, H b = some u → Loose u := fun b hb u hu => by
    rcases ob b hb with ⟨g, h⟩ | ⟨g, h⟩ | ⟨g, h⟩ | h <;> rw [h] at hu <;> cases hu <;> trivial
  have nO : ∀ {z : Addr} {u : HO}, H z = some u → (∀ g, u ≠ .lst g) → (∀ g, u ≠ .dK g) → (∀ g, u ≠ .dT g) → z ∉ X := fun {z u} hz h1 h2 h3 m => by
    rcases ob z m with ⟨g, h⟩ | ⟨g, h⟩ | ⟨g, h⟩ | h
    · rw [h] at hz; exact h1 g (Option.some.inj hz).symm
    · rw [h] at hz; exact h2 g (Option.some.inj hz).symm
    · rw [h] at hz; exact h3 g (Option.some.inj hz).symm
    · rw [h] at hz; cases hz
  obtain ⟨dx, h1⟩ := l.at_.st.ob
  obtain ⟨ky, h2, _⟩ := l.at_.st.rows.ob
  obtain ⟨dx2, h3⟩ := l.at_.st.book.ob
  exact ⟨l.at_.kpE e lo (fun b hb m => dj b m hb) (nO h1 (by intro g z; cases z) (by intro g z; cases z) (by intro g z; cases z)) (nO h2 (by intro g z; cases z) (by intro g z; cases z) (by intro g z; cases z)) (nO h3 (by intro g z; cases z) (by intro g z; cases z) (by intro g z; cases z)), l.ok⟩
/-- a new line -/
def newL (a : LA) (n : Nat) : LS := ⟨a, newP n, [], [], []⟩
theorem new_line {P : Program} {w : World} {K : PySem.W.Frag} {H : Hp} {L : Addr} {a : LA} {n : Nat} (h : LineAt P w K H L a (newC n)) (h1 : 2 ≤ n) (h2 : n ≤ 12) : LineP P w K H L (newL a n) :=
  ⟨by
    have e : (newL a n).c = newC n := by
      show (⟨n, (newP n).row, [], [], []⟩ : LC) = ⟨n, newRow n, [], [], []⟩
      rw [newP_row]
    rw [e]
    exact h, newP_ok h1 h2⟩
/-- what a deed of signs answers -/
def sendV (s : PS) (wy : Str) (ns : List Int) : Option Str := if isWay wy = false then some "BadWay" else if ns.all isSg = false then some "BadSign" else if 60 < (s.q (wayU wy)).length + ns.length then some "Full" else none
def deedS (nm wy : Str) (ns : List Int) : PyData := .tuple (.str nm :: .str wy :: ns.map .int)
theorem deedS_nl (nm wy : Str) (ns : List Int) : Nl (deedS nm wy ns) := .tup fun d hd => by
  rcases List.mem_cons.mp hd with rfl | hd
  · exact .str _
  rcases List.mem_cons.mp hd with rfl | hd
  · exact .str _
  obtain ⟨z, _, rfl⟩ := List.mem_map.mp hd
  exact .int z
/-- behind signs that are sent or put ahead at place i -/
def sentL (x : LS) (a' : LA) (nm wy : Str) (i : Nat) (ns : List Int) : LS := ⟨a', insQ x.s (wayU wy) i ns, x.ws, x.past ++ [(deedS nm wy ns, [.row (.q (wayU wy)) i [] (ns.map .int)])], []⟩
def sp_sends (nm : Str) (ahead : Bool) (T : Txt K mg) (P : Program) (w : World) : Sp := fun vs H Q E => ∃ (L : Addr) (x : LS) (wy : Str) (sg : Addr) (ns : List Int), vs = [.ref L, .str wy, .ref sg] ∧ LineP P w K H L x ∧ SqL K H sg (ns.map V.int) ∧ sg ∉ x.foot L ∧ ns.length ≤ 1000 ∧ x.past.length < 9000 ∧ GxR.TabG H T.P_tab ∧ GxR.TabG H T.P_tabS ∧
  (∀ e, sendV x.s wy ns = some e → ∀ H', Kp H H' → E (.ref (He.ga K e)) none H') ∧
  (sendV x.s wy ns = none → ns = [] → ∀ H', Kp H H' → Q .non H') ∧
  (sendV x.s wy ns = none → ns ≠ [] → ∀ a' H', Went P w K H H' L x (sentL x a' nm wy (if ahead = true then 0 else (x.s.q (wayU wy)).length) ns) → Q .non H')
theorem ok_p_Line_send (T : Txt K mg) (TB : GxR.TabB base mg T.c_tab T.P_tab) (TBS : GxR.TabB base mg T.c_tabS T.P_tabS) : FnOk P w K mg base (L2.CX P w) 11 T.f_p_Line_send T.d_p_Line_send ["self", "way", "signs"] (sp_sends "send" false T P w) := by
  refine T.F_p_Line_send.okX sc_p_Line_send (fun vs H Q E h => ?_) (fun cdv A outer s H vs Q E hr h => ?_)
  · obtain ⟨L, x, wy, sg, ns, rfl, _⟩ := h
    rfl
  · obtain ⟨L, x, wy, sg, ns, rfl, hL, hsg, nsg, hnl, hp, hT, hTS, kE, kN, k⟩ := h
    refine ⟨_, (pss_cons (ps_set (i := 3) sc_p_Line_send.nd rfl (by first | exact Or.inl rfl | exact Or.inr rfl) (pe_callB call_len_seq (by rfl) T.m_len PySem.boot_len (pa_cons (pe_meth (pv 0) T.cl_Line T.M_p_Line_waiting (ok_p_Line_waiting T) (hr.mono (by decide)) T.b_p_Line_waiting .nil (passes_call (takes_of rfl rfl rfl rfl) (fun _ _ _ _ z => z)) (pa_cons (pv 1) pa_nil)) pa_nil)))
      (pss_cons (ps_expr (pe_call (ok_p_check_signs T TBS) (hr.mono (by decide)) rfl T.g_p_check_signs T.F_p_check_signs.kp T.b_p_check_signs .nil (passes_call (takes_of rfl rfl rfl rfl) (fun _ _ _ _ z => z)) (pa_cons (pv 2) pa_nil)))
      (pss_one (ps_expr (pe_meth (pv 0) T.cl_Line T.M_p_Line_let_wait (ok_p_Line_let_wait T TB) (hr.mono (by decide)) T.b_p_Line_let_wait .nil (passes_call (takes_of rfl rfl rfl rfl) (fun _ _ _ _ z => z)) (pa_cons (pe_tup (pa_cons pe_str (pa_cons (pv 1) (StX.pa_star (pv 2) pa_nil)))) (pa_cons (pv 3) (pa_cons (pv 2) pa_nil)))))))), ?_⟩
    obtain ⟨dx, hl⟩ := hL.at_.ob
    refine ⟨_, rfl, L, dx, _, rfl, hl, fldL_no _ _ _ (by decide +kernel) (by decide +kernel) (by decide +kernel), _, rfl, L, x, wy, rfl, hL, fun hw r H1 nr k1 hr1 => ?_, fun c H1 k1 => kE "BadWay" (if_pos c) H1 k1⟩
    have v1 : sendV x.s wy ns = if ns.all isSg = false then some ("BadSign" : Str) else if 60 < (x.s.q (wayU wy)).length + ns.length then some ("Full" : Str) else none := if_neg (by rw [hw]; decide)
    refine ⟨r, _, rfl, .inl (SqL.of hr1), ?_⟩
    refine ⟨_, rfl, sg, ns, rfl, k1.sqL hsg, k1.tab _ hTS, fun ha H2 k2 => ?_, fun ha H2 k2 => kE "BadSign" (by rw [v1, if_pos ha]) H2 (k1.trans k2)⟩
    rw [if_neg (by rw [ha]; decide)] at v1
    have k12 := k1.trans k2
    have hL2 := hL.kp k12
    obtain ⟨dx2, hl2⟩ := hL2.at_.ob
    have hsg2 := k12.sqL hsg
    refine ⟨_, rfl, L, dx2, _, rfl, hl2, fldL_no _ _ _ (by decide +kernel) (by decide +kernel) (by decide +kernel), _, rfl, _, rfl, sg, _, rfl, .inr hsg2, szl (by show ((ns.map V.int ++ []).length + 1) + 1 ≤ 100000; rw [List.append_nil, List.length_map]; omega), fun D nD => ?_⟩
    generalize h_H3 : upd H2 D _ = H3
    have k_H3 : Kp H2 H3 := by rw [← h_H3]; exact .new nD
    have q_H3 := (congrFun h_H3 D).symm.trans upd_same
    clear h_H3
    rw [List.append_nil] at q_H3
    have k13 := k12.trans k_H3
    have el : (((x.s.q (wayU wy)).map V.int).length : Int) = ((x.s.q (wayU wy)).length : Int) := by rw [List.length_map]
    refine ⟨_, rfl, _, rfl, L, x, D, "send", wy, ns.map V.int, deedS "send" wy ns, (x.s.q (wayU wy)).length, sg, ns, (by rw [el]; rfl), hL.kp k13, .inl (.inl q_H3), .tup (.inl (.inl q_H3)) (.cons (.str _) (.cons (.str _) (dp_ints ns))), deedS_nl _ _ _, hw, k13.sqL hsg, nsg, hnl, Nat.le_refl _, hp, k13.tab _ hT, fun c H4 k4 => ?_, fun c e H4 k4 => ?_, fun c e a' H4 g => ?_⟩
    · rw [if_pos c] at v1
      exact kE "Full" v1 H4 (k13.trans k4)
    · rw [if_neg c] at v1
      exact kN v1 e H4 (k13.trans k4)
    · rw [if_neg c] at v1
      exact k v1 e a' H4 (Went.pre k13 g)
/-! #### signs put ahead -/
/-! #### the last one recalled -/
def deedR (wy : Str) : PyData := .tuple [.str "recall", .str wy]
def recalledL (x : LS) (a' : LA) (wy : Str) : LS := ⟨a', x.s.setq (wayU wy) (x.s.q (wayU wy)).dropLast, x.ws, x.past ++ [(deedR wy, [.row (.q (wayU wy)) ((x.s.q (wayU wy)).length - 1) [.int ((x.s.q (wayU wy)).getLast?.getD 0)] []])], []⟩
def sp_p_Line_recall (T : Txt K mg) (P : Program) (w : World) : Sp := fun vs H Q E => ∃ (L : Addr) (x : LS) (wy : Str), vs = [.ref L, .str wy] ∧ LineP P w K H L x ∧ x.past.length < 9000 ∧ GxR.TabG H T.P_tab ∧
  (isWay wy = false → ∀ H', Kp H H' → E (.ref (He.ga K "BadWay")) none H') ∧
  (isWay wy = true → x.s.q (wayU wy) = [] → ∀ H', Kp H H' → E (.ref (He.ga K "NothingWaits")) none H') ∧
  (isWay wy = true → x.s.q (wayU wy) ≠ [] → ∀ a' H', Went P w K H H' L x (recalledL x a' wy) → Q (.int ((x.s.q (wayU wy)).getLast?.getD 0)) H')
/-! ### places that a test picks -/
def fil (f : Nat → Bool) (n : Nat) : List Int := ((List.range n).filter f).map (fun (x : Nat) => (x : Int))
theorem fil_yes {f : Nat → Bool} {n : Nat} (h : f n = true) : fil f (n + 1) = fil f n ++ [(n : Int)] := by
  unfold fil
  rw [List.range_succ, List.filter_append, List.map_append]
  simp [h]
theorem fil_no {f : Nat → Bool} {n : Nat} (h : f n = false) : fil f (n + 1) = fil f n := by
  unfold fil
  rw [List.range_succ, List.filter_append, List.map_append]
  simp [h]
theorem fil_len (f : Nat → Bool) (n : Nat) : (fil f n).length ≤ n := by
  unfold fil
  rw [List.length_map]
  exact Nat.le_trans (List.length_filter_le _ _) (by rw [List.length_range]; exact Nat.le_refl _)
theorem fil_mem {f : Nat → Bool} {n : Nat} {x : Int} : x ∈ fil f n ↔ ∃ p : Nat, x = (p : Int) ∧ p < n ∧ f p = true := by
  unfold fil
  simp only [List.mem_map, List.mem_filter, List.mem_range]
  constructor
  · rintro ⟨p, ⟨h1, h2⟩, rfl⟩
    exact ⟨p, rfl, h1, h2⟩
  · rintro ⟨p, rfl, h1, h2⟩
    exact ⟨p, ⟨h1, h2⟩, rfl⟩
theorem filS (f : Nat → Bool) (n : Nat) : (fil f n).Pairwise (· < ·) := by
  unfold fil
  rw [List.pairwise_map]
  exact (List.pairwise_lt_range.filter _).imp fun h => by omega
/-! ### masts, gaps, sleepers, fogs of a state -/
def sp_p_State_check_mast (P : Program) (w : World) (K : PySem.W.Frag) (C : Addr) : Sp := fun vs H Q E => ∃ (a : LA) (c : LC) (m : Int), vs = [.ref a.s, .int m] ∧ StateAt P w K H a c ∧ (c.row .arms).length = c.n ∧ ((0 ≤ m ∧ m < (c.n : Int)) → Q .non H) ∧ (¬ (0 ≤ m ∧ m < (c.n : Int)) → E (.ref C) none H)
theorem ok_p_State_check_mast (T : Txt K mg) : FnOk P w K mg base (L2.CX P w) 3 T.f_p_State_check_mast T.d_p_State_check_mast ["self", "mast"] (sp_p_State_check_mast P w K T.a_NoMast) := by
  refine T.F_p_State_check_mast.okX sc_p_State_check_mast (fun vs H Q E h => ?_) (fun cdv A outer s H vs Q E hr h => ?_)
  · obtain ⟨a, c, m, rfl, _⟩ := h
    rfl
  · obtain ⟨a, c, m, rfl, hS, hl, k, kE⟩ := h
    refine ⟨_, (pss_one (ps_expr (pe_call (ok_p_check_mast T) (hr.mono (by decide)) rfl T.g_al_check_mast_ways T.F_p_check_mast.kp T.b_p_check_mast .nil (passes_call (takes_of rfl rfl rfl rfl) (fun _ _ _ _ z => z)) (pa_cons (pe_meth0 (pv 0) T.cl_State T.M_p_State_size (ok_p_State_size T) (hr.mono (by decide)) T.b_p_State_size .nil pass0) (pa_cons (pv 1) pa_nil))))), ?_⟩
    obtain ⟨dx, hs⟩ := hS.ob
    exact ⟨_, rfl, a.s, dx, _, rfl, hs, fldS_no _ _ (by decide +kernel) (by decide +kernel), a, c, rfl, hS, hl, _, rfl, _, _, rfl, fun c1 c2 => k ⟨c1, c2⟩, kE⟩
def sp_p_State_check_gap (P : Program) (w : World) (K : PySem.W.Frag) (C : Addr) : Sp := fun vs H Q E => ∃ (a : LA) (c : LC) (m : Int), vs = [.ref a.s, .int m] ∧ StateAt P w K H a c ∧ (c.row .arms).length = c.n ∧ ((0 ≤ m ∧ m < (c.n : Int) - 1) → Q .non H) ∧ (¬ (0 ≤ m ∧ m < (c.n : Int) - 1) → E (.ref C) none H)
theorem ok_p_State_check_gap (T : Txt K mg) : FnOk P w K mg base (L2.CX P w) 3 T.f_p_State_check_gap T.d_p_State_check_gap ["self", "gap"] (sp_p_State_check_gap P w K T.a_NoMast) := by
  refine T.F_p_State_check_gap.okX sc_p_State_check_gap (fun vs H Q E h => ?_) (fun cdv A outer s H vs Q E hr h => ?_)
  · obtain ⟨a, c, m, rfl, _⟩ := h
    rfl
  · obtain ⟨a, c, m, rfl, hS, hl, k, kE⟩ := h
    refine ⟨_, (pss_one (ps_expr (pe_call (ok_p_check_mast T) (hr.mono (by decide)) rfl T.g_al_check_mast_ways T.F_p_check_mast.kp T.b_p_check_mast .nil (passes_call (takes_of rfl rfl rfl rfl) (fun _ _ _ _ z => z)) (pa_cons (pe_op op_sub (pe_meth0 (pv 0) T.cl_State T.M_p_State_size (ok_p_State_size T) (hr.mono (by decide)) T.b_p_State_size .nil pass0) pe_int) (pa_cons (pv 1) pa_nil))))), ?_⟩
    obtain ⟨dx, hs⟩ := hS.ob
    exact ⟨_, rfl, a.s, dx, _, rfl, hs, fldS_no _ _ (by decide +kernel) (by decide +kernel), a, c, rfl, hS, hl, _, _, rfl, rfl, _, rfl, _, _, rfl, fun c1 c2 => k ⟨c1, c2⟩, kE⟩
/-- the places where it is so, rising -/
def marks (bs : List Bool) : List Int := fil (fun i => bs.getD i false) bs.length
theorem dp_bools {K : PySem.W.Frag} {H : Hp} : ∀ {bs : List Bool} {vs : List V}, DpAll K H vs (bs.map PyData.bool) → vs = bs.map V.bl
  | [], _, .nil => rfl
  | b :: r, _, .cons h t => by
    cases h
    rw [dp_bools t]
    rfl
def sp_p_State_marked (P : Program) (w : World) (K : PySem.W.Frag) : Sp := fun vs H Q _ => ∃ (a : LA) (c : LC) (k : RK) (x : Str) (bs : List Bool), vs = [.ref a.s, .str x] ∧ StateAt P w K H a c ∧ k ∈ keysOf c.n ∧ k.mk = .t x ∧ c.row k = bs.map PyData.bool ∧ bs.length ≤ 1000 ∧
  ∀ (r : Addr) (H' : Hp), H r = none → Kp H H' → H' r = some (.lst ((marks bs).map V.int)) → Q (.ref r) H'
theorem ok_p_State_marked (T : Txt K mg) : FnOk P w K mg base CX0 1 T.f_p_State_marked T.d_p_State_marked ["self", "where"] (sp_p_State_marked P w K) := by
  refine T.F_p_State_marked.ok sc_p_State_marked (fun vs H Q E h => ?_) (fun cdv A outer s H vs Q E hr h => ?_)
  · obtain ⟨a, c, k, x, bs, rfl, _⟩ := h
    rfl
  · obtain ⟨a, c, k, x, bs, rfl, hS, hk, hx, hrow, hbl, q⟩ := h
    have hu := hu_of hr
    refine ⟨_, (pss_one (ps_ret (pe_lc (own := [("number", 2), ("so", 3)]) (by rfl) sc_p_State_marked.nd (pi_enum (by rfl) T.m_enumerate (pa_cons (pe_mgetK P w rfl rfl hu (pe_fld (pv 0) rfl) (pv 1) (fun _ _ => rfl)) pa_nil)) (blkOk_by (own := [("number", 2), ("so", 3)]) (N := ["self", "where", "number", "so"]) (sc := defScope s_p_State_marked) (by decide +kernel)) (fun _ _ _ _ _ => (pgK K rfl (pg_tup (n := 2) rfl (pgs_cons (pg_name (i := 2) sc_p_State_marked.nd rfl (by first | exact Or.inl rfl | exact Or.inr rfl)) (pgs_cons (pg_name (i := 3) sc_p_State_marked.nd rfl (by first | exact Or.inl rfl | exact Or.inr rfl)) pgs_nil))))) (fun _ _ _ _ _ => (pts_one (pt_val (pv 3)))) (fun _ _ _ _ _ => (pv 2))))), ?_⟩
    obtain ⟨dx, hs⟩ := hS.ob
    obtain ⟨kvs, m1, m2, ky, m3⟩ := hS.get hk
    obtain ⟨vs, h1, h2⟩ := hS.cont.at_ k hk
    rw [hrow] at h2
    rw [dp_bools h2] at h1
    refine ⟨_, rfl, a.s, _, dx, _, _, rfl, hs, T.cl_State, T.n_State_rows, fldS_rows _ _, _, rfl, a.R, kvs, k.mk, _, rfl, m1, m2, (by rw [hx]; rfl), ⟨ky, m3⟩, a.ad k, _, rfl, .inl (.inl h1), fun D hD => ?_⟩
    refine lc_it (walk_enum (K := K) (a := a.ad k) (xs := bs.map V.bl)) (fun i H' => Kp H H' ∧ H' D = some (.lst ((fil (fun i => bs.getD i false) i).map V.int))) ⟨Kp.new hD, upd_same⟩ (fun i H' _ ⟨kp, _⟩ => kp.sqL (.inl (.inl h1))) ?_ ?_
    · rintro i v H' H'' hi ⟨kp, hDl⟩ ⟨t, i', v, rfl, nt, rfl, ei, ev⟩
      cases Option.some.inj ei
      rw [List.length_map] at hi
      have ev : (bs.map V.bl)[i]? = some v := ev
      rw [List.getElem?_map, List.getElem?_eq_getElem hi] at ev
      cases Option.some.inj ev
      generalize h_H2 : upd H' t _ = H2
      have k_H2 : Kp H' H2 := by rw [← h_H2]; exact .new nt
      have q_H2 := (congrFun h_H2 t).symm.trans upd_same
      clear h_H2
      have hD2 := k_H2.same _ _ rfl hDl
      have hfl := fil_len (fun i => bs.getD i false) i
      have eg : bs.getD i false = bs[i] := by
        rw [List.getD_eq_getElem?_getD, List.getElem?_eq_getElem hi]
        rfl
      refine ⟨t, _, rfl, .inl (.inl q_H2), rfl, _, _, rfl, _, _, rfl, rfl, rfl, ?_⟩
      refine ⟨_, rfl, bs[i], rfl, iteB (fun c => ?_) (fun c => ?_)⟩
      · refine ⟨_, rfl, _, hD2, szt (by rw [List.length_map]; omega), (kp.trans k_H2).mut hD, ?_⟩
        rw [upd_same, fil_yes (by rw [eg]; exact c), List.map_append]
        rfl
      · refine ⟨kp.trans k_H2, ?_⟩
        rw [fil_no (by rw [eg]; exact c)]
        exact hD2
    · rintro H' ⟨kp, hDl⟩
      rw [List.length_map] at hDl
      exact q D H' hD kp hDl
/-! ### looks at a line: way, masts, arms, sleepers, fogs; places -/
theorem inV_ints (m : Int) (xs : List Int) : inV (.int m) (xs.map V.int) = decide (m ∈ xs) := by
  induction xs with
  | nil => rfl
  | cons x xs ih =>
    show (eqV (.int x) (.int m) || inV (.int m) (xs.map V.int)) = _
    rw [ih]
    have e : eqV (.int x) (.int m) = decide (m = x) := by
      show (x == m) = _
      by_cases z : m = x
      · subst z
        simp
      · rw [decide_eq_false z]
        simpa using fun y => z y.symm
    rw [e, ← Bool.decide_or]
    exact decide_eq_decide.mpr (List.mem_cons).symm
theorem flat_intL (xs : List Int) : (xs.map V.int).all flatV = true := by
  rw [List.all_map]
  exact List.all_eq_true.mpr fun _ _ => rfl
theorem mem_marks {bs : List Bool} {m : Int} (h0 : 0 ≤ m) (h1 : m < (bs.length : Int)) : m ∈ marks bs ↔ bs.getD m.toNat false = true := by
  unfold marks
  rw [fil_mem]
  constructor
  · rintro ⟨p, rfl, _, h⟩
    exact h
  · intro h
    exact ⟨m.toNat, (Int.toNat_of_nonneg h0).symm, by omega, h⟩
def sp_p_State_heading (P : Program) (w : World) (K : PySem.W.Frag) : Sp := fun vs H Q _ => ∃ (a : LA) (c : LC) (u : Bool), vs = [.ref a.s] ∧ StateAt P w K H a c ∧ c.row .way = [.str (wayN u)] ∧ Q (.str (wayN u)) H
theorem ok_p_State_heading (T : Txt K mg) : FnOk P w K mg base CX0 1 T.f_p_State_heading T.d_p_State_heading ["self"] (sp_p_State_heading P w K) := by
  refine T.F_p_State_heading.ok sc_p_State_heading (fun vs H Q E h => ?_) (fun cdv A outer s H vs Q E hr h => ?_)
  · obtain ⟨a, c, u, rfl, _⟩ := h
    rfl
  · obtain ⟨a, c, u, rfl, hS, hw, k⟩ := h
    have hu := hu_of hr
    refine ⟨_, (pss_one (ps_ret (pe_ix ix_list (pe_mgetK P w rfl rfl hu (pe_fld (pv 0) rfl) (pe_glob rfl T.c_WAY T.r_WAY) (fun _ _ => rfl)) pe_int (fun _ _ => rfl)))), ?_⟩
    obtain ⟨dx, hs⟩ := hS.ob
    obtain ⟨kvs, m1, m2, ky, m3⟩ := hS.get (key_way c.n)
    obtain ⟨vs, h1, h2⟩ := hS.cont.at_ .way (key_way c.n)
    rw [hw] at h2
    cases h2 with
    | cons d1 d2 =>
      cases d1
      cases d2
      exact ⟨_, rfl, a.s, _, dx, _, _, rfl, hs, T.cl_State, T.n_State_rows, fldS_rows _ _, a.R, kvs, RK.way.mk, _, rfl, m1, m2, rfl, ⟨ky, m3⟩, a.ad .way, _, _, _, rfl, rfl, SqL.of h1, at_0, k⟩
def sp_look0 (f : LS → V) (P : Program) (w : World) (K : PySem.W.Frag) : Sp := fun vs H Q _ => ∃ (L : Addr) (x : LS), vs = [.ref L] ∧ LineP P w K H L x ∧ Q (f x) H
/-- a look that tells a new list of ints -/
def sp_lookI (f : LS → List Int) (P : Program) (w : World) (K : PySem.W.Frag) : Sp := fun vs H Q _ => ∃ (L : Addr) (x : LS), vs = [.ref L] ∧ LineP P w K H L x ∧
  ∀ (r : Addr) (H' : Hp), H r = none → Kp H H' → H' r = some (.lst ((f x).map V.int)) → Q (.ref r) H'
theorem arms_len {x : LS} (o : x.s.Ok) : (x.c.row .arms).length = x.c.n := by
  show (x.s.arms.map PyData.int).length = x.s.n
  rw [List.length_map]
  exact o.arms
theorem ok_p_Line_way (T : Txt K mg) : FnOk P w K mg base CX0 2 T.f_p_Line_way T.d_p_Line_way ["self"] (sp_look0 (fun x => .str (wayN x.s.up)) P w K) := by
  refine T.F_p_Line_way.ok sc_p_Line_way (fun vs H Q E h => ?_) (fun cdv A outer s H vs Q E hr h => ?_)
  · obtain ⟨L, x, rfl, _⟩ := h
    rfl
  · obtain ⟨L, x, rfl, hL, k⟩ := h
    refine ⟨_, (pss_one (ps_ret (pe_meth0 (pe_fld (pv 0) rfl) T.cl_State T.M_p_State_heading (ok_p_State_heading T) (hr.mono (by decide)) T.b_p_State_heading .nil pass0))), ?_⟩
    obtain ⟨dx, hl⟩ := hL.at_.ob
    obtain ⟨dxs, hs⟩ := hL.at_.st.ob
    exact ⟨_, rfl, L, _, dx, _, _, rfl, hl, T.cl_Line, T.n_Line_state, fldL_state _ _ _, x.a.s, dxs, _, rfl, hs, fldS_no _ _ (by decide +kernel) (by decide +kernel), x.a, x.c, x.s.up, rfl, hL.at_.st, rfl, k⟩
theorem ok_p_Line_masts (T : Txt K mg) : FnOk P w K mg base CX0 2 T.f_p_Line_masts T.d_p_Line_masts ["self"] (sp_look0 (fun x => .int (x.s.n : Int)) P w K) := by
  refine T.F_p_Line_masts.ok sc_p_Line_masts (fun vs H Q E h => ?_) (fun cdv A outer s H vs Q E hr h => ?_)
  · obtain ⟨L, x, rfl, _⟩ := h
    rfl
  · obtain ⟨L, x, rfl, hL, k⟩ := h
    refine ⟨_, (pss_one (ps_ret (pe_meth0 (pe_fld (pv 0) rfl) T.cl_State T.M_p_State_size (ok_p_State_size T) (hr.mono (by decide)) T.b_p_State_size .nil pass0))), ?_⟩
    obtain ⟨dx, hl⟩ := hL.at_.ob
    obtain ⟨dxs, hs⟩ := hL.at_.st.ob
    exact ⟨_, rfl, L, _, dx, _, _, rfl, hl, T.cl_Line, T.n_Line_state, fldL_state _ _ _, x.a.s, dxs, _, rfl, hs, fldS_no _ _ (by decide +kernel) (by decide +kernel), x.a, x.c, rfl, hL.at_.st, arms_len hL.ok, k⟩
theorem ok_p_Line_arms (T : Txt K mg) : FnOk P w K mg base CX0 1 T.f_p_Line_arms T.d_p_Line_arms ["self"] (sp_lookI (fun x => x.s.arms) P w K) := by
  refine T.F_p_Line_arms.ok sc_p_Line_arms (fun vs H Q E h => ?_) (fun cdv A outer s H vs Q E hr h => ?_)
  · obtain ⟨L, x, rfl, _⟩ := h
    rfl
  · obtain ⟨L, x, rfl, hL, k⟩ := h
    have hu := hu_of hr
    refine ⟨_, (pss_one (ps_ret (pe_callTy call_list_of (by rfl) T.m_list (by decide +kernel) (pa_cons (pe_mgetK P w rfl rfl hu (pe_fld (pe_fld (pv 0) rfl) rfl) (pe_glob rfl T.c_ARMS T.r_ARMS) (fun _ _ => rfl)) pa_nil)))), ?_⟩
    obtain ⟨dx, hl⟩ := hL.at_.ob
    obtain ⟨dxs, hs⟩ := hL.at_.st.ob
    obtain ⟨kvs, m1, m2, ky, m3⟩ := hL.at_.st.get (key_arms x.c.n)
    obtain ⟨vs, h1, h2⟩ := hL.at_.st.cont.at_ .arms (key_arms x.c.n)
    have ev := dpAll_ints (show DpAll K H vs (x.s.arms.map PyData.int) from h2)
    subst ev
    exact ⟨_, rfl, L, _, dx, _, _, rfl, hl, T.cl_Line, T.n_Line_state, fldL_state _ _ _, x.a.s, _, dxs, _, _, rfl, hs, T.cl_State, T.n_State_rows, fldS_rows _ _, x.a.R, kvs, RK.arms.mk, _, rfl, m1, m2, rfl, ⟨ky, m3⟩, x.a.ad .arms, _, rfl, .inl (SqL.of h1), fun r nr => k r _ nr (.new nr) upd_same⟩
theorem ok_p_Line_asleep (T : Txt K mg) : FnOk P w K mg base CX0 2 T.f_p_Line_asleep T.d_p_Line_asleep ["self"] (sp_lookI (fun x => marks x.s.sl) P w K) := by
  refine T.F_p_Line_asleep.ok sc_p_Line_asleep (fun vs H Q E h => ?_) (fun cdv A outer s H vs Q E hr h => ?_)
  · obtain ⟨L, x, rfl, _⟩ := h
    rfl
  · obtain ⟨L, x, rfl, hL, k⟩ := h
    refine ⟨_, (pss_one (ps_ret (pe_meth (pe_fld (pv 0) rfl) T.cl_State T.M_p_State_marked (ok_p_State_marked T) (hr.mono (by decide)) T.b_p_State_marked .nil pass0 (pa_cons (pe_glob rfl T.c_SLEEP T.r_SLEEP) pa_nil)))), ?_⟩
    obtain ⟨dx, hl⟩ := hL.at_.ob
    obtain ⟨dxs, hs⟩ := hL.at_.st.ob
    have h1 := hL.ok.sl
    have h2 := hL.ok.hi
    exact ⟨_, rfl, L, _, dx, _, _, rfl, hl, T.cl_Line, T.n_Line_state, fldL_state _ _ _, x.a.s, dxs, _, rfl, hs, fldS_no _ _ (by decide +kernel) (by decide +kernel), x.a, x.c, .sleep, _, x.s.sl, rfl, hL.at_.st, key_sleep _, rfl, rfl, by omega, k⟩
theorem ok_p_Line_fogs (T : Txt K mg) : FnOk P w K mg base CX0 2 T.f_p_Line_fogs T.d_p_Line_fogs ["self"] (sp_lookI (fun x => marks x.s.fg) P w K) := by
  refine T.F_p_Line_fogs.ok sc_p_Line_fogs (fun vs H Q E h => ?_) (fun cdv A outer s H vs Q E hr h => ?_)
  · obtain ⟨L, x, rfl, _⟩ := h
    rfl
  · obtain ⟨L, x, rfl, hL, k⟩ := h
    refine ⟨_, (pss_one (ps_ret (pe_meth (pe_fld (pv 0) rfl) T.cl_State T.M_p_State_marked (ok_p_State_marked T) (hr.mono (by decide)) T.b_p_State_marked .nil pass0 (pa_cons (pe_glob rfl T.c_FOG T.r_FOG) pa_nil)))), ?_⟩
    obtain ⟨dx, hl⟩ := hL.at_.ob
    obtain ⟨dxs, hs⟩ := hL.at_.st.ob
    have h1 := hL.ok.fg
    have h2 := hL.ok.hi
    exact ⟨_, rfl, L, _, dx, _, _, rfl, hl, T.cl_Line, T.n_Line_state, fldL_state _ _ _, x.a.s, dxs, _, rfl, hs, fldS_no _ _ (by decide +kernel) (by decide +kernel), x.a, x.c, .fog, _, x.s.fg, rfl, hL.at_.st, key_fog _, rfl, rfl, by omega, k⟩
/-! #### places -/
def plI (u : Bool) (n m : Int) : Int := if u = true then m else n - 1 - m
theorem plV_I (u : Bool) (n m : Int) : plV (wayN u) n m = .int (plI u n m) := by
  unfold plV plI
  cases u
  · rw [if_neg (by decide +kernel), if_neg (by decide)]
  · rw [if_pos (by decide +kernel), if_pos rfl]
theorem plI_in {u : Bool} {n m : Int} (h0 : 0 ≤ m) (h1 : m < n) : 0 ≤ plI u n m ∧ plI u n m < n := by
  unfold plI
  split <;> omega
theorem plI_plI (u : Bool) (n m : Int) : plI u n (plI u n m) = m := by
  unfold plI
  split <;> omega
def sp_p_mast_at (C D : Addr) : Sp := fun vs H Q E => ∃ (wy : Str) (masts mast : Int) (u : Bool), vs = [.str wy, .int masts, .int mast] ∧ (isWay wy = true → wy = wayN u) ∧ 0 ≤ mast ∧ mast < masts ∧ (isWay wy = true → ∀ H', Kp H H' → Q (.int (plI u masts mast)) H') ∧ (isWay wy = false → ∀ H', Kp H H' → E (.ref C) none H')
theorem ok_p_mast_at (T : Txt K mg) : FnOk P w K mg base (L2.CX P w) 4 T.f_p_mast_at T.d_p_mast_at ["way", "masts", "place"] (sp_p_mast_at T.a_BadWay T.a_NoMast) := by
  refine T.F_p_mast_at.okX sc_p_mast_at (fun vs H Q E h => ?_) (fun cdv A outer s H vs Q E hr h => ?_)
  · obtain ⟨wy, masts, mast, u, rfl, _⟩ := h
    rfl
  · obtain ⟨wy, masts, mast, u, rfl, ew, h0, h1, k, kE⟩ := h
    refine ⟨_, (pss_one (ps_ret (pe_call (ok_p_place_of T) (hr.mono (by decide)) rfl T.g_p_place_of T.F_p_place_of.kp T.b_p_place_of .nil (passes_call (takes_of rfl rfl rfl rfl) (fun _ _ _ _ z => z)) (pa_cons (pv 0) (pa_cons (pv 1) (pa_cons (pv 2) pa_nil)))))), ?_⟩
    refine ⟨_, rfl, _, rfl, _, rfl, wy, masts, mast, rfl, fun hw _ _ H' k1 => ?_, fun _ c => absurd ⟨h0, h1⟩ c, kE⟩
    rw [ew hw, plV_I]
    exact k hw H' k1
def sp_p_State_place_here (P : Program) (w : World) (K : PySem.W.Frag) : Sp := fun vs H Q E => ∃ (a : LA) (c : LC) (u : Bool) (m : Int), vs = [.ref a.s, .int m] ∧ StateAt P w K H a c ∧ (c.row .arms).length = c.n ∧ c.row .way = [.str (wayN u)] ∧
  (0 ≤ m ∧ m < (c.n : Int) → ∀ H', Kp H H' → Q (.int (plI u c.n m)) H') ∧ (¬ (0 ≤ m ∧ m < (c.n : Int)) → ∀ H', Kp H H' → E (.ref (He.ga K "NoMast")) none H')
theorem ok_p_State_place_here (T : Txt K mg) : FnOk P w K mg base (L2.CX P w) 4 T.f_p_State_place_here T.d_p_State_place_here ["self", "mast"] (sp_p_State_place_here P w K) := by
  refine T.F_p_State_place_here.okX sc_p_State_place_here (fun vs H Q E h => ?_) (fun cdv A outer s H vs Q E hr h => ?_)
  · obtain ⟨a, c, u, m, rfl, _⟩ := h
    rfl
  · obtain ⟨a, c, u, m, rfl, hS, hl, hw, k, kE⟩ := h
    refine ⟨_, (pss_one (ps_ret (pe_call (ok_p_place_of T) (hr.mono (by decide)) rfl T.g_p_place_of T.F_p_place_of.kp T.b_p_place_of .nil (passes_call (takes_of rfl rfl rfl rfl) (fun _ _ _ _ z => z)) (pa_cons (pe_meth0 (pv 0) T.cl_State T.M_p_State_heading (ok_p_State_heading T) (hr.mono (by decide)) T.b_p_State_heading .nil pass0) (pa_cons (pe_meth0 (pv 0) T.cl_State T.M_p_State_size (ok_p_State_size T) (hr.mono (by decide)) T.b_p_State_size .nil pass0) (pa_cons (pv 1) pa_nil)))))), ?_⟩
    obtain ⟨dx, hs⟩ := hS.ob
    refine ⟨_, rfl, a.s, dx, _, rfl, hs, fldS_no _ _ (by decide +kernel) (by decide +kernel), a, c, u, rfl, hS, hw, _, rfl, a.s, dx, _, rfl, hs, fldS_no _ _ (by decide +kernel) (by decide +kernel), a, c, rfl, hS, hl, _, rfl, wayN u, _, m, rfl, fun _ h0 h1 H' k1 => ?_, fun _ c1 H' k1 => kE c1 H' k1, fun c1 => by rw [wayN_is] at c1; cases c1⟩
    rw [plV_I]
    exact k ⟨h0, h1⟩ H' k1
/-! ### masts and gaps at places, rising -/
def srt (xs : List Int) : List Int := xs.mergeSort fun a b => decide (a ≤ b)
theorem srt_of {xs ys : List Int} (hp : ys.Perm xs) (hs : ys.Pairwise (· ≤ ·)) : ys = srt xs := by
  have h1 : (srt xs).Pairwise (fun a b => decide (a ≤ b) = true) := List.pairwise_mergeSort (fun a b c h1 h2 => by
    have := of_decide_eq_true h1
    have := of_decide_eq_true h2
    exact decide_eq_true (by omega)) (fun a b => by
    by_cases h : a ≤ b
    · rw [decide_eq_true h]; rfl
    · rw [decide_eq_true (show b ≤ a by omega), Bool.or_true]) xs
  have h2 : (srt xs).Pairwise (· ≤ ·) := h1.imp fun h => of_decide_eq_true h
  exact (hp.trans (List.mergeSort_perm xs _).symm).eq_of_pairwise (fun a b _ _ h1 h2 => Int.le_antisymm h1 h2) hs h2
theorem srt_len (xs : List Int) : (srt xs).length = xs.length := List.length_mergeSort xs
theorem srt_mem {xs : List Int} {z : Int} : z ∈ srt xs ↔ z ∈ xs := (List.mergeSort_perm xs _).mem_iff
def sp_here (less : Nat) (P : Program) (w : World) (K : PySem.W.Frag) : Sp := fun vs H Q _ => ∃ (a : LA) (c : LC) (u : Bool) (pl : Addr) (ps : List Int), vs = [.ref a.s, .ref pl] ∧ StateAt P w K H a c ∧ (c.row .arms).length = c.n ∧ c.row .way = [.str (wayN u)] ∧ SqL K H pl (ps.map V.int) ∧ ps.length ≤ 1000 ∧ (∀ p ∈ ps, 0 ≤ p ∧ p < (c.n : Int) - (less : Int)) ∧
  ∀ (r : Addr) (H' : Hp), H r = none → Kp H H' → H' r = some (.lst ((srt (ps.map (plI u ((c.n : Int) - (less : Int))))).map V.int)) → Q (.ref r) H'
theorem ok_p_State_masts_here (T : Txt K mg) : FnOk P w K mg base CX0 5 T.f_p_State_masts_here T.d_p_State_masts_here ["self", "places"] (sp_here 0 P w K) := by
  refine T.F_p_State_masts_here.ok sc_p_State_masts_here (fun vs H Q E h => ?_) (fun cdv A outer s H vs Q E hr h => ?_)
  · obtain ⟨a, c, u, pl, ps, rfl, _⟩ := h
    rfl
  · obtain ⟨a, c, u, pl, ps, rfl, hS, hl, hw, hp, hpl, hb, k⟩ := h
    refine ⟨_, (pss_one (ps_ret (pe_callB cr_sortedI (by rfl) T.m_sorted PyProof.Rows.boot_sorted (pa_cons (pe_lc (own := [("place", 2)]) (g := gName 2) (tt := tYes) (by rfl) sc_p_State_masts_here.nd (pi_list (pv 1)) (blkOk_by (own := [("place", 2)]) (N := ["self", "places", "place"]) (sc := defScope s_p_State_masts_here) (by decide +kernel)) (fun _ _ _ _ _ => (pg_name (i := 2) sc_p_State_masts_here.nd rfl (by first | exact Or.inl rfl | exact Or.inr rfl))) (fun _ _ _ _ _ => pts_nil) (fun _ _ _ _ _ => (pe_call (ok_p_mast_at (P := P) (w := w) (base := base) T) (hr.mono (by decide)) rfl T.g_p_mast_at T.F_p_mast_at.kp T.b_p_mast_at .nil passL (pa_cons (pe_meth0 (pv 0) T.cl_State T.M_p_State_heading (ok_p_State_heading (P := P) (w := w) (base := base) T) (hr.mono (by decide)) T.b_p_State_heading .nil pass0) (pa_cons (pe_meth0 (pv 0) T.cl_State T.M_p_State_size (ok_p_State_size (P := P) (w := w) (base := base) T) (hr.mono (by decide)) T.b_p_State_size .nil pass0) (pa_cons (pv 2) pa_nil)))))) pa_nil)))), ?_⟩
    refine ⟨_, rfl, pl, rfl, ⟨_, hp⟩, fun D hD => ?_⟩
    refine lc_list (K := K) (a := pl) (xs := ps.map V.int) (fun i H' => Kp H H' ∧ H' D = some (.lst (((ps.take i).map (plI u ((c.n : Int) - ((0 : Nat) : Int)))).map V.int))) ⟨Kp.new hD, upd_same⟩ (fun i H' _ ⟨kp, _⟩ => kp.sqL hp) (fun i x H' hi ⟨kp, hl0⟩ => ?_) (fun H1 ⟨kH1, qD⟩ => ?_)
    · obtain ⟨z, hz, rfl, ez⟩ := mem_ints hi
      have hS' := hS.kp kp
      obtain ⟨dx, hs⟩ := hS'.ob
      have bz := hb z hz
      have hil : i < ps.length := (List.getElem?_eq_some_iff.mp ez).1
      refine ⟨rfl, ?_⟩
      refine ⟨_, rfl, a.s, dx, _, rfl, hs, fldS_no _ _ (by decide +kernel) (by decide +kernel), a, c, u, rfl, hS', hw, _, rfl, a.s, dx, _, rfl, hs, fldS_no _ _ (by decide +kernel) (by decide +kernel), a, c, rfl, hS', hl, _, rfl, wayN u, _, z, u, rfl, fun _ => rfl, bz.1, by have := bz.2; omega, fun _ H2 k2 => ⟨_, k2.same _ _ rfl hl0, szt (by rw [List.length_map, List.length_map, List.length_take]; omega), (kp.trans k2).mut hD, ?_⟩, fun c => by rw [wayN_is] at c; cases c⟩
      rw [upd_same, take_snoc ez, List.map_append, List.map_append]
      show some (HO.lst (_ ++ [V.int (plI u (c.n : Int) z)])) = some (HO.lst (_ ++ [V.int (plI u ((c.n : Int) - ((0 : Nat) : Int)) z)]))
      rw [show (c.n : Int) - ((0 : Nat) : Int) = (c.n : Int) by omega]
    rw [List.length_map, List.take_length] at qD
    refine ⟨D, _, rfl, SqL.of qD, fun ns' p hpm hs np => ?_⟩
    rw [srt_of hpm hs]
    exact k p _ (kH1.free _ np) (kH1.trans (.new np)) upd_same
theorem ok_p_State_gaps_here (T : Txt K mg) : FnOk P w K mg base CX0 5 T.f_p_State_gaps_here T.d_p_State_gaps_here ["self", "places"] (sp_here 1 P w K) := by
  refine T.F_p_State_gaps_here.ok sc_p_State_gaps_here (fun vs H Q E h => ?_) (fun cdv A outer s H vs Q E hr h => ?_)
  · obtain ⟨a, c, u, pl, ps, rfl, _⟩ := h
    rfl
  · obtain ⟨a, c, u, pl, ps, rfl, hS, hl, hw, hp, hpl, hb, k⟩ := h
    refine ⟨_, (pss_one (ps_ret (pe_callB cr_sortedI (by rfl) T.m_sorted PyProof.Rows.boot_sorted (pa_cons (pe_lc (own := [("place", 2)]) (g := gName 2) (tt := tYes) (by rfl) sc_p_State_gaps_here.nd (pi_list (pv 1)) (blkOk_by (own := [("place", 2)]) (N := ["self", "places", "place"]) (sc := defScope s_p_State_gaps_here) (by decide +kernel)) (fun _ _ _ _ _ => (pg_name (i := 2) sc_p_State_gaps_here.nd rfl (by first | exact Or.inl rfl | exact Or.inr rfl))) (fun _ _ _ _ _ => pts_nil) (fun _ _ _ _ _ => (pe_call (ok_p_mast_at (P := P) (w := w) (base := base) T) (hr.mono (by decide)) rfl T.g_p_mast_at T.F_p_mast_at.kp T.b_p_mast_at .nil passL (pa_cons (pe_meth0 (pv 0) T.cl_State T.M_p_State_heading (ok_p_State_heading (P := P) (w := w) (base := base) T) (hr.mono (by decide)) T.b_p_State_heading .nil pass0) (pa_cons (pe_op op_sub (pe_meth0 (pv 0) T.cl_State T.M_p_State_size (ok_p_State_size (P := P) (w := w) (base := base) T) (hr.mono (by decide)) T.b_p_State_size .nil pass0) pe_int) (pa_cons (pv 2) pa_nil)))))) pa_nil)))), ?_⟩
    refine ⟨_, rfl, pl, rfl, ⟨_, hp⟩, fun D hD => ?_⟩
    refine lc_list (K := K) (a := pl) (xs := ps.map V.int) (fun i H' => Kp H H' ∧ H' D = some (.lst (((ps.take i).map (plI u ((c.n : Int) - ((1 : Nat) : Int)))).map V.int))) ⟨Kp.new hD, upd_same⟩ (fun i H' _ ⟨kp, _⟩ => kp.sqL hp) (fun i x H' hi ⟨kp, hl0⟩ => ?_) (fun H1 ⟨kH1, qD⟩ => ?_)
    · obtain ⟨z, hz, rfl, ez⟩ := mem_ints hi
      have hS' := hS.kp kp
      obtain ⟨dx, hs⟩ := hS'.ob
      have bz := hb z hz
      have hil : i < ps.length := (List.getElem?_eq_some_iff.mp ez).1
      refine ⟨rfl, ?_⟩
      refine ⟨_, rfl, a.s, dx, _, rfl, hs, fldS_no _ _ (by decide +kernel) (by decide +kernel), a, c, u, rfl, hS', hw, _, rfl, a.s, dx, _, rfl, hs, fldS_no _ _ (by decide +kernel) (by decide +kernel), a, c, rfl, hS', hl, _, _, rfl, rfl, _, rfl, wayN u, _, z, u, rfl, fun _ => rfl, bz.1, bz.2, fun _ H2 k2 => ⟨_, k2.same _ _ rfl hl0, szt (by rw [List.length_map, List.length_map, List.length_take]; omega), (kp.trans k2).mut hD, ?_⟩, fun c => by rw [wayN_is] at c; cases c⟩
      rw [upd_same, take_snoc ez, List.map_append, List.map_append]
      rfl
    rw [List.length_map, List.take_length] at qD
    refine ⟨D, _, rfl, SqL.of qD, fun ns' p hpm hs np => ?_⟩
    rw [srt_of hpm hs]
    exact k p _ (kH1.free _ np) (kH1.trans (.new np)) upd_same
/-! ### a motion: masts by places, apart from the line -/
structure MA where
  m : Addr
  sh : Addr
  qu : Addr
  sl : Addr
  fg : Addr
  wr : Addr
  ws : List Addr
structure Mo where
  sh : List Int
  q : List Int
  sl : List Int
  fg : List Int
  wr : List (List Int)
def fldM (a : MA) : List (Str × V) := putF "written" (.ref a.wr) (putF "fogged" (.ref a.fg) (putF "sleepers" (.ref a.sl) (putF "queue" (.ref a.qu) (putF "shown" (.ref a.sh) []))))
theorem fldM_sh (a : MA) : (fldM a).lookup ("shown" : Str) = some (.ref a.sh) := by
  unfold fldM
  rw [lookup_putF, if_neg (by decide +kernel), lookup_putF, if_neg (by decide +kernel), lookup_putF, if_neg (by decide +kernel), lookup_putF, if_neg (by decide +kernel), lookup_putF, if_pos rfl]
theorem fldM_qu (a : MA) : (fldM a).lookup ("queue" : Str) = some (.ref a.qu) := by
  unfold fldM
  rw [lookup_putF, if_neg (by decide +kernel), lookup_putF, if_neg (by decide +kernel), lookup_putF, if_neg (by decide +kernel), lookup_putF, if_pos rfl]
theorem fldM_sl (a : MA) : (fldM a).lookup ("sleepers" : Str) = some (.ref a.sl) := by
  unfold fldM
  rw [lookup_putF, if_neg (by decide +kernel), lookup_putF, if_neg (by decide +kernel), lookup_putF, if_pos rfl]
theorem fldM_fg (a : MA) : (fldM a).lookup ("fogged" : Str) = some (.ref a.fg) := by
  unfold fldM
  rw [lookup_putF, if_neg (by decide +kernel), lookup_putF, if_pos rfl]
theorem fldM_wr (a : MA) : (fldM a).lookup ("written" : Str) = some (.ref a.wr) := by
  unfold fldM
  rw [lookup_putF, if_pos rfl]
theorem fldM_no (a : MA) {m : Str} (h1 : ¬ m = "written") (h2 : ¬ m = "fogged") (h3 : ¬ m = "sleepers") (h4 : ¬ m = "queue") (h5 : ¬ m = "shown") : (fldM a).lookup m = none := by
  unfold fldM
  rw [lookup_putF, if_neg h1, lookup_putF, if_neg h2, lookup_putF, if_neg h3, lookup_putF, if_neg h4, lookup_putF, if_neg h5]
  rfl
def MA.ls (a : MA) : List Addr := a.sh :: a.qu :: a.sl :: a.fg :: a.wr :: a.ws
structure MotAt (K : PySem.W.Frag) (H : Hp) (a : MA) (m : Mo) : Prop where
  ob : ∃ dx, H a.m = some (.ins (He.ga K "Motion") dx (fldM a))
  sh : H a.sh = some (.lst (m.sh.map V.int))
  qu : H a.qu = some (.lst (m.q.map V.int))
  sl : H a.sl = some (.lst (m.sl.map V.int))
  fg : H a.fg = some (.lst (m.fg.map V.int))
  wr : H a.wr = some (.lst (a.ws.map V.ref))
  len : a.ws.length = m.wr.length
  ws : ∀ (i : Nat) (b : Addr) (l : List Int), a.ws[i]? = some b → m.wr[i]? = some l → H b = some (.lst (l.map V.int))
  nd : a.ls.Nodup
theorem MotAt.kp {K : PySem.W.Frag} {H H' : Hp} {a : MA} {m : Mo} (h : MotAt K H a m) (k : Kp H H') : MotAt K H' a m :=
  ⟨let ⟨dx, q⟩ := h.ob; ⟨dx, k.same _ _ rfl q⟩, k.same _ _ rfl h.sh, k.same _ _ rfl h.qu, k.same _ _ rfl h.sl, k.same _ _ rfl h.fg, k.same _ _ rfl h.wr, h.len, fun i b l e f => k.same _ _ rfl (h.ws i b l e f), h.nd⟩
/-- what a motion may change -/
def footM (a : MA) : List Addr := a.sh :: a.qu :: a.ws
theorem MotAt.alloc {K : PySem.W.Frag} {H : Hp} {a : MA} {m : Mo} (h : MotAt K H a m) : ∀ b ∈ footM a, ∃ vs, H b = some (.lst vs) := fun b hb => by
  rcases List.mem_cons.mp hb with rfl | hb
  · exact ⟨_, h.sh⟩
  rcases List.mem_cons.mp hb with rfl | hb
  · exact ⟨_, h.qu⟩
  obtain ⟨i, hi⟩ := List.mem_iff_getElem?.mp hb
  have hi' := (List.getElem?_eq_some_iff.mp hi).1
  obtain ⟨l, hl⟩ : ∃ l, m.wr[i]? = some l := ⟨m.wr[i]'(by rw [← h.len]; exact hi'), List.getElem?_eq_getElem _⟩
  exact ⟨_, h.ws i b l hi hl⟩
def sp_p_Motion_init (K : PySem.W.Frag) : Sp := fun vs H Q _ => ∃ (M dx p1 p2 p3 p4 : Addr) (sh q sl fg : List Int), vs = [.ref M, .ref p1, .ref p2, .ref p3, .ref p4] ∧ H M = some (.ins (He.ga K "Motion") dx []) ∧ H p1 = some (.lst (sh.map V.int)) ∧ H p2 = some (.lst (q.map V.int)) ∧ H p3 = some (.lst (sl.map V.int)) ∧ H p4 = some (.lst (fg.map V.int)) ∧ sh.length ≤ 1000 ∧
  ∀ (a : MA) (H' : Hp), a.m = M → (∀ b ∈ a.ls, H b = none) → KpE [M] H H' → MotAt K H' a ⟨sh, q, sl, fg, List.replicate sh.length []⟩ → Q .non H'
theorem ok_p_Motion_init (T : Txt K mg) : FnOk P w K mg base CX0 1 T.f_p_Motion_init T.d_p_Motion_init ["self", "shown", "queue", "sleepers", "fogged"] (sp_p_Motion_init K) := by
  refine T.F_p_Motion_init.ok sc_p_Motion_init (fun vs H Q E h => ?_) (fun cdv A outer s H vs Q E hr h => ?_)
  · obtain ⟨M, dx, p1, p2, p3, p4, sh, q, sl, fg, rfl, _⟩ := h
    rfl
  · obtain ⟨M, dx, p1, p2, p3, p4, sh, q, sl, fg, rfl, hM, h1, h2, h3, h4, hl, k⟩ := h
    refine ⟨_, (pss_cons (ps_fld (pv 0) (pe_callTy call_list_of (by rfl) T.m_list (by decide +kernel) (pa_cons (pv 1) pa_nil)) rfl)
      (pss_cons (ps_fld (pv 0) (pe_callTy call_list_of (by rfl) T.m_list (by decide +kernel) (pa_cons (pv 2) pa_nil)) rfl)
      (pss_cons (ps_fld (pv 0) (pe_callTy call_list_of (by rfl) T.m_list (by decide +kernel) (pa_cons (pv 3) pa_nil)) rfl)
      (pss_cons (ps_fld (pv 0) (pe_callTy call_list_of (by rfl) T.m_list (by decide +kernel) (pa_cons (pv 4) pa_nil)) rfl)
      (pss_one (ps_fld (pv 0) (pe_lc (own := [("place", 5)]) (g := gName 5) (tt := tYes) (by rfl) sc_p_Motion_init.nd (pi_list (pv 1)) (blkOk_by (own := [("place", 5)]) (N := ["self", "shown", "queue", "sleepers", "fogged", "place"]) (sc := defScope s_p_Motion_init) (by decide +kernel)) (fun _ _ _ _ _ => (pg_name (i := 5) sc_p_Motion_init.nd rfl (by first | exact Or.inl rfl | exact Or.inr rfl))) (fun _ _ _ _ _ => pts_nil) (fun _ _ _ _ _ => (pe_lst pa_nil))) rfl)))))), ?_⟩
    have keep : ∀ {G : Hp} {d : Addr} {f : List (Str × V)} {o : HO} {b : Addr} {xs : List V}, G M = some (.ins (He.ga K "Motion") d f) → G b = some (.lst xs) → upd G M o b = some (.lst xs) := fun {G d f o b xs} hm h => by
      rw [upd_ne (ne_of h hm (by intro z; cases z))]
      exact h
    refine ⟨_, rfl, p1, _, rfl, .inl (SqL.of h1), fun b1 n1 => ?_⟩
    generalize h_G1 : upd H b1 _ = G1
    have k_G1 : Kp H G1 := by rw [← h_G1]; exact .new n1
    have q_G1 := (congrFun h_G1 b1).symm.trans upd_same
    clear h_G1
    have m1 := k_G1.same _ _ rfl hM
    refine ⟨_, rfl, M, _, dx, _, rfl, m1, T.cl_Motion, T.n_Motion_shown, (by show 0 < 1000; decide), ?_⟩
    have e2 : KpE [M] G1 (upd G1 M (.ins (He.ga K "Motion") dx (putF "shown" (.ref b1) []))) := KpE.put m1 rfl List.mem_cons_self
    have m2 : (upd G1 M (.ins (He.ga K "Motion") dx (putF "shown" (.ref b1) []))) M = some (.ins (He.ga K "Motion") dx (putF "shown" (.ref b1) [])) := upd_same
    have c1_1 : (upd G1 M (.ins (He.ga K "Motion") dx (putF "shown" (.ref b1) []))) p1 = _ := keep m1 (k_G1.same _ _ rfl h1)
    have c1_2 : (upd G1 M (.ins (He.ga K "Motion") dx (putF "shown" (.ref b1) []))) p2 = _ := keep m1 (k_G1.same _ _ rfl h2)
    have c1_3 : (upd G1 M (.ins (He.ga K "Motion") dx (putF "shown" (.ref b1) []))) p3 = _ := keep m1 (k_G1.same _ _ rfl h3)
    have c1_4 : (upd G1 M (.ins (He.ga K "Motion") dx (putF "shown" (.ref b1) []))) p4 = _ := keep m1 (k_G1.same _ _ rfl h4)
    have d1_1 : (upd G1 M (.ins (He.ga K "Motion") dx (putF "shown" (.ref b1) []))) b1 = _ := keep m1 q_G1
    generalize upd G1 M (.ins (He.ga K "Motion") dx (putF "shown" (.ref b1) [])) = G2 at e2 m2 c1_1 c1_2 c1_3 c1_4 d1_1 ⊢
    refine ⟨_, rfl, p2, _, rfl, .inl (SqL.of c1_2), fun b2 n2 => ?_⟩
    generalize h_G3 : upd G2 b2 _ = G3
    have k_G3 : Kp G2 G3 := by rw [← h_G3]; exact .new n2
    have q_G3 := (congrFun h_G3 b2).symm.trans upd_same
    clear h_G3
    have m3 := k_G3.same _ _ rfl m2
    refine ⟨_, rfl, M, _, dx, _, rfl, m3, T.cl_Motion, T.n_Motion_queue, (by show 1 < 1000; decide), ?_⟩
    have e4 : KpE [M] G3 (upd G3 M (.ins (He.ga K "Motion") dx (putF "queue" (.ref b2) (putF "shown" (.ref b1) [])))) := KpE.put m3 rfl List.mem_cons_self
    have m4 : (upd G3 M (.ins (He.ga K "Motion") dx (putF "queue" (.ref b2) (putF "shown" (.ref b1) [])))) M = some (.ins (He.ga K "Motion") dx (putF "queue" (.ref b2) (putF "shown" (.ref b1) []))) := upd_same
    have c2_1 : (upd G3 M (.ins (He.ga K "Motion") dx (putF "queue" (.ref b2) (putF "shown" (.ref b1) [])))) p1 = _ := keep m3 (k_G3.same _ _ rfl c1_1)
    have c2_2 : (upd G3 M (.ins (He.ga K "Motion") dx (putF "queue" (.ref b2) (putF "shown" (.ref b1) [])))) p2 = _ := keep m3 (k_G3.same _ _ rfl c1_2)
    have c2_3 : (upd G3 M (.ins (He.ga K "Motion") dx (putF "queue" (.ref b2) (putF "shown" (.ref b1) [])))) p3 = _ := keep m3 (k_G3.same _ _ rfl c1_3)
    have c2_4 : (upd G3 M (.ins (He.ga K "Motion") dx (putF "queue" (.ref b2) (putF "shown" (.ref b1) [])))) p4 = _ := keep m3 (k_G3.same _ _ rfl c1_4)
    have d2_1 : (upd G3 M (.ins (He.ga K "Motion") dx (putF "queue" (.ref b2) (putF "shown" (.ref b1) [])))) b1 = _ := keep m3 (k_G3.same _ _ rfl d1_1)
    have d2_2 : (upd G3 M (.ins (He.ga K "Motion") dx (putF "queue" (.ref b2) (putF "shown" (.ref b1) [])))) b2 = _ := keep m3 q_G3
    generalize upd G3 M (.ins (He.ga K "Motion") dx (putF "queue" (.ref b2) (putF "shown" (.ref b1) []))) = G4 at e4 m4 c2_1 c2_2 c2_3 c2_4 d2_1 d2_2 ⊢
    refine ⟨_, rfl, p3, _, rfl, .inl (SqL.of c2_3), fun b3 n3 => ?_⟩
    generalize h_G5 : upd G4 b3 _ = G5
    have k_G5 : Kp G4 G5 := by rw [← h_G5]; exact .new n3
    have q_G5 := (congrFun h_G5 b3).symm.trans upd_same
    clear h_G5
    have m5 := k_G5.same _ _ rfl m4
    refine ⟨_, rfl, M, _, dx, _, rfl, m5, T.cl_Motion, T.n_Motion_sleepers, (by show 2 < 1000; decide), ?_⟩
    have e6 : KpE [M] G5 (upd G5 M (.ins (He.ga K "Motion") dx (putF "sleepers" (.ref b3) (putF "queue" (.ref b2) (putF "shown" (.ref b1) []))))) := KpE.put m5 rfl List.mem_cons_self
    have m6 : (upd G5 M (.ins (He.ga K "Motion") dx (putF "sleepers" (.ref b3) (putF "queue" (.ref b2) (putF "shown" (.ref b1) []))))) M = some (.ins (He.ga K "Motion") dx (putF "sleepers" (.ref b3) (putF "queue" (.ref b2) (putF "shown" (.ref b1) [])))) := upd_same
    have c3_1 : (upd G5 M (.ins (He.ga K "Motion") dx (putF "sleepers" (.ref b3) (putF "queue" (.ref b2) (putF "shown" (.ref b1) []))))) p1 = _ := keep m5 (k_G5.same _ _ rfl c2_1)
    have c3_2 : (upd G5 M (.ins (He.ga K "Motion") dx (putF "sleepers" (.ref b3) (putF "queue" (.ref b2) (putF "shown" (.ref b1) []))))) p2 = _ := keep m5 (k_G5.same _ _ rfl c2_2)
    have c3_3 : (upd G5 M (.ins (He.ga K "Motion") dx (putF "sleepers" (.ref b3) (putF "queue" (.ref b2) (putF "shown" (.ref b1) []))))) p3 = _ := keep m5 (k_G5.same _ _ rfl c2_3)
    have c3_4 : (upd G5 M (.ins (He.ga K "Motion") dx (putF "sleepers" (.ref b3) (putF "queue" (.ref b2) (putF "shown" (.ref b1) []))))) p4 = _ := keep m5 (k_G5.same _ _ rfl c2_4)
    have d3_1 : (upd G5 M (.ins (He.ga K "Motion") dx (putF "sleepers" (.ref b3) (putF "queue" (.ref b2) (putF "shown" (.ref b1) []))))) b1 = _ := keep m5 (k_G5.same _ _ rfl d2_1)
    have d3_2 : (upd G5 M (.ins (He.ga K "Motion") dx (putF "sleepers" (.ref b3) (putF "queue" (.ref b2) (putF "shown" (.ref b1) []))))) b2 = _ := keep m5 (k_G5.same _ _ rfl d2_2)
    have d3_3 : (upd G5 M (.ins (He.ga K "Motion") dx (putF "sleepers" (.ref b3) (putF "queue" (.ref b2) (putF "shown" (.ref b1) []))))) b3 = _ := keep m5 q_G5
    generalize upd G5 M (.ins (He.ga K "Motion") dx (putF "sleepers" (.ref b3) (putF "queue" (.ref b2) (putF "shown" (.ref b1) [])))) = G6 at e6 m6 c3_1 c3_2 c3_3 c3_4 d3_1 d3_2 d3_3 ⊢
    refine ⟨_, rfl, p4, _, rfl, .inl (SqL.of c3_4), fun b4 n4 => ?_⟩
    generalize h_G7 : upd G6 b4 _ = G7
    have k_G7 : Kp G6 G7 := by rw [← h_G7]; exact .new n4
    have q_G7 := (congrFun h_G7 b4).symm.trans upd_same
    clear h_G7
    have m7 := k_G7.same _ _ rfl m6
    refine ⟨_, rfl, M, _, dx, _, rfl, m7, T.cl_Motion, T.n_Motion_fogged, (by show 3 < 1000; decide), ?_⟩
    have e8 : KpE [M] G7 (upd G7 M (.ins (He.ga K "Motion") dx (putF "fogged" (.ref b4) (putF "sleepers" (.ref b3) (putF "queue" (.ref b2) (putF "shown" (.ref b1) [])))))) := KpE.put m7 rfl List.mem_cons_self
    have m8 : (upd G7 M (.ins (He.ga K "Motion") dx (putF "fogged" (.ref b4) (putF "sleepers" (.ref b3) (putF "queue" (.ref b2) (putF "shown" (.ref b1) [])))))) M = some (.ins (He.ga K "Motion") dx (putF "fogged" (.ref b4) (putF "sleepers" (.ref b3) (putF "queue" (.ref b2) (putF "shown" (.ref b1) []))))) := upd_same
    have c4_1 : (upd G7 M (.ins (He.ga K "Motion") dx (putF "fogged" (.ref b4) (putF "sleepers" (.ref b3) (putF "queue" (.ref b2) (putF "shown" (.ref b1) [])))))) p1 = _ := keep m7 (k_G7.same _ _ rfl c3_1)
    have c4_2 : (upd G7 M (.ins (He.ga K "Motion") dx (putF "fogged" (.ref b4) (putF "sleepers" (.ref b3) (putF "queue" (.ref b2) (putF "shown" (.ref b1) [])))))) p2 = _ := keep m7 (k_G7.same _ _ rfl c3_2)
    have c4_3 : (upd G7 M (.ins (He.ga K "Motion") dx (putF "fogged" (.ref b4) (putF "sleepers" (.ref b3) (putF "queue" (.ref b2) (putF "shown" (.ref b1) [])))))) p3 = _ := keep m7 (k_G7.same _ _ rfl c3_3)
    have c4_4 : (upd G7 M (.ins (He.ga K "Motion") dx (putF "fogged" (.ref b4) (putF "sleepers" (.ref b3) (putF "queue" (.ref b2) (putF "shown" (.ref b1) [])))))) p4 = _ := keep m7 (k_G7.same _ _ rfl c3_4)
    have d4_1 : (upd G7 M (.ins (He.ga K "Motion") dx (putF "fogged" (.ref b4) (putF "sleepers" (.ref b3) (putF "queue" (.ref b2) (putF "shown" (.ref b1) [])))))) b1 = _ := keep m7 (k_G7.same _ _ rfl d3_1)
    have d4_2 : (upd G7 M (.ins (He.ga K "Motion") dx (putF "fogged" (.ref b4) (putF "sleepers" (.ref b3) (putF "queue" (.ref b2) (putF "shown" (.ref b1) [])))))) b2 = _ := keep m7 (k_G7.same _ _ rfl d3_2)
    have d4_3 : (upd G7 M (.ins (He.ga K "Motion") dx (putF "fogged" (.ref b4) (putF "sleepers" (.ref b3) (putF "queue" (.ref b2) (putF "shown" (.ref b1) [])))))) b3 = _ := keep m7 (k_G7.same _ _ rfl d3_3)
    have d4_4 : (upd G7 M (.ins (He.ga K "Motion") dx (putF "fogged" (.ref b4) (putF "sleepers" (.ref b3) (putF "queue" (.ref b2) (putF "shown" (.ref b1) [])))))) b4 = _ := keep m7 q_G7
    generalize upd G7 M (.ins (He.ga K "Motion") dx (putF "fogged" (.ref b4) (putF "sleepers" (.ref b3) (putF "queue" (.ref b2) (putF "shown" (.ref b1) []))))) = G8 at e8 m8 c4_1 c4_2 c4_3 c4_4 d4_1 d4_2 d4_3 d4_4 ⊢
    have kA := (((((((KpE.of k_G1).trans e2).trans (KpE.of k_G3)).trans e4).trans (KpE.of k_G5)).trans e6).trans (KpE.of k_G7)).trans e8
    have nn : ∀ b, G8 b = none → H b = none := kA.free
    refine ⟨_, rfl, p1, rfl, ⟨_, SqL.of c4_1⟩, fun D hD => ?_⟩
    refine lc_list (K := K) (a := p1) (xs := sh.map V.int) (fun i H' => Kp G8 H' ∧ ∃ ws : List Addr, H' D = some (.lst (ws.map V.ref)) ∧ ws.length = i ∧ ws.Nodup ∧ ∀ b ∈ ws, H' b = some (.lst []) ∧ G8 b = none ∧ b ≠ D) ⟨Kp.new hD, [], upd_same, rfl, by simp, by simp⟩ (fun i H' _ ⟨kp, _⟩ => kp.sqL (SqL.of c4_1)) (fun i x H' hi ⟨kp, ws, hDl, hwl, hnd, hws⟩ => ?_) (fun H1 ⟨kH1, ws, hDl, hwl, hnd, hws⟩ => ?_)
    · obtain ⟨z, hz, rfl, ez⟩ := mem_ints hi
      have hil : i < sh.length := (List.getElem?_eq_some_iff.mp ez).1
      refine ⟨rfl, Nat.zero_le _, fun b nb => ?_⟩
      generalize h_H2 : upd H' b _ = H2
      have k_H2 : Kp H' H2 := by rw [← h_H2]; exact .new nb
      have q_H2 := (congrFun h_H2 b).symm.trans upd_same
      clear h_H2
      have hD2 := k_H2.same _ _ rfl hDl
      have nbD : b ≠ D := fun z => by rw [z, hDl] at nb; cases nb
      refine ⟨_, hD2, szt (by rw [List.length_map]; omega), (kp.trans k_H2).mut hD, ws ++ [b], by rw [upd_same, List.map_append]; rfl, by rw [List.length_append, hwl]; rfl, ?_, fun b' hb' => ?_⟩
      · rw [List.nodup_append]
        refine ⟨hnd, by simp, fun x hx y hy e => ?_⟩
        rw [List.mem_singleton.mp hy] at e
        rw [e] at hx
        have := (hws b hx).1
        rw [nb] at this
        cases this
      · rcases List.mem_append.mp hb' with h | h
        · obtain ⟨q1, q2, q3⟩ := hws b' h
          exact ⟨by rw [upd_ne q3]; exact k_H2.same _ _ rfl q1, q2, q3⟩
        · rw [List.mem_singleton.mp h]
          exact ⟨by rw [upd_ne nbD]; exact q_H2, kp.free _ nb, nbD⟩
    rw [List.length_map] at hwl
    have mM := kH1.same _ _ rfl m8
    refine ⟨_, rfl, M, _, dx, _, rfl, mM, T.cl_Motion, T.n_Motion_written, (by show 4 < 1000; decide), ?_⟩
    have o1 := kH1.same _ _ rfl d4_1
    have o2 := kH1.same _ _ rfl d4_2
    have o3 := kH1.same _ _ rfl d4_3
    have o4 := kH1.same _ _ rfl d4_4
    have nM : ∀ {b : Addr} {xs : List V}, H1 b = some (.lst xs) → upd H1 M (.ins (He.ga K "Motion") dx (putF "written" (.ref D) (putF "fogged" (.ref b4) (putF "sleepers" (.ref b3) (putF "queue" (.ref b2) (putF "shown" (.ref b1) [])))))) b = some (.lst xs) := fun {b xs} h => keep mM h
    have x21 : b2 ≠ b1 := fun z => by rw [z] at n2; have h := d1_1; rw [n2] at h; cases h
    have x31 : b3 ≠ b1 := fun z => by rw [z] at n3; have h := d2_1; rw [n3] at h; cases h
    have x32 : b3 ≠ b2 := fun z => by rw [z] at n3; have h := d2_2; rw [n3] at h; cases h
    have x41 : b4 ≠ b1 := fun z => by rw [z] at n4; have h := d3_1; rw [n4] at h; cases h
    have x42 : b4 ≠ b2 := fun z => by rw [z] at n4; have h := d3_2; rw [n4] at h; cases h
    have x43 : b4 ≠ b3 := fun z => by rw [z] at n4; have h := d3_3; rw [n4] at h; cases h
    have xD : ∀ {b : Addr} {xs : List V}, G8 b = some (.lst xs) → b ≠ D := fun {b xs} h z => by rw [z, hD] at h; cases h
    have xw : ∀ {b : Addr} {xs : List V}, G8 b = some (.lst xs) → b ∉ ws := fun {b xs} h m => by
      have := (hws b m).2.1
      rw [h] at this
      cases this
    have f1 : H b1 = none := n1
    have f2 : H b2 = none := by
      have := ((KpE.of (S := [M]) k_G1).trans e2).free _ n2
      exact this
    have f3 : H b3 = none := ((((KpE.of (S := [M]) k_G1).trans e2).trans (KpE.of k_G3)).trans e4).free _ n3
    have f4 : H b4 = none := ((((((KpE.of (S := [M]) k_G1).trans e2).trans (KpE.of k_G3)).trans e4).trans (KpE.of k_G5)).trans e6).free _ n4
    refine k ⟨M, b1, b2, b3, b4, D, ws⟩ _ rfl (fun b hb => ?_) ((kA.trans (KpE.of kH1)).trans (KpE.put mM rfl List.mem_cons_self)) ⟨⟨dx, upd_same⟩, nM o1, nM o2, nM o3, nM o4, nM hDl, by rw [hwl, List.length_replicate], fun i b l e f => ?_, ?_⟩
    · simp only [MA.ls, List.mem_cons] at hb
      rcases hb with rfl | rfl | rfl | rfl | rfl | hb
      · exact f1
      · exact f2
      · exact f3
      · exact f4
      · exact nn _ hD
      · exact nn _ (hws b hb).2.1
    · have hb := List.mem_of_getElem? e
      rw [List.getElem?_replicate] at f
      split at f
      · cases Option.some.inj f
        exact nM (hws b hb).1
      · cases f
    · show (b1 :: b2 :: b3 :: b4 :: D :: ws).Nodup
      simp only [List.nodup_cons, List.mem_cons, not_or]
      exact ⟨⟨x21.symm, x31.symm, x41.symm, xD d4_1, xw d4_1⟩, ⟨x32.symm, x42.symm, xD d4_2, xw d4_2⟩, ⟨x43.symm, xD d4_3, xw d4_3⟩, ⟨xD d4_4, xw d4_4⟩, fun m => (hws D m).2.2 rfl, hnd⟩
/-! ### the motion of a state -/
def alg (u : Bool) (xs : List Int) : List Int := if u = true then xs else xs.reverse
theorem alg_up (u : Bool) (xs : List V) : (if decide (V.str (wayN u) = V.str "up") = true then xs else xs.reverse) = if u = true then xs else xs.reverse := by
  cases u
  · rw [if_neg (by decide +kernel), if_neg (by decide)]
  · rw [if_pos (by decide +kernel), if_pos rfl]
theorem alg_int (u : Bool) (xs : List Int) : (if u = true then xs.map V.int else (xs.map V.int).reverse) = (alg u xs).map V.int := by
  unfold alg
  cases u
  · rw [if_neg (by decide), if_neg (by decide), List.map_reverse]
  · rw [if_pos rfl, if_pos rfl]
theorem alg_len (u : Bool) (xs : List Int) : (alg u xs).length = xs.length := by unfold alg; split <;> simp
theorem alg_alg (u : Bool) (xs : List Int) : alg u (alg u xs) = xs := by unfold alg; cases u <;> simp
def motP (s : PS) : Mo := ⟨alg s.up s.arms, s.q s.up, (marks s.sl).map (plI s.up s.n), srt ((marks s.fg).map (plI s.up ((s.n : Int) - ((1 : Nat) : Int)))), List.replicate s.n []⟩
def sp_p_State_motion (P : Program) (w : World) (K : PySem.W.Frag) : Sp := fun vs H Q _ => ∃ (a : LA) (s : PS) (ws : List Tri) (past fut : List Dd), vs = [.ref a.s] ∧ StateAt P w K H a ⟨s.n, s.row, ws, past, fut⟩ ∧ s.Ok ∧
  ∀ (ma : MA) (H' : Hp), H ma.m = none → (∀ b ∈ ma.ls, H b = none) → Kp H H' → MotAt K H' ma (motP s) → Q (.ref ma.m) H'
theorem ok_p_State_motion (T : Txt K mg) : FnOk P w K mg base CX0 6 T.f_p_State_motion T.d_p_State_motion ["self"] (sp_p_State_motion P w K) := by
  refine T.F_p_State_motion.ok sc_p_State_motion (fun vs H Q E h => ?_) (fun cdv A outer s H vs Q E hr h => ?_)
  · obtain ⟨a, s, ws, past, fut, rfl, _⟩ := h
    rfl
  · obtain ⟨a, s, ws, past, fut, rfl, hS, ok, k⟩ := h
    have hu := hu_of hr
    refine ⟨_, (pss_cons (ps_set (i := 1) sc_p_State_motion.nd rfl (by first | exact Or.inl rfl | exact Or.inr rfl) (pe_meth0 (pv 0) T.cl_State T.M_p_State_heading (ok_p_State_heading T) (hr.mono (by decide)) T.b_p_State_heading .nil pass0))
      (pss_cons (ps_setLc (i := 2) (own := [("mast", 3)]) (g := gName 3) (tt := tYes) (by rfl) sc_p_State_motion.nd rfl rfl (sw_true rfl rfl rfl (by decide +kernel)) (pi_list (pe_meth (pv 0) T.cl_State T.M_p_State_marked (ok_p_State_marked T) (hr.mono (by decide)) T.b_p_State_marked .nil pass0 (pa_cons (pe_glob rfl T.c_SLEEP T.r_SLEEP) pa_nil))) (blkOk_by (own := [("mast", 3)]) (N := ["self", "way", "sleepers", "mast", "fogged"]) (sc := defScope s_p_State_motion) (by decide +kernel)) (fun _ _ _ _ _ => (pg_name (i := 3) sc_p_State_motion.nd rfl (by first | exact Or.inl rfl | exact Or.inr rfl))) (fun _ _ _ _ _ => pts_nil) (fun _ _ _ _ _ => (pe_meth (pv 0) T.cl_State T.M_p_State_place_here (ok_p_State_place_here (P := P) (w := w) (base := base) T) (hr.mono (by decide)) T.b_p_State_place_here .nil passL (pa_cons (pv 3) pa_nil))))
      (pss_cons (ps_set (i := 4) sc_p_State_motion.nd rfl (by first | exact Or.inl rfl | exact Or.inr rfl) (pe_meth (pv 0) T.cl_State T.M_p_State_gaps_here (ok_p_State_gaps_here T) (hr.mono (by decide)) T.b_p_State_gaps_here .nil pass0 (pa_cons (pe_meth (pv 0) T.cl_State T.M_p_State_marked (ok_p_State_marked T) (hr.mono (by decide)) T.b_p_State_marked .nil pass0 (pa_cons (pe_glob rfl T.c_FOG T.r_FOG) pa_nil)) pa_nil)))
      (pss_one (ps_ret (pe_make T.K_Motion (ok_p_Motion_init T) (hr.mono (by decide)) rfl T.g_Motion T.b_p_Motion_init .nil pass0 (pa_cons (pe_call (ok_p_along T) (hr.mono (by decide)) rfl T.g_p_along T.F_p_along.kp T.b_p_along .nil passL (pa_cons (pv 1) (pa_cons (pe_mgetK P w rfl rfl hu (pe_fld (pv 0) rfl) (pe_glob rfl T.c_ARMS T.r_ARMS) (fun _ _ => rfl)) pa_nil))) (pa_cons (pe_meth (pv 0) T.cl_State T.M_p_State_queue_on (ok_p_State_queue_on T) (hr.mono (by decide)) T.b_p_State_queue_on .nil passL (pa_cons (pv 1) pa_nil)) (pa_cons (pv 2) (pa_cons (pv 4) pa_nil)))))))))), ?_⟩
    obtain ⟨dx, hs⟩ := hS.ob
    have hal : ((⟨s.n, s.row, ws, past, fut⟩ : LC).row .arms).length = s.n := by
      show (s.arms.map PyData.int).length = s.n
      rw [List.length_map]
      exact ok.arms
    have hn := ok.hi
    have lsl := ok.sl
    have lfg := ok.fg
    refine ⟨_, rfl, a.s, dx, _, rfl, hs, fldS_no _ _ (by decide +kernel) (by decide +kernel), a, _, s.up, rfl, hS, rfl, ?_⟩
    refine ⟨_, rfl, a.s, dx, _, rfl, hs, fldS_no _ _ (by decide +kernel) (by decide +kernel), a, _, .sleep, _, s.sl, rfl, hS, key_sleep _, rfl, rfl, by omega, fun r1 H1 nr1 k1 hr1 => ?_⟩
    have hS1 := hS.kp k1
    have ml := fil_len (fun i => s.sl.getD i false) s.sl.length
    refine ⟨r1, rfl, ⟨_, SqL.of hr1⟩, fun D hD => ?_⟩
    refine lc_list (K := K) (a := r1) (xs := (marks s.sl).map V.int) (fun i H' => Kp H1 H' ∧ H' D = some (.lst ((((marks s.sl).take i).map (plI s.up s.n)).map V.int))) ⟨Kp.new hD, upd_same⟩ (fun i H' _ ⟨kp, _⟩ => kp.sqL (SqL.of hr1)) (fun i x H' hi ⟨kp, hl0⟩ => ?_) (fun H2 ⟨k2, qD⟩ => ?_)
    · obtain ⟨z, hz, rfl, ez⟩ := mem_ints hi
      have hil := (List.getElem?_eq_some_iff.mp ez).1
      have hml : (marks s.sl).length ≤ s.sl.length := ml
      obtain ⟨p, ep, hp, _⟩ := fil_mem.mp hz
      have hS' := hS1.kp kp
      refine ⟨rfl, ?_⟩
      refine ⟨_, rfl, a.s, dx, _, rfl, (k1.trans kp).same _ _ rfl hs, fldS_no _ _ (by decide +kernel) (by decide +kernel), _, rfl, a, _, s.up, z, rfl, hS', hal, rfl, fun _ H3 k3 => ⟨_, k3.same _ _ rfl hl0, szt (by rw [List.length_map, List.length_map, List.length_take]; omega), (kp.trans k3).mut hD, ?_⟩, fun c => absurd ⟨by omega, by show z < (s.n : Int); omega⟩ c⟩
      rw [upd_same, take_snoc ez, List.map_append, List.map_append]
      rfl
    rw [List.length_map, List.take_length] at qD
    have k12 := k1.trans k2
    have hS2 := hS.kp k12
    refine ⟨_, rfl, a.s, dx, _, rfl, k12.same _ _ rfl hs, fldS_no _ _ (by decide +kernel) (by decide +kernel), _, rfl, a.s, dx, _, rfl, k12.same _ _ rfl hs, fldS_no _ _ (by decide +kernel) (by decide +kernel), a, _, .fog, _, s.fg, rfl, hS2, key_fog _, rfl, rfl, by omega, fun r3 H3 nr3 k3 hr3 => ?_⟩
    have hS3 := hS2.kp k3
    have mf := fil_len (fun i => s.fg.getD i false) s.fg.length
    refine ⟨a, _, s.up, r3, marks s.fg, rfl, hS3, hal, rfl, SqL.of hr3, by show (fil _ _).length ≤ 1000; omega, fun z hz => ?_, fun r4 H4 nr4 k4 hr4 => ?_⟩
    · obtain ⟨p, ep, hp, _⟩ := fil_mem.mp hz
      exact ⟨by omega, by show z < (s.n : Int) - ((1 : Nat) : Int); omega⟩
    have k14 := k12.trans (k3.trans k4)
    have hS4 := hS.kp k14
    obtain ⟨kvs, m1, m2, ky, m3⟩ := hS4.get (key_arms s.n)
    obtain ⟨vs, h1, h2⟩ := hS4.cont.at_ .arms (key_arms s.n)
    have ev := dpAll_ints (show DpAll K H4 vs (s.arms.map PyData.int) from h2)
    subst ev
    refine ⟨_, rfl, _, rfl, a.s, _, dx, _, _, rfl, k14.same _ _ rfl hs, T.cl_State, T.n_State_rows, fldS_rows _ _, a.R, kvs, RK.arms.mk, _, rfl, m1, m2, rfl, ⟨ky, m3⟩, wayN s.up, a.ad .arms, s.arms.map V.int, rfl, SqL.of h1, by rw [List.length_map]; have := ok.arms; omega, fun _ r5 H5 k5 nr5 hr5 => ?_, fun c => by rw [wayN_is] at c; cases c⟩
    rw [alg_up, alg_int] at hr5
    have k15 := k14.trans k5
    have hS5 := hS.kp k15
    refine ⟨_, rfl, a.s, dx, _, rfl, k15.same _ _ rfl hs, fldS_no _ _ (by decide +kernel) (by decide +kernel), _, rfl, a, _, wayN s.up, s.q, rfl, hS5, fun _ => rfl, fun _ r6 H6 nr6 k6 hr6 => ?_, fun c => by rw [wayN_is] at c; cases c⟩
    rw [wayU_of] at hr6
    refine ⟨_, rfl, _, rfl, fun M dxm nM ndxm nn => ?_⟩
    have k36 := (k3.trans k4).trans (k5.trans k6)
    have kN : Kp H6 (upd (upd H6 dxm (.own M)) M (.ins (He.ga K "Motion") dxm [])) := (Kp.new ndxm).trans (.new (by rw [upd_ne nn.symm]; exact nM))
    refine ⟨M, dxm, r5, r6, D, r4, alg s.up s.arms, s.q s.up, _, _, rfl, upd_same, kN.same _ _ rfl (k6.same _ _ rfl hr5), kN.same _ _ rfl hr6, kN.same _ _ rfl (k36.same _ _ rfl qD), kN.same _ _ rfl ((k5.trans k6).same _ _ rfl hr4), by rw [alg_len]; have := ok.arms; omega, fun ma H7 em fr e7 mot => ⟨rfl, ?_⟩⟩
    have k06 := k15.trans k6
    have k7 := kp_made nM ndxm nn e7
    rw [alg_len, ok.arms] at mot
    have fr6 : ∀ b, (upd (upd H6 dxm (.own M)) M (.ins (He.ga K "Motion") dxm [])) b = none → H b = none := fun b hb => k06.free _ (kN.free _ hb)
    have z := k ma H7 (by rw [em]; exact k06.free _ nM) (fun b hb => fr6 b (fr b hb)) (k06.trans k7) mot
    rw [em] at z
    exact z
/-! ### why a keeper does nothing -/
def rs (sh : List Int) (i : Nat) : Bool := decide (V.int (sh.getD i 0) = V.int 0)
def inL (z : Int) (xs : List Int) : Bool := inV (.int z) (xs.map V.int)
theorem rs_iff {sh : List Int} {i : Nat} : rs sh i = true ↔ sh.getD i 0 = 0 := by
  unfold rs
  rw [decide_eq_true_iff]
  exact ⟨fun h => V.int.inj h, fun h => by rw [h]⟩
theorem rs_no {sh : List Int} {i : Nat} : rs sh i = false ↔ sh.getD i 0 ≠ 0 := by
  rw [← Bool.not_eq_true, rs_iff]
theorem flat_ints (xs : List Int) : (xs.map V.int).all flatV = true := by
  rw [List.all_eq_true]
  intro x hx
  obtain ⟨z, _, rfl⟩ := List.mem_map.mp hx
  rfl
def whyV (sh : List Int) (wt : Bool) (asl fg : List Int) (p : Nat) : Str :=
  if inL p asl = true then "asleep" else
  if 0 < p ∧ inL ((p : Int) - 1) fg = true then "fog behind" else
  if (rs sh p = true ∧ p = 0 ∧ wt = false) ∨ (rs sh p = true ∧ 0 < p ∧ rs sh (p - 1) = true) then "nothing comes" else
  if rs sh p = false ∧ 0 < p ∧ rs sh (p - 1) = false then "still shown behind" else
  if p + 1 < sh.length ∧ inL p fg = true then "fog ahead" else
  if p + 1 < sh.length ∧ rs sh p = true ∧ rs sh (p + 1) = false then "not clear ahead" else
  if p + 1 < sh.length ∧ rs sh p = false ∧ rs sh (p + 1) = true then "not copied ahead" else "ready"
def behO (sh : List Int) (wt : Bool) (fg : List Int) (p : Nat) : Option Str :=
  if p = 0 then (if rs sh p = true ∧ wt = false then some "nothing comes" else none) else
  if inL ((p : Int) - 1) fg = true then some "fog behind" else
  if rs sh p = rs sh (p - 1) then (if rs sh p = true then some "nothing comes" else some "still shown behind") else none
def ahdO (sh : List Int) (fg : List Int) (p : Nat) : Option Str :=
  if p + 1 = sh.length then none else
  if inL p fg = true then some "fog ahead" else
  if rs sh p = rs sh (p + 1) then none else (if rs sh p = true then some "not clear ahead" else some "not copied ahead")
def oV : Option Str → V
  | none => .non
  | some s => .str s
theorem why_prog {sh : List Int} {wt : Bool} {asl fg : List Int} {p : Nat} (h : p < sh.length) : whyV sh wt asl fg p = if inL p asl = true then ("asleep" : Str) else (behO sh wt fg p).getD ((ahdO sh fg p).getD ("ready" : Str)) := by
  unfold whyV behO ahdO
  by_cases h0 : p = 0
  · subst h0
    by_cases h1 : 0 + 1 = sh.length
    · have h6 : sh.length = 1 := by omega
      cases rs sh 0 <;> cases wt <;> cases inL ((0 : Nat) : Int) asl <;> simp [h6]
    · have h2 : 1 < sh.length := by omega
      have h3 : ¬ (1 = sh.length) := by omega
      cases rs sh 0 <;> cases rs sh 1 <;> cases wt <;> cases inL ((0 : Nat) : Int) asl <;> cases inL ((0 : Nat) : Int) fg <;> simp [h2, h3]
  · have h4 : 0 < p := by omega
    by_cases h1 : p + 1 = sh.length
    · have h5 : ¬ (p + 1 < sh.length) := by omega
      cases rs sh p <;> cases rs sh (p - 1) <;> cases inL (p : Int) asl <;> cases inL ((p : Int) - 1) fg <;> simp [h0, h1, h4, h5]
    · have h2 : p + 1 < sh.length := by omega
      cases rs sh p <;> cases rs sh (p - 1) <;> cases rs sh (p + 1) <;> cases inL (p : Int) asl <;> cases inL ((p : Int) - 1) fg <;> cases inL (p : Int) fg <;> simp [h0, h1, h2, h4]
def Told1 (o : Option Str) : Prop := o = none ∨ ∃ s, o = some s ∧ s.length ≤ 100 ∧ (((s.length : Nat) : Int) != 0) = true
theorem beh_told (sh : List Int) (wt : Bool) (fg : List Int) (p : Nat) : Told1 (behO sh wt fg p) := by
  unfold behO
  have t1 : Told1 (some "nothing comes") := .inr ⟨_, rfl, by decide +kernel, by decide +kernel⟩
  have t2 : Told1 (some "fog behind") := .inr ⟨_, rfl, by decide +kernel, by decide +kernel⟩
  have t3 : Told1 (some "still shown behind") := .inr ⟨_, rfl, by decide +kernel, by decide +kernel⟩
  have t0 : Told1 none := .inl rfl
  repeat' split
  all_goals first | exact t0 | exact t1 | exact t2 | exact t3
theorem ahd_told (sh : List Int) (fg : List Int) (p : Nat) : Told1 (ahdO sh fg p) := by
  unfold ahdO
  have t1 : Told1 (some "fog ahead") := .inr ⟨_, rfl, by decide +kernel, by decide +kernel⟩
  have t2 : Told1 (some "not clear ahead") := .inr ⟨_, rfl, by decide +kernel, by decide +kernel⟩
  have t3 : Told1 (some "not copied ahead") := .inr ⟨_, rfl, by decide +kernel, by decide +kernel⟩
  have t0 : Told1 none := .inl rfl
  repeat' split
  all_goals first | exact t0 | exact t1 | exact t2 | exact t3
def sp_p_hindrance_behind (K : PySem.W.Frag) : Sp := fun vs H Q _ => ∃ (a f : Addr) (sh fg : List Int) (wt : Bool) (p : Nat), vs = [.ref a, .bl wt, .ref f, .int (p : Int)] ∧ SqL K H a (sh.map V.int) ∧ SqL K H f (fg.map V.int) ∧ p < sh.length ∧ Q (oV (behO sh wt fg p)) H
theorem at_pred {sh : List Int} {p : Nat} (h0 : p ≠ 0) (h : p < sh.length) : atI (sh.map V.int) ((p : Int) - 1) = some (.int (sh.getD (p - 1) 0)) := by
  have e := getD_at (ns := sh) (j := p - 1) (by omega)
  rw [← e]
  congr 1
  omega
theorem at_succ {sh : List Int} {p : Nat} (h : p + 1 < sh.length) : atI (sh.map V.int) ((p : Int) + 1) = some (.int (sh.getD (p + 1) 0)) := by
  have e := getD_at (ns := sh) (j := p + 1) h
  rw [← e]
  congr 1
theorem ok_p_hindrance_behind (T : Txt K mg) : FnOk P w K mg base CX0 1 T.f_p_hindrance_behind T.d_p_hindrance_behind ["shown", "waits", "fogs", "place"] (sp_p_hindrance_behind K) := by
  refine T.F_p_hindrance_behind.ok sc_p_hindrance_behind (fun vs H Q E h => ?_) (fun cdv A outer s H vs Q E hr h => ?_)
  · obtain ⟨a, f, sh, fg, wt, p, rfl, _⟩ := h
    rfl
  · obtain ⟨a, f, sh, fg, wt, p, rfl, hS, hF, hp, k⟩ := h
    unfold behO at k
    refine ⟨_, (pss_cons (ps_set (i := 4) sc_p_hindrance_behind.nd rfl (by first | exact Or.inl rfl | exact Or.inr rfl) (pe_cmpR op_eq (pe_ix ix_list (pv 0) (pv 3) (fun _ _ => rfl)) (pe_glob rfl T.c_REST T.r_REST) (nomark _)))
      (pss_cons (ps_if (pt_cmpR op_eq (pv 3) pe_int (nomark _))
      (pss_one (ps_ret (pe_ifExp (PW.pt (pw_and (pt_val (pv 4)) (pw_and1 (pt_not (pt_val (pv 1)))))) pe_str pe_non)))
      pss_nil)
      (pss_cons (ps_if (pt_cmpR op_in_seq (pe_op op_sub (pv 3) pe_int) (pv 2) rfl)
      (pss_one (ps_ret pe_str))
      pss_nil)
      (pss_cons (ps_if (pt_cmpR op_eq (pv 4) (pe_cmpR op_eq (pe_ix ix_list (pv 0) (pe_op op_sub (pv 3) pe_int) (fun _ _ => rfl)) (pe_glob rfl T.c_REST T.r_REST) (nomark _)) (nomark _))
      (pss_one (ps_ret (pe_ifExp (pt_val (pv 4)) pe_str pe_str)))
      pss_nil)
      (pss_one (ps_ret pe_non)))))), ?_⟩
    refine ⟨_, rfl, _, rfl, a, _, _, _, rfl, rfl, hS, getD_at hp, rfl, ?_⟩
    refine ⟨_, rfl, rfl, _, rfl, iteD (fun c => ?_) (fun c => ?_)⟩
    · have c : p = 0 := by have := V.int.inj c; omega
      rw [if_pos c] at k
      refine ⟨_, rfl, _, rfl, iteB (fun c1 => ?_) (fun c1 => ?_)⟩
      · refine ⟨_, rfl, _, rfl, ?_⟩
        cases wt with
        | true =>
          rw [if_neg (by intro z; cases z.2)] at k
          exact iteFo rfl k
        | false =>
          rw [if_pos ⟨(show rs sh p = true from c1), rfl⟩] at k
          exact iteTo rfl k
      · rw [if_neg (by intro z; have z1 : rs sh p = true := z.1; rw [show rs sh p = false from c1] at z1; cases z1)] at k
        exact k
    · have c : ¬ p = 0 := fun z => c (by rw [z]; rfl)
      rw [if_neg c] at k
      refine ⟨_, rfl, _, _, rfl, rfl, _, rfl, f, _, rfl, .inl hF, rfl, flat_ints fg, _, rfl, iteB (fun c1 => ?_) (fun c1 => ?_)⟩
      · rw [if_pos (show inL ((p : Int) - 1) fg = true from c1)] at k
        exact k
      · rw [if_neg (by intro z; rw [show inL ((p : Int) - 1) fg = false from c1] at z; cases z)] at k
        refine ⟨_, rfl, _, rfl, _, rfl, _, _, rfl, rfl, a, _, _, _, rfl, rfl, hS, at_pred c hp, rfl, rfl, _, rfl, iteD (fun c2 => ?_) (fun c2 => ?_)⟩
        · rw [if_pos (show rs sh p = rs sh (p - 1) from V.bl.inj c2)] at k
          refine ⟨_, rfl, _, rfl, iteB (fun c3 => ?_) (fun c3 => ?_)⟩
          · rw [if_pos (show rs sh p = true from c3)] at k
            exact k
          · rw [if_neg (by intro z; rw [show rs sh p = false from c3] at z; cases z)] at k
            exact k
        · rw [if_neg (fun z : rs sh p = rs sh (p - 1) => c2 (congrArg V.bl z))] at k
          exact k
def sp_p_hindrance_ahead (K : PySem.W.Frag) : Sp := fun vs H Q _ => ∃ (a f : Addr) (sh fg : List Int) (p : Nat), vs = [.ref a, .ref f, .int (p : Int)] ∧ SqL K H a (sh.map V.int) ∧ SqL K H f (fg.map V.int) ∧ p < sh.length ∧ Q (oV (ahdO sh fg p)) H
theorem ok_p_hindrance_ahead (T : Txt K mg) : FnOk P w K mg base CX0 1 T.f_p_hindrance_ahead T.d_p_hindrance_ahead ["shown", "fogs", "place"] (sp_p_hindrance_ahead K) := by
  refine T.F_p_hindrance_ahead.ok sc_p_hindrance_ahead (fun vs H Q E h => ?_) (fun cdv A outer s H vs Q E hr h => ?_)
  · obtain ⟨a, f, sh, fg, p, rfl, _⟩ := h
    rfl
  · obtain ⟨a, f, sh, fg, p, rfl, hS, hF, hp, k⟩ := h
    unfold ahdO at k
    have hlen : ((sh.map V.int).length : Int) = (sh.length : Int) := by rw [List.length_map]
    refine ⟨_, (pss_cons (ps_if (pt_cmpR op_eq (pv 2) (pe_op op_sub (pe_callB call_len_seq (by rfl) T.m_len PySem.boot_len (pa_cons (pv 0) pa_nil)) pe_int) (nomark _))
      (pss_one (ps_ret pe_non))
      pss_nil)
      (pss_cons (ps_if (pt_cmpR op_in_seq (pv 2) (pv 1) rfl)
      (pss_one (ps_ret pe_str))
      pss_nil)
      (pss_cons (ps_set (i := 3) sc_p_hindrance_ahead.nd rfl (by first | exact Or.inl rfl | exact Or.inr rfl) (pe_cmpR op_eq (pe_ix ix_list (pv 0) (pv 2) (fun _ _ => rfl)) (pe_glob rfl T.c_REST T.r_REST) (nomark _)))
      (pss_cons (ps_if (pt_cmpR op_ne (pv 3) (pe_cmpR op_eq (pe_ix ix_list (pv 0) (pe_op op_add (pv 2) pe_int) (fun _ _ => rfl)) (pe_glob rfl T.c_REST T.r_REST) (nomark _)) (nomark _))
      (pss_one (ps_ret (pe_ifExp (pt_val (pv 3)) pe_str pe_str)))
      pss_nil)
      (pss_one (ps_ret pe_non)))))), ?_⟩
    refine ⟨_, rfl, _, rfl, a, _, rfl, .inl hS, _, _, rfl, rfl, rfl, _, rfl, iteD (fun c => ?_) (fun c => ?_)⟩
    · have c := V.int.inj c
      rw [hlen] at c
      rw [if_pos (by omega)] at k
      exact k
    · have c : ¬ (p + 1 = sh.length) := fun z => c (congrArg V.int (by rw [hlen]; omega))
      rw [if_neg c] at k
      refine ⟨_, rfl, _, rfl, f, _, rfl, .inl hF, rfl, flat_ints fg, _, rfl, iteB (fun c1 => ?_) (fun c1 => ?_)⟩
      · rw [if_pos (show inL (p : Int) fg = true from c1)] at k
        exact k
      · rw [if_neg (by intro z; rw [show inL (p : Int) fg = false from c1] at z; cases z)] at k
        refine ⟨_, rfl, _, rfl, a, _, _, _, rfl, rfl, hS, getD_at hp, rfl, ?_⟩
        refine ⟨_, rfl, _, rfl, _, rfl, _, _, rfl, rfl, a, _, _, _, rfl, rfl, hS, at_succ (by omega), rfl, rfl, _, rfl, iteN (fun c2 => ?_) (fun c2 => ?_)⟩
        · rw [if_neg (fun z : rs sh p = rs sh (p + 1) => c2 (congrArg V.bl z))] at k
          refine ⟨_, rfl, _, rfl, iteB (fun c3 => ?_) (fun c3 => ?_)⟩
          · rw [if_pos (show rs sh p = true from c3)] at k
            exact k
          · rw [if_neg (by intro z; rw [show rs sh p = false from c3] at z; cases z)] at k
            exact k
        · rw [if_pos (show rs sh p = rs sh (p + 1) from V.bl.inj c2)] at k
          exact k
def sp_p_reason (K : PySem.W.Frag) : Sp := fun vs H Q _ => ∃ (a s f : Addr) (sh asl fg : List Int) (wt : Bool) (p : Nat), vs = [.ref a, .bl wt, .ref s, .ref f, .int (p : Int)] ∧ SqL K H a (sh.map V.int) ∧ SqL K H s (asl.map V.int) ∧ SqL K H f (fg.map V.int) ∧ p < sh.length ∧ Q (.str (whyV sh wt asl fg p)) H
theorem ok_p_reason (T : Txt K mg) : FnOk P w K mg base CX0 2 T.f_p_reason T.d_p_reason ["shown", "waits", "asleep", "fogs", "place"] (sp_p_reason K) := by
  refine T.F_p_reason.ok sc_p_reason (fun vs H Q E h => ?_) (fun cdv A outer s H vs Q E hr h => ?_)
  · obtain ⟨a, s, f, sh, asl, fg, wt, p, rfl, _⟩ := h
    rfl
  · obtain ⟨a, s, f, sh, asl, fg, wt, p, rfl, hS, hA, hF, hp, k⟩ := h
    rw [why_prog hp] at k
    refine ⟨_, (pss_cons (ps_if (pt_cmpR op_in_seq (pv 4) (pv 2) rfl)
      (pss_one (ps_ret pe_str))
      pss_nil)
      (pss_one (ps_ret (pe_orT (pe_call (ok_p_hindrance_behind T) (hr.mono (by decide)) rfl T.g_p_hindrance_behind T.F_p_hindrance_behind.kp T.b_p_hindrance_behind .nil pass0 (pa_cons (pv 0) (pa_cons (pv 1) (pa_cons (pv 3) (pa_cons (pv 4) pa_nil))))) (pe_orT (pe_call (ok_p_hindrance_ahead T) (hr.mono (by decide)) rfl T.g_p_hindrance_ahead T.F_p_hindrance_ahead.kp T.b_p_hindrance_ahead .nil pass0 (pa_cons (pv 0) (pa_cons (pv 3) (pa_cons (pv 4) pa_nil)))) (pe_one (pe_glob rfl T.c_READY T.r_READY))))))), ?_⟩
    refine ⟨_, rfl, _, rfl, s, _, rfl, .inl hA, rfl, flat_ints asl, _, rfl, iteB (fun c1 => ?_) (fun c1 => ?_)⟩
    · rw [if_pos (show inL (p : Int) asl = true from c1)] at k
      exact k
    · rw [if_neg (by intro z; rw [show inL (p : Int) asl = false from c1] at z; cases z)] at k
      refine ⟨_, rfl, _, rfl, _, rfl, _, rfl, a, f, sh, fg, wt, p, rfl, hS, hF, hp, ?_⟩
      rcases beh_told sh wt fg p with e | ⟨z, e, z1, z2⟩
      · rw [e] at k ⊢
        refine ⟨false, rfl, iteFo rfl ?_⟩
        refine ⟨_, rfl, _, rfl, _, rfl, a, f, sh, fg, p, rfl, hS, hF, hp, ?_⟩
        rcases ahd_told sh fg p with e | ⟨z, e, z1, z2⟩
        · rw [e] at k ⊢
          exact ⟨false, rfl, iteFo rfl k⟩
        · rw [e] at k ⊢
          exact ⟨true, ⟨szl (by omega), z2.symm⟩, iteTo rfl k⟩
      · rw [e] at k ⊢
        exact ⟨true, ⟨szl (by omega), z2.symm⟩, iteTo rfl k⟩
/-! ### the law's own reason -/
/-! ### who is ready -/
def rdyB (sh : List Int) (wt : Bool) (asl fg : List Int) (p : Nat) : Bool := decide (V.str (whyV sh wt asl fg p) = V.str "ready")
def sp_p_ready (K : PySem.W.Frag) : Sp := fun vs H Q _ => ∃ (a s f : Addr) (sh asl fg : List Int) (wt : Bool), vs = [.ref a, .bl wt, .ref s, .ref f] ∧ SqL K H a (sh.map V.int) ∧ SqL K H s (asl.map V.int) ∧ SqL K H f (fg.map V.int) ∧ sh.length ≤ 1000 ∧ ∀ (p : Addr) (H' : Hp), Kp H H' → H p = none → H' p = some (.lst ((fil (rdyB sh wt asl fg) sh.length).map V.int)) → Q (.ref p) H'
theorem ok_p_ready (T : Txt K mg) : FnOk P w K mg base CX0 3 T.f_p_ready T.d_p_ready ["shown", "waits", "asleep", "fogs"] (sp_p_ready K) := by
  refine T.F_p_ready.ok sc_p_ready (fun vs H Q E h => ?_) (fun cdv A outer s H vs Q E hr h => ?_)
  · obtain ⟨a, s, f, sh, asl, fg, wt, rfl, _⟩ := h
    rfl
  · obtain ⟨a, s, f, sh, asl, fg, wt, rfl, hS, hA, hF, hn, k⟩ := h
    refine ⟨_, (pss_one (ps_ret (pe_lc (own := [("place", 4)]) (g := gName 4) (by rfl) sc_p_ready.nd (pi_range1 (by rfl) T.m_range (pa_cons (pe_callB call_len_seq (by rfl) T.m_len PySem.boot_len (pa_cons (pv 0) pa_nil)) pa_nil)) (blkOk_by (own := [("place", 4)]) (N := ["shown", "waits", "asleep", "fogs", "place"]) (sc := defScope s_p_ready) (by decide +kernel)) (fun _ _ _ _ _ => (pg_name (i := 4) sc_p_ready.nd rfl (by first | exact Or.inl rfl | exact Or.inr rfl))) (fun _ _ _ _ _ => (pts_one (pt_cmpR op_eq (pe_call (ok_p_reason (P := P) (w := w) (base := base) T) (hr.mono (by decide)) rfl T.g_p_reason T.F_p_reason.kp T.b_p_reason .nil pass0 (pa_cons (pv 0) (pa_cons (pv 1) (pa_cons (pv 2) (pa_cons (pv 3) (pa_cons (pv 4) pa_nil)))))) (pe_glob rfl T.c_READY T.r_READY) (nomark _)))) (fun _ _ _ _ _ => (pv 4))))), ?_⟩
    refine ⟨_, rfl, a, _, rfl, .inl hS, _, rfl, by omega, by rw [List.length_map]; omega, fun D hD => ?_⟩
    rw [Int.toNat_natCast, List.length_map]
    refine lc_range (lo := 0) (n := sh.length) (fun i H' => Kp H H' ∧ H' D = some (.lst ((fil (rdyB sh wt asl fg) i).map V.int))) ⟨Kp.new hD, upd_same⟩ (fun i H' hi ⟨kp, hDl⟩ => ?_) (fun H' ⟨kp, hDl⟩ => k D H' kp hD hDl)
    have ez : (0 : Int) + (i : Int) = (i : Int) := Int.zero_add _
    rw [ez]
    refine ⟨rfl, ?_⟩
    refine ⟨_, rfl, _, rfl, _, rfl, _, rfl, _, rfl, a, s, f, sh, asl, fg, wt, i, rfl, kp.sqL hS, kp.sqL hA, kp.sqL hF, hi, rfl, _, rfl, iteB (fun c => ?_) (fun c => ?_)⟩
    · have c : rdyB sh wt asl fg i = true := c
      refine ⟨_, rfl, _, hDl, szt (by rw [List.length_map]; have := fil_len (rdyB sh wt asl fg) i; omega), kp.mut hD, ?_⟩
      rw [upd_same, fil_yes c, List.map_append]
      rfl
    · have c : rdyB sh wt asl fg i = false := c
      exact ⟨kp, by rw [fil_no c]; exact hDl⟩
/-! ### acts of a motion -/
def whyM (m : Mo) (p : Nat) : Str := whyV m.sh (!m.q.isEmpty) m.sl m.fg p
def rdyM (m : Mo) : Nat → Bool := rdyB m.sh (!m.q.isEmpty) m.sl m.fg
def rdysM (m : Mo) : List Int := fil (rdyM m) m.sh.length
def cmM (m : Mo) (p : Nat) : Int := if p = 0 then m.q.headD 0 else m.sh.getD (p - 1) 0
def Mo.rise (m : Mo) (p : Nat) (seen shows : Int) : Mo := ⟨m.sh.set p shows, if p = 0 then m.q.tail else m.q, m.sl, m.fg, m.wr.set p (m.wr.getD p [] ++ [seen])⟩
def Mo.move (m : Mo) (p : Nat) : Mo := if m.sh.getD p 0 = 0 then m.rise p (cmM m p) (cmM m p) else { m with sh := m.sh.set p 0 }
theorem isEmpty_int (xs : List Int) : (xs.map V.int).isEmpty = xs.isEmpty := by cases xs <;> rfl
theorem ls_mem {a : MA} : (a.sh ∈ a.ls ∧ a.qu ∈ a.ls) ∧ ∀ b ∈ a.ws, b ∈ a.ls := ⟨⟨by simp [MA.ls], by simp [MA.ls]⟩, fun b hb => by simp [MA.ls, hb]⟩
/-- one list of a motion changes -/
theorem MotAt.put {K : PySem.W.Frag} {H : Hp} {a : MA} {m m' : Mo} (h : MotAt K H a m) {y : Addr} {vs : List V} {xs : List V} (hy : H y = some (.lst vs))
    (c1 : y = a.sh ∨ m'.sh = m.sh ∧ y ≠ a.sh) (c2 : y = a.qu ∨ m'.q = m.q ∧ y ≠ a.qu) (c3 : m'.sl = m.sl ∧ y ≠ a.sl) (c4 : m'.fg = m.fg ∧ y ≠ a.fg) (c5 : y ≠ a.wr) (c6 : m'.wr.length = m.wr.length)
    (d1 : y = a.sh → xs = m'.sh.map V.int) (d2 : y = a.qu → xs = m'.q.map V.int) (d3 : ∀ (i : Nat) (b : Addr) (l : List Int), a.ws[i]? = some b → m'.wr[i]? = some l → (b = y ∧ xs = l.map V.int) ∨ (b ≠ y ∧ m.wr[i]? = some l)) : MotAt K (upd H y (.lst xs)) a m' := by
  obtain ⟨dx, ho⟩ := h.ob
  refine ⟨⟨dx, ?_⟩, ?_, ?_, ?_, ?_, ?_, by rw [c6]; exact h.len, fun i b l e f => ?_, h.nd⟩
  · rw [upd_ne (ne_of ho hy (by intro z; cases z))]
    exact ho
  · rcases c1 with e | ⟨e, n⟩
    · rw [← e, upd_same, d1 e]
    · rw [upd_ne n.symm, e]
      exact h.sh
  · rcases c2 with e | ⟨e, n⟩
    · rw [← e, upd_same, d2 e]
    · rw [upd_ne n.symm, e]
      exact h.qu
  · rw [upd_ne c3.2.symm, c3.1]
    exact h.sl
  · rw [upd_ne c4.2.symm, c4.1]
    exact h.fg
  · rw [upd_ne c5.symm]
    exact h.wr
  · rcases d3 i b l e f with ⟨e1, e2⟩ | ⟨e1, e2⟩
    · rw [e1, upd_same, e2]
    · rw [upd_ne e1]
      exact h.ws i b l e e2
theorem MotAt.nes {K : PySem.W.Frag} {H : Hp} {a : MA} {m : Mo} (h : MotAt K H a m) : (a.sh ≠ a.qu ∧ a.sh ≠ a.sl ∧ a.sh ≠ a.fg ∧ a.sh ≠ a.wr ∧ a.sh ∉ a.ws) ∧ (a.qu ≠ a.sl ∧ a.qu ≠ a.fg ∧ a.qu ≠ a.wr ∧ a.qu ∉ a.ws) ∧ (a.sl ∉ a.ws ∧ a.fg ∉ a.ws ∧ a.wr ∉ a.ws) ∧ a.ws.Nodup := by
  have h := h.nd
  simp only [MA.ls, List.nodup_cons, List.mem_cons, not_or] at h
  obtain ⟨⟨h1, h2, h3, h4, h5⟩, ⟨h6, h7, h8, h9⟩, ⟨_, _, h10⟩, ⟨_, h11⟩, h12, h13⟩ := h
  exact ⟨⟨h1, h2, h3, h4, h5⟩, ⟨h6, h7, h8, h9⟩, ⟨h10, h11, h12⟩, h13⟩
theorem MotAt.putSh {K : PySem.W.Frag} {H : Hp} {a : MA} {m : Mo} (h : MotAt K H a m) (xs : List Int) : MotAt K (upd H a.sh (.lst (xs.map V.int))) a { m with sh := xs } := by
  obtain ⟨⟨h1, h2, h3, h4, h5⟩, _⟩ := h.nes
  exact h.put (m' := { m with sh := xs }) h.sh (.inl rfl) (.inr ⟨rfl, h1⟩) ⟨rfl, h2⟩ ⟨rfl, h3⟩ h4 rfl (fun _ => rfl) (fun z => absurd z h1) (fun i b l e f => .inr ⟨fun z => h5 (z ▸ List.mem_of_getElem? e), f⟩)
theorem MotAt.putQ {K : PySem.W.Frag} {H : Hp} {a : MA} {m : Mo} (h : MotAt K H a m) (xs : List Int) : MotAt K (upd H a.qu (.lst (xs.map V.int))) a { m with q := xs } := by
  obtain ⟨⟨h1, _⟩, ⟨h2, h3, h4, h5⟩, _⟩ := h.nes
  exact h.put (m' := { m with q := xs }) h.qu (.inr ⟨rfl, h1.symm⟩) (.inl rfl) ⟨rfl, h2⟩ ⟨rfl, h3⟩ h4 rfl (fun z => absurd z.symm h1) (fun _ => rfl) (fun i b l e f => .inr ⟨fun z => h5 (z ▸ List.mem_of_getElem? e), f⟩)
theorem MotAt.putW {K : PySem.W.Frag} {H : Hp} {a : MA} {m : Mo} (h : MotAt K H a m) {p : Nat} {b : Addr} (hb : a.ws[p]? = some b) (xs : List Int) : MotAt K (upd H b (.lst (xs.map V.int))) a { m with wr := m.wr.set p xs } := by
  obtain ⟨⟨_, _, _, _, h1⟩, ⟨_, _, _, h2⟩, ⟨h3, h4, h5⟩, hnd⟩ := h.nes
  have mb := List.mem_of_getElem? hb
  have hp := (List.getElem?_eq_some_iff.mp hb).1
  have hpw : p < m.wr.length := by rw [← h.len]; exact hp
  have nn : ∀ {c : Addr}, c ∉ a.ws → b ≠ c := fun hc z => hc (z ▸ mb)
  refine h.put (m' := { m with wr := m.wr.set p xs }) (h.ws p b _ hb (List.getElem?_eq_getElem hpw)) (.inr ⟨rfl, nn h1⟩) (.inr ⟨rfl, nn h2⟩) ⟨rfl, nn h3⟩ ⟨rfl, nn h4⟩ (nn h5) (List.length_set ..) (fun z => absurd z (nn h1)) (fun z => absurd z (nn h2)) (fun i c l e f => ?_)
  have f : (m.wr.set p xs)[i]? = some l := f
  rw [List.getElem?_set] at f
  by_cases z : p = i
  · subst z
    rw [if_pos rfl, if_pos hpw] at f
    rw [hb] at e
    exact .inl ⟨(Option.some.inj e).symm, by rw [Option.some.inj f]⟩
  · rw [if_neg z] at f
    refine .inr ⟨fun y => z ?_, f⟩
    rw [y] at e
    exact (List.getElem?_inj hp hnd).mp (hb.trans e.symm)
def sp_p_Motion_why (K : PySem.W.Frag) : Sp := fun vs H Q _ => ∃ (a : MA) (m : Mo) (p : Nat), vs = [.ref a.m, .int (p : Int)] ∧ MotAt K H a m ∧ p < m.sh.length ∧ Q (.str (whyM m p)) H
theorem ok_p_Motion_why (T : Txt K mg) : FnOk P w K mg base CX0 3 T.f_p_Motion_why T.d_p_Motion_why ["self", "place"] (sp_p_Motion_why K) := by
  refine T.F_p_Motion_why.ok sc_p_Motion_why (fun vs H Q E h => ?_) (fun cdv A outer s H vs Q E hr h => ?_)
  · obtain ⟨a, m, p, rfl, _⟩ := h
    rfl
  · obtain ⟨a, m, p, rfl, hM, hp, k⟩ := h
    refine ⟨_, (pss_one (ps_ret (pe_call (ok_p_reason T) (hr.mono (by decide)) rfl T.g_p_reason T.F_p_reason.kp T.b_p_reason .nil pass0 (pa_cons (pe_fld (pv 0) rfl) (pa_cons (pe_callTy call_boolL (by rfl) T.m_bool (by decide +kernel) (pa_cons (pe_fld (pv 0) rfl) pa_nil)) (pa_cons (pe_fld (pv 0) rfl) (pa_cons (pe_fld (pv 0) rfl) (pa_cons (pv 1) pa_nil)))))))), ?_⟩
    obtain ⟨dx, ho⟩ := hM.ob
    refine ⟨_, rfl, a.m, _, dx, _, _, rfl, ho, T.cl_Motion, T.n_Motion_shown, fldM_sh _, _, rfl, a.m, _, dx, _, _, rfl, ho, T.cl_Motion, T.n_Motion_queue, fldM_qu _, a.qu, _, rfl, SqL.of hM.qu, _, rfl, a.m, _, dx, _, _, rfl, ho, T.cl_Motion, T.n_Motion_sleepers, fldM_sl _, _, rfl, a.m, _, dx, _, _, rfl, ho, T.cl_Motion, T.n_Motion_fogged, fldM_fg _, _, rfl, a.sh, a.sl, a.fg, m.sh, m.sl, m.fg, !m.q.isEmpty, p, by rw [isEmpty_int]; rfl, SqL.of hM.sh, SqL.of hM.sl, SqL.of hM.fg, hp, k⟩
def sp_p_Motion_ready_places (K : PySem.W.Frag) : Sp := fun vs H Q _ => ∃ (a : MA) (m : Mo), vs = [.ref a.m] ∧ MotAt K H a m ∧ m.sh.length ≤ 1000 ∧ ∀ (r : Addr) (H' : Hp), H r = none → Kp H H' → H' r = some (.lst ((rdysM m).map V.int)) → Q (.ref r) H'
theorem ok_p_Motion_ready_places (T : Txt K mg) : FnOk P w K mg base CX0 4 T.f_p_Motion_ready_places T.d_p_Motion_ready_places ["self"] (sp_p_Motion_ready_places K) := by
  refine T.F_p_Motion_ready_places.ok sc_p_Motion_ready_places (fun vs H Q E h => ?_) (fun cdv A outer s H vs Q E hr h => ?_)
  · obtain ⟨a, m, rfl, _⟩ := h
    rfl
  · obtain ⟨a, m, rfl, hM, hp, k⟩ := h
    refine ⟨_, (pss_one (ps_ret (pe_call (ok_p_ready T) (hr.mono (by decide)) rfl T.g_p_ready T.F_p_ready.kp T.b_p_ready .nil pass0 (pa_cons (pe_fld (pv 0) rfl) (pa_cons (pe_callTy call_boolL (by rfl) T.m_bool (by decide +kernel) (pa_cons (pe_fld (pv 0) rfl) pa_nil)) (pa_cons (pe_fld (pv 0) rfl) (pa_cons (pe_fld (pv 0) rfl) pa_nil))))))), ?_⟩
    obtain ⟨dx, ho⟩ := hM.ob
    refine ⟨_, rfl, a.m, _, dx, _, _, rfl, ho, T.cl_Motion, T.n_Motion_shown, fldM_sh _, _, rfl, a.m, _, dx, _, _, rfl, ho, T.cl_Motion, T.n_Motion_queue, fldM_qu _, a.qu, _, rfl, SqL.of hM.qu, _, rfl, a.m, _, dx, _, _, rfl, ho, T.cl_Motion, T.n_Motion_sleepers, fldM_sl _, _, rfl, a.m, _, dx, _, _, rfl, ho, T.cl_Motion, T.n_Motion_fogged, fldM_fg _, a.sh, a.sl, a.fg, m.sh, m.sl, m.fg, !m.q.isEmpty, by rw [isEmpty_int]; rfl, SqL.of hM.sh, SqL.of hM.sl, SqL.of hM.fg, hp, fun p H' kp np hp' => k p H' np kp hp'⟩
def sp_p_Motion_coming (K : PySem.W.Frag) : Sp := fun vs H Q _ => ∃ (a : MA) (m : Mo) (p : Nat), vs = [.ref a.m, .int (p : Int)] ∧ MotAt K H a m ∧ p < m.sh.length ∧ (p = 0 → m.q ≠ []) ∧ Q (.int (cmM m p)) H
theorem ok_p_Motion_coming (T : Txt K mg) : FnOk P w K mg base CX0 1 T.f_p_Motion_coming T.d_p_Motion_coming ["self", "place"] (sp_p_Motion_coming K) := by
  refine T.F_p_Motion_coming.ok sc_p_Motion_coming (fun vs H Q E h => ?_) (fun cdv A outer s H vs Q E hr h => ?_)
  · obtain ⟨a, m, p, rfl, _⟩ := h
    rfl
  · obtain ⟨a, m, p, rfl, hM, hp, hq, k⟩ := h
    refine ⟨_, (pss_one (ps_ret (pe_ifExp (pt_cmpR op_eq (pv 1) pe_int (nomark _)) (pe_ix ix_list (pe_fld (pv 0) rfl) pe_int (fun _ _ => rfl)) (pe_ix ix_list (pe_fld (pv 0) rfl) (pe_op op_sub (pv 1) pe_int) (fun _ _ => rfl))))), ?_⟩
    obtain ⟨dx, ho⟩ := hM.ob
    unfold cmM at k
    by_cases z : p = 0
    · subst z
      rw [if_pos rfl] at k
      obtain ⟨q0, qr, eq⟩ : ∃ q0 qr, m.q = q0 :: qr := List.exists_cons_of_ne_nil (hq rfl)
      have hqu := hM.qu
      rw [eq] at k hqu
      exact ⟨_, rfl, rfl, _, rfl, iteTo dec_self ⟨_, rfl, a.m, _, dx, _, _, rfl, ho, T.cl_Motion, T.n_Motion_queue, fldM_qu _, a.qu, _, _, _, rfl, rfl, SqL.of hqu, at_0, k⟩⟩
    · rw [if_neg z] at k
      refine ⟨_, rfl, rfl, _, rfl, iteFo (decide_eq_false fun y => z (by have := V.int.inj y; omega)) ⟨_, rfl, a.m, _, dx, _, _, rfl, ho, T.cl_Motion, T.n_Motion_shown, fldM_sh _, _, rfl, _, _, rfl, rfl, a.sh, _, _, _, rfl, rfl, SqL.of hM.sh, ?_, k⟩⟩
      have e : (p : Int) - 1 = ((p - 1 : Nat) : Int) := by omega
      show atI _ ((p : Int) - 1) = _
      rw [e]
      exact getD_at (by omega)
/-! ### raising, moving, beats of a motion -/
structure Mo.Ok (m : Mo) (n B : Nat) : Prop where
  sh : m.sh.length = n
  wr : m.wr.length = n
  few : ∀ l ∈ m.wr, l.length ≤ B
theorem Mo.Ok.mono {m : Mo} {n B B' : Nat} (o : m.Ok n B) (h : B ≤ B') : m.Ok n B' := ⟨o.sh, o.wr, fun l hl => Nat.le_trans (o.few l hl) h⟩
theorem rise_ok {m : Mo} {n B p : Nat} {seen shows : Int} (o : m.Ok n B) : (m.rise p seen shows).Ok n (B + 1) := by
  refine ⟨(List.length_set ..).trans o.sh, (List.length_set ..).trans o.wr, fun l hl => ?_⟩
  rcases List.mem_or_eq_of_mem_set hl with h | h
  · exact Nat.le_succ_of_le (o.few l h)
  · rw [h, List.length_append]
    rw [List.getD_eq_getElem?_getD]
    cases e : m.wr[p]? with
    | none => simp
    | some l' =>
      have := o.few l' (List.mem_of_getElem? e)
      exact Nat.add_le_add_right this 1
theorem move_ok {m : Mo} {n B p : Nat} (o : m.Ok n B) : (m.move p).Ok n (B + 1) := by
  unfold Mo.move
  split
  · exact rise_ok o
  · exact (Mo.Ok.mono ⟨(List.length_set ..).trans o.sh, o.wr, o.few⟩ (Nat.le_succ _))
def sp_p_Motion_raise_arms (K : PySem.W.Frag) : Sp := fun vs H Q _ => ∃ (a : MA) (m : Mo) (p n B : Nat) (seen shows : Int), vs = [.ref a.m, .int (p : Int), .int seen, .int shows] ∧ MotAt K H a m ∧ m.Ok n B ∧ B ≤ 9000 ∧ n ≤ 1000 ∧ p < n ∧ (p = 0 → m.q ≠ []) ∧
  ∀ H', KpE (footM a) H H' → MotAt K H' a (m.rise p seen shows) → Q .non H'
theorem ok_p_Motion_raise_arms (T : Txt K mg) : FnOk P w K mg base CX0 1 T.f_p_Motion_raise_arms T.d_p_Motion_raise_arms ["self", "place", "seen", "shows"] (sp_p_Motion_raise_arms K) := by
  refine T.F_p_Motion_raise_arms.ok sc_p_Motion_raise_arms (fun vs H Q E h => ?_) (fun cdv A outer s H vs Q E hr h => ?_)
  · obtain ⟨a, m, p, n, B, seen, shows, rfl, _⟩ := h
    rfl
  · obtain ⟨a, m, p, n, B, seen, shows, rfl, hM, ok, hB, hn, hp, hq, k⟩ := h
    refine ⟨_, (Evl.pss_cut (ps_if (pt_cmpR op_eq (pv 1) pe_int (nomark _))
      (pss_one (ps_expr (pe_bm PySem.F.plainAttrs_list PySem.F.slot_list_pop PySem.F.type_list_pop mt_popAt (pe_fld (pv 0) rfl) (pa_cons pe_int pa_nil))))
      pss_nil)
      (pss_cons (ps_expr (pe_bm PySem.F.plainAttrs_list PySem.F.slot_list_append PySem.F.type_list_append mt_append (pe_ix ix_list (pe_fld (pv 0) rfl) (pv 1) (fun _ _ => rfl)) (pa_cons (pv 2) pa_nil)))
      (pss_one (ps_asg (pv 3) (pg_sub (pe_fld (pv 0) rfl) (pv 1) set_list))))), ?_⟩
    have lsh := ok.sh
    have lwr := ok.wr
    have lws := hM.len
    obtain ⟨b, hb⟩ : ∃ b, a.ws[p]? = some b := ⟨a.ws[p]'(by omega), List.getElem?_eq_getElem _⟩
    have hl : m.wr[p]? = some (m.wr.getD p []) := by
      rw [List.getD_eq_getElem?_getD, List.getElem?_eq_getElem (show p < m.wr.length by omega)]
      rfl
    have hfew := ok.few _ (List.mem_of_getElem? hl)
    refine ⟨fun σ' G => ∃ q', σ' = [some (.ref a.m), some (.int (p : Int)), some (.int seen), some (.int shows)] ∧ q' = (if p = 0 then m.q.tail else m.q) ∧ KpE (footM a) H G ∧ MotAt K G a { m with q := q' }, ?_, ?_⟩
    · obtain ⟨dx, ho⟩ := hM.ob
      by_cases z : p = 0
      · subst z
        obtain ⟨q0, qr, eq⟩ : ∃ q0 qr, m.q = q0 :: qr := List.exists_cons_of_ne_nil (hq rfl)
        have hqu := hM.qu
        rw [eq] at hqu
        refine ⟨_, rfl, rfl, _, rfl, iteTo dec_self ⟨_, rfl, a.m, _, dx, _, _, rfl, ho, T.cl_Motion, T.n_Motion_queue, fldM_qu _, .inl ⟨rfl, _, SqL.of hqu⟩, a.qu, _, 0, 0, .int q0, rfl, rfl, hqu, by decide, by decide, (ixN_seq (by unfold ixN; rw [if_pos (by decide), if_pos (by rw [List.length_map, List.length_cons]; omega)]; rfl)).1, rfl, ?_⟩⟩
        refine ⟨qr, rfl, by rw [eq]; rfl, KpE.put hqu rfl (by simp [footM]), ?_⟩
        exact hM.putQ qr
      · refine ⟨_, rfl, rfl, _, rfl, iteFo (decide_eq_false fun y => z (by have := V.int.inj y; omega)) ?_⟩
        exact ⟨m.q, rfl, by rw [if_neg z], KpE.of (.refl _), hM⟩
    rintro σ' G ⟨q', rfl, eq', kG, hMG⟩
    obtain ⟨dx, ho⟩ := hMG.ob
    have hbl := hMG.ws p b _ hb hl
    have mb := List.mem_of_getElem? hb
    have hat : atI (a.ws.map V.ref) (p : Int) = some (.ref b) := atI_nat (by rw [List.getElem?_map, hb]; rfl)
    refine ⟨_, rfl, a.m, _, dx, _, _, rfl, ho, T.cl_Motion, T.n_Motion_written, fldM_wr _, _, rfl, a.wr, _, _, .ref b, rfl, rfl, SqL.of hMG.wr, hat, .inl ⟨rfl, _, SqL.of hbl⟩, _, rfl, b, _, _, rfl, rfl, hbl, szt (by rw [List.length_map]; omega), ?_⟩
    have hM2 := hMG.putW hb (m.wr.getD p [] ++ [seen])
    have e2 : KpE (footM a) G (upd G b (.lst ((m.wr.getD p [] ++ [seen]).map V.int))) := KpE.put hbl rfl (by simp [footM, mb])
    rw [show (m.wr.getD p []).map V.int ++ [V.int seen] = (m.wr.getD p [] ++ [seen]).map V.int by rw [List.map_append]; rfl]
    generalize upd G b (.lst ((m.wr.getD p [] ++ [seen]).map V.int)) = G2 at hM2 e2 ⊢
    obtain ⟨dx2, ho2⟩ := hM2.ob
    refine ⟨_, rfl, _, rfl, a.m, _, dx2, _, _, rfl, ho2, T.cl_Motion, T.n_Motion_shown, fldM_sh _, _, rfl, a.sh, _, _, p, rfl, rfl, hM2.sh, ?_, ?_⟩
    · unfold ixN
      rw [if_pos (by omega), if_pos (by rw [List.length_map]; show (p : Int) < (m.sh.length : Int); omega), Int.toNat_natCast]
    · have e3 : KpE (footM a) G2 (upd G2 a.sh (.lst ((m.sh.set p shows).map V.int))) := KpE.put hM2.sh rfl (by simp [footM])
      have hM3 := hM2.putSh (m.sh.set p shows)
      show Q .non (upd G2 a.sh (.lst ((m.sh.map V.int).set p (.int shows))))
      rw [← List.map_set]
      refine k _ ((kG.trans e2).trans e3) ?_
      unfold Mo.rise
      rw [← eq']
      exact hM3
def sp_p_Motion_move (K : PySem.W.Frag) : Sp := fun vs H Q _ => ∃ (a : MA) (m : Mo) (p n B : Nat), vs = [.ref a.m, .int (p : Int)] ∧ MotAt K H a m ∧ m.Ok n B ∧ B ≤ 9000 ∧ n ≤ 1000 ∧ p < n ∧ (p = 0 → m.sh.getD 0 0 = 0 → m.q ≠ []) ∧
  ∀ H', KpE (footM a) H H' → MotAt K H' a (m.move p) → Q .non H'
theorem ok_p_Motion_move (T : Txt K mg) : FnOk P w K mg base CX0 2 T.f_p_Motion_move T.d_p_Motion_move ["self", "place"] (sp_p_Motion_move K) := by
  refine T.F_p_Motion_move.ok sc_p_Motion_move (fun vs H Q E h => ?_) (fun cdv A outer s H vs Q E hr h => ?_)
  · obtain ⟨a, m, p, n, B, rfl, _⟩ := h
    rfl
  · obtain ⟨a, m, p, n, B, rfl, hM, ok, hB, hn, hp, hq, k⟩ := h
    refine ⟨_, (pss_one (ps_if (pt_cmpR op_eq (pe_ix ix_list (pe_fld (pv 0) rfl) (pv 1) (fun _ _ => rfl)) (pe_glob rfl T.c_REST T.r_REST) (nomark _))
      (pss_cons (ps_set (i := 2) sc_p_Motion_move.nd rfl (by first | exact Or.inl rfl | exact Or.inr rfl) (pe_meth (pv 0) T.cl_Motion T.M_p_Motion_coming (ok_p_Motion_coming T) (hr.mono (by decide)) T.b_p_Motion_coming .nil pass0 (pa_cons (pv 1) pa_nil)))
      (pss_one (ps_expr (pe_meth (pv 0) T.cl_Motion T.M_p_Motion_raise_arms (ok_p_Motion_raise_arms T) (hr.mono (by decide)) T.b_p_Motion_raise_arms .nil pass0 (pa_cons (pv 1) (pa_cons (pv 2) (pa_cons (pv 2) pa_nil)))))))
      (pss_one (ps_asg (pe_glob rfl T.c_REST T.r_REST) (pg_sub (pe_fld (pv 0) rfl) (pv 1) set_list))))), ?_⟩
    obtain ⟨dx, ho⟩ := hM.ob
    have lsh := ok.sh
    have fno : (fldM a).lookup ("coming" : Str) = none := fldM_no _ (by decide +kernel) (by decide +kernel) (by decide +kernel) (by decide +kernel) (by decide +kernel)
    have fno2 : (fldM a).lookup ("raise_arms" : Str) = none := fldM_no _ (by decide +kernel) (by decide +kernel) (by decide +kernel) (by decide +kernel) (by decide +kernel)
    unfold Mo.move at k
    refine ⟨_, rfl, a.m, _, dx, _, _, rfl, ho, T.cl_Motion, T.n_Motion_shown, fldM_sh _, _, rfl, a.sh, _, _, _, rfl, rfl, SqL.of hM.sh, getD_at (show p < m.sh.length by omega), rfl, _, rfl, ?_⟩
    by_cases c : m.sh.getD p 0 = 0
    · rw [if_pos c] at k
      have hq' : p = 0 → m.q ≠ [] := fun z => hq z (by rw [← z]; exact c)
      refine iteTo (by rw [c]; exact dec_self) ?_
      refine ⟨_, rfl, a.m, dx, _, rfl, ho, fno, _, rfl, a, m, p, rfl, hM, by omega, hq', ?_⟩
      exact ⟨_, rfl, a.m, dx, _, rfl, ho, fno2, _, rfl, _, rfl, _, rfl, a, m, p, n, B, _, _, rfl, hM, ok, hB, hn, hp, hq', k⟩
    · rw [if_neg c] at k
      refine iteFo (decide_eq_false fun y => c (V.int.inj y)) ?_
      refine ⟨_, rfl, a.m, _, dx, _, _, rfl, ho, T.cl_Motion, T.n_Motion_shown, fldM_sh _, _, rfl, a.sh, _, _, p, rfl, rfl, hM.sh, ?_, ?_⟩
      · unfold ixN
        rw [if_pos (by omega), if_pos (by rw [List.length_map]; omega), Int.toNat_natCast]
      · show Q .non (upd H a.sh (.lst ((m.sh.map V.int).set p (.int 0))))
        rw [← List.map_set]
        exact k _ (KpE.put hM.sh rfl (by simp [footM])) (hM.putSh _)
/-! ### books -/
theorem dp_rows {K : PySem.W.Frag} {H : Hp} : ∀ {rs : List (Int × Bool)} {vs : List V}, DpAll K H vs (rs.map rowD) → vs.length = rs.length := fun h => by rw [DpAll.len h, List.length_map]
def sp_p_State_count_of (P : Program) (w : World) (K : PySem.W.Frag) : Sp := fun vs H Q _ => ∃ (a : LA) (c : LC) (u : Bool) (m : Nat) (rs : List PyData), vs = [.ref a.s, .str (wayN u), .int (m : Int)] ∧ StateAt P w K H a c ∧ m < c.n ∧ c.row (.b u m) = rs ∧ ∀ H', Kp H H' → Q (.int (rs.length : Int)) H'
theorem key_b_mk (u : Bool) (m : Nat) : (RK.b u m).mk = .u [Sum.inr "book", Sum.inr (wayN u), Sum.inl (m : Int)] := rfl
theorem ok_p_State_count_of (T : Txt K mg) : FnOk P w K mg base CX0 2 T.f_p_State_count_of T.d_p_State_count_of ["self", "way", "mast"] (sp_p_State_count_of P w K) := by
  refine T.F_p_State_count_of.ok sc_p_State_count_of (fun vs H Q E h => ?_) (fun cdv A outer s H vs Q E hr h => ?_)
  · obtain ⟨a, c, u, m, rs, rfl, _⟩ := h
    rfl
  · obtain ⟨a, c, u, m, rs, rfl, hS, hm, hrw, k⟩ := h
    have hu := hu_of hr
    refine ⟨_, (pss_one (ps_ret (pe_callB call_len_seq (by rfl) T.m_len PySem.boot_len (pa_cons (pe_mgetK P w rfl rfl hu (pe_fld (pv 0) rfl) (pe_call (ok_p_book_of T) (hr.mono (by decide)) rfl T.g_p_book_of T.F_p_book_of.kp T.b_p_book_of .nil pass0 (pa_cons (pv 1) (pa_cons (pv 2) pa_nil))) (fun _ _ => rfl)) pa_nil)))), ?_⟩
    obtain ⟨dx, hs⟩ := hS.ob
    refine ⟨_, rfl, a.s, _, dx, _, _, rfl, hs, T.cl_State, T.n_State_rows, fldS_rows _ _, _, rfl, _, rfl, wayN u, _, rfl, fun t H2 nt k2 ht => ?_⟩
    have hS2 := hS.kp k2
    obtain ⟨kvs, m1, m2, ky, m3⟩ := hS2.get (key_b u hm)
    obtain ⟨vs, h1, h2⟩ := hS2.cont.at_ (.b u m) (key_b u hm)
    rw [hrw] at h2
    refine ⟨a.R, kvs, (RK.b u m).mk, _, rfl, m1, m2, ⟨t, rfl, ht⟩, ⟨ky, m3⟩, a.ad (.b u m), _, rfl, .inl (SqL.of h1), ?_⟩
    rw [DpAll.len h2]
    exact k H2 k2
def sp_p_State_book (P : Program) (w : World) (K : PySem.W.Frag) : Sp := fun vs H Q _ => ∃ (a : LA) (c : LC) (u : Bool) (m : Nat) (rs : List PyData), vs = [.ref a.s, .str (wayN u), .int (m : Int)] ∧ StateAt P w K H a c ∧ m < c.n ∧ c.row (.b u m) = rs ∧ ∀ (r : Addr) (xs : List V) (H' : Hp), H r = none → Kp H H' → H' r = some (.lst xs) → DpAll K H' xs rs → Q (.ref r) H'
theorem ok_p_State_book (T : Txt K mg) : FnOk P w K mg base CX0 2 T.f_p_State_book T.d_p_State_book ["self", "way", "mast"] (sp_p_State_book P w K) := by
  refine T.F_p_State_book.ok sc_p_State_book (fun vs H Q E h => ?_) (fun cdv A outer s H vs Q E hr h => ?_)
  · obtain ⟨a, c, u, m, rs, rfl, _⟩ := h
    rfl
  · obtain ⟨a, c, u, m, rs, rfl, hS, hm, hrw, k⟩ := h
    have hu := hu_of hr
    refine ⟨_, (pss_one (ps_ret (pe_callTy call_list_of (by rfl) T.m_list (by decide +kernel) (pa_cons (pe_mgetK P w rfl rfl hu (pe_fld (pv 0) rfl) (pe_call (ok_p_book_of T) (hr.mono (by decide)) rfl T.g_p_book_of T.F_p_book_of.kp T.b_p_book_of .nil pass0 (pa_cons (pv 1) (pa_cons (pv 2) pa_nil))) (fun _ _ => rfl)) pa_nil)))), ?_⟩
    obtain ⟨dx, hs⟩ := hS.ob
    refine ⟨_, rfl, a.s, _, dx, _, _, rfl, hs, T.cl_State, T.n_State_rows, fldS_rows _ _, _, rfl, _, rfl, wayN u, _, rfl, fun t H2 nt k2 ht => ?_⟩
    have hS2 := hS.kp k2
    obtain ⟨kvs, m1, m2, ky, m3⟩ := hS2.get (key_b u hm)
    obtain ⟨vs, h1, h2⟩ := hS2.cont.at_ (.b u m) (key_b u hm)
    rw [hrw] at h2
    exact ⟨a.R, kvs, (RK.b u m).mk, _, rfl, m1, m2, ⟨t, rfl, ht⟩, ⟨ky, m3⟩, a.ad (.b u m), _, rfl, .inl (SqL.of h1), fun r nr => k r vs _ (k2.free _ nr) (k2.trans (.new nr)) upd_same ((Kp.new nr).dpAll h2)⟩
def sp_p_State_signs_written (P : Program) (w : World) (K : PySem.W.Frag) : Sp := fun vs H Q E => ∃ (a : LA) (c : LC) (wy : Str) (p : Int) (bk : Bool → Nat → List (Int × Bool)), vs = [.ref a.s, .str wy, .int p] ∧ StateAt P w K H a c ∧ (c.row .arms).length = c.n ∧ (∀ u m, c.row (.b u m) = (bk u m).map rowD) ∧ 0 ≤ p ∧ p < (c.n : Int) ∧ (∀ u m, (bk u m).length ≤ 9000) ∧
  (isWay wy = false → ∀ H', Kp H H' → E (.ref (He.ga K "BadWay")) none H') ∧
  (isWay wy = true → ∀ (r : Addr) (H' : Hp), H r = none → Kp H H' → H' r = some (.lst (((bk (wayU wy) (plI (wayU wy) c.n p).toNat).map (·.1)).map V.int)) → Q (.ref r) H')
theorem row_at {K : PySem.W.Frag} {H : Hp} {xs : List V} {rs : List (Int × Bool)} (h : DpAll K H xs (rs.map rowD)) {i : Nat} {v : V} (hv : xs[i]? = some v) : ∃ r : Int × Bool, rs[i]? = some r ∧ ∃ t : Addr, v = .ref t ∧ SqT K H t [.int r.1, .bl r.2] := by
  have hi := (List.getElem?_eq_some_iff.mp hv).1
  have hl := DpAll.len h
  rw [List.length_map] at hl
  have e : (rs.map rowD)[i]? = some (rowD (rs[i]'(by omega))) := by rw [List.getElem?_map, List.getElem?_eq_getElem (by omega)]; rfl
  obtain ⟨v', hv', d⟩ := DpAll.get h e
  rw [hv] at hv'
  cases Option.some.inj hv'
  refine ⟨rs[i]'(by omega), List.getElem?_eq_getElem (by omega), ?_⟩
  have d : Dp K H v (.tuple [.int _, .bool _]) := d
  cases d with
  | tup h a =>
    cases a with
    | cons a1 a =>
      cases a with
      | cons a2 a =>
        cases a
        cases a1
        cases a2
        exact ⟨_, rfl, h⟩
theorem ok_p_State_signs_written (T : Txt K mg) : FnOk P w K mg base (L2.CX P w) 5 T.f_p_State_signs_written T.d_p_State_signs_written ["self", "way", "place"] (sp_p_State_signs_written P w K) := by
  refine T.F_p_State_signs_written.okX sc_p_State_signs_written (fun vs H Q E h => ?_) (fun cdv A outer s H vs Q E hr h => ?_)
  · obtain ⟨a, c, wy, p, bk, rfl, _⟩ := h
    rfl
  · obtain ⟨a, c, wy, p, bk, rfl, hS, hl, hbk, h0, h1, hB, kE, k⟩ := h
    refine ⟨_, (pss_cons (ps_set (i := 3) sc_p_State_signs_written.nd rfl (by first | exact Or.inl rfl | exact Or.inr rfl) (pe_call (ok_p_mast_at T) (hr.mono (by decide)) rfl T.g_p_mast_at T.F_p_mast_at.kp T.b_p_mast_at .nil (passes_call (takes_of rfl rfl rfl rfl) (fun _ _ _ _ z => z)) (pa_cons (pv 1) (pa_cons (pe_meth0 (pv 0) T.cl_State T.M_p_State_size (ok_p_State_size T) (hr.mono (by decide)) T.b_p_State_size .nil pass0) (pa_cons (pv 2) pa_nil)))))
      (pss_one (ps_ret (pe_lc (own := [("sign", 4), ("lost", 5)]) (tt := tYes) (by rfl) sc_p_State_signs_written.nd (pi_list (pe_meth (pv 0) T.cl_State T.M_p_State_book (ok_p_State_book T) (hr.mono (by decide)) T.b_p_State_book .nil pass0 (pa_cons (pv 1) (pa_cons (pv 3) pa_nil)))) (blkOk_by (own := [("sign", 4), ("lost", 5)]) (N := ["self", "way", "place", "mast", "sign", "lost"]) (sc := defScope s_p_State_signs_written) (by decide +kernel)) (fun _ _ _ _ _ => (pgK K rfl (pg_tup (n := 2) rfl (pgs_cons (pg_name (i := 4) sc_p_State_signs_written.nd rfl (by first | exact Or.inl rfl | exact Or.inr rfl)) (pgs_cons (pg_name (i := 5) sc_p_State_signs_written.nd rfl (by first | exact Or.inl rfl | exact Or.inr rfl)) pgs_nil))))) (fun _ _ _ _ _ => pts_nil) (fun _ _ _ _ _ => (pv 4)))))), ?_⟩
    obtain ⟨dx, hs⟩ := hS.ob
    refine ⟨_, rfl, _, rfl, a.s, dx, _, rfl, hs, fldS_no _ _ (by decide +kernel) (by decide +kernel), a, c, rfl, hS, hl, _, rfl, wy, _, p, wayU wy, rfl, fun h => (wayU_N h).symm, h0, h1, fun hw H1 k1 => ?_, kE⟩
    have pin := plI_in (u := wayU wy) h0 h1
    obtain ⟨m, em⟩ : ∃ m : Nat, plI (wayU wy) c.n p = (m : Int) := ⟨(plI (wayU wy) c.n p).toNat, by omega⟩
    rw [em] at k ⊢
    have hS1 := hS.kp k1
    refine ⟨_, rfl, a.s, dx, _, rfl, k1.same _ _ rfl hs, fldS_no _ _ (by decide +kernel) (by decide +kernel), _, rfl, _, rfl, a, c, wayU wy, m, _, by rw [wayU_N hw]; rfl, hS1, by omega, hbk _ _, fun r xs H2 nr k2 hr2 hd => ?_⟩
    have hxl := dp_rows hd
    have hBl := hB (wayU wy) m
    have k := k hw
    rw [Int.toNat_natCast] at k
    refine ⟨r, rfl, ⟨_, SqL.of hr2⟩, fun D hD => ?_⟩
    refine lc_list (K := K) (a := r) (xs := xs) (fun i H' => Kp H2 H' ∧ H' D = some (.lst ((((bk (wayU wy) m).take i).map (·.1)).map V.int))) ⟨Kp.new hD, upd_same⟩ (fun i H' _ ⟨kp, _⟩ => kp.sqL (SqL.of hr2)) (fun i x H' hi ⟨kp, hl0⟩ => ?_) (fun H3 ⟨k3, qD⟩ => ?_)
    · obtain ⟨rw_, er, t, rfl, ht⟩ := row_at hd hi
      have hil := (List.getElem?_eq_some_iff.mp er).1
      refine ⟨t, _, rfl, kp.sqT ht, rfl, _, _, rfl, _, _, rfl, rfl, rfl, _, rfl, _, hl0, szt (by rw [List.length_map, List.length_map, List.length_take]; omega), kp.mut hD, ?_⟩
      rw [upd_same, take_snoc er, List.map_append, List.map_append]
      rfl
    rw [hxl, List.take_length] at qD
    exact k D H3 ((k1.trans k2).free _ hD) ((k1.trans k2).trans k3) qD
/-! #### the sheets -/
def sp_sheet (front : Bool) (P : Program) (w : World) (K : PySem.W.Frag) : Sp := fun vs H Q E => ∃ (L : Addr) (x : LS) (wy : Str), vs = [.ref L, .str wy] ∧ LineP P w K H L x ∧ (∀ u m, (x.s.bk u m).length ≤ 9000) ∧
  (isWay wy = false → ∀ H', Kp H H' → E (.ref (He.ga K "BadWay")) none H') ∧
  (isWay wy = true → ∀ (r : Addr) (H' : Hp), H r = none → Kp H H' → H' r = some (.lst (((x.s.bk (wayU wy) (plI (wayU wy) x.s.n (if front = true then (x.s.n : Int) - 1 else 0)).toNat).map (·.1)).map V.int)) → Q (.ref r) H')
theorem ok_p_Line_sent (T : Txt K mg) : FnOk P w K mg base (L2.CX P w) 6 T.f_p_Line_sent T.d_p_Line_sent ["self", "way"] (sp_sheet false P w K) := by
  refine T.F_p_Line_sent.okX sc_p_Line_sent (fun vs H Q E h => ?_) (fun cdv A outer s H vs Q E hr h => ?_)
  · obtain ⟨L, x, wy, rfl, _⟩ := h
    rfl
  · obtain ⟨L, x, wy, rfl, hL, hB, kE, k⟩ := h
    refine ⟨_, (pss_one (ps_ret (pe_meth (pe_fld (pv 0) rfl) T.cl_State T.M_p_State_signs_written (ok_p_State_signs_written T) (hr.mono (by decide)) T.b_p_State_signs_written .nil (passes_call (takes_of rfl rfl rfl rfl) (fun _ _ _ _ z => z)) (pa_cons (pv 1) (pa_cons pe_int pa_nil))))), ?_⟩
    obtain ⟨dx, hl⟩ := hL.at_.ob
    obtain ⟨dxs, hs⟩ := hL.at_.st.ob
    have lo := hL.ok.lo
    exact ⟨_, rfl, L, _, dx, _, _, rfl, hl, T.cl_Line, T.n_Line_state, fldL_state _ _ _, x.a.s, dxs, _, rfl, hs, fldS_no _ _ (by decide +kernel) (by decide +kernel), _, rfl, x.a, x.c, wy, 0, x.s.bk, rfl, hL.at_.st, arms_len hL.ok, fun _ _ => rfl, by decide, by show (0 : Int) < (x.s.n : Int); omega, hB, kE, k⟩
theorem ok_p_Line_heard (T : Txt K mg) : FnOk P w K mg base (L2.CX P w) 6 T.f_p_Line_heard T.d_p_Line_heard ["self", "way"] (sp_sheet true P w K) := by
  refine T.F_p_Line_heard.okX sc_p_Line_heard (fun vs H Q E h => ?_) (fun cdv A outer s H vs Q E hr h => ?_)
  · obtain ⟨L, x, wy, rfl, _⟩ := h
    rfl
  · obtain ⟨L, x, wy, rfl, hL, hB, kE, k⟩ := h
    refine ⟨_, (pss_one (ps_ret (pe_meth (pe_fld (pv 0) rfl) T.cl_State T.M_p_State_signs_written (ok_p_State_signs_written T) (hr.mono (by decide)) T.b_p_State_signs_written .nil (passes_call (takes_of rfl rfl rfl rfl) (fun _ _ _ _ z => z)) (pa_cons (pv 1) (pa_cons (pe_op op_sub (pe_meth0 (pv 0) T.cl_Line T.M_p_Line_masts (ok_p_Line_masts T) (hr.mono (by decide)) T.b_p_Line_masts .nil pass0) pe_int) pa_nil))))), ?_⟩
    obtain ⟨dx, hl⟩ := hL.at_.ob
    obtain ⟨dxs, hs⟩ := hL.at_.st.ob
    have lo := hL.ok.lo
    exact ⟨_, rfl, L, _, dx, _, _, rfl, hl, T.cl_Line, T.n_Line_state, fldL_state _ _ _, x.a.s, dxs, _, rfl, hs, fldS_no _ _ (by decide +kernel) (by decide +kernel), _, rfl, _, rfl, L, dx, _, rfl, hl, fldL_no _ _ _ (by decide +kernel) (by decide +kernel) (by decide +kernel), L, x, rfl, hL, _, _, rfl, rfl, x.a, x.c, wy, (x.s.n : Int) - 1, x.s.bk, rfl, hL.at_.st, arms_len hL.ok, fun _ _ => rfl, by omega, by show (x.s.n : Int) - 1 < (x.s.n : Int); omega, hB, kE, k⟩
/-! ### the changes that a motion makes -/
def algL (u : Bool) (xs : List (List Int)) : List (List Int) := if u = true then xs else xs.reverse
def falseR (l : List Int) : List (Int × Bool) := l.map fun z => (z, false)
/-- the line behind its motion -/
def comeP (s : PS) (m : Mo) : PS := { s with arms := alg s.up m.sh, q := fun u => if u = s.up then m.q else s.q u, bk := fun u i => if u = s.up then s.bk u i ++ falseR ((algL s.up m.wr).getD i []) else s.bk u i }
def chB (s : PS) (m : Mo) (i : Nat) : List Ch := if (algL s.up m.wr).getD i [] = [] then [] else [.row (.b s.up i) (s.bk s.up i).length [] ((falseR ((algL s.up m.wr).getD i [])).map rowD)]
def chgs (s : PS) (m : Mo) (k : Nat) : List Ch := [.row .arms 0 (s.arms.map .int) ((alg s.up m.sh).map .int), .row (.q s.up) 0 ((s.q s.up).take k |>.map .int) []] ++ ((List.range s.n).map (chB s m)).flatten
/-- the state while the books of masts below i are written -/
def comeI (s : PS) (m : Mo) (i : Nat) : PS := { s with arms := alg s.up m.sh, q := fun u => if u = s.up then m.q else s.q u, bk := fun u j => if u = s.up ∧ j < i then s.bk u j ++ falseR ((algL s.up m.wr).getD j []) else s.bk u j }
theorem comeI_row (s : PS) (m : Mo) (i : Nat) (y : RK) (hy : y ≠ .b s.up i) : (comeI s m (i + 1)).row y = (comeI s m i).row y := by
  cases y with
  | b u j =>
    show (if u = s.up ∧ j < i + 1 then _ else _ : List (Int × Bool)).map rowD = (if u = s.up ∧ j < i then _ else _ : List (Int × Bool)).map rowD
    by_cases h : u = s.up ∧ j < i
    · rw [if_pos h, if_pos ⟨h.1, by omega⟩]
    · rw [if_neg h, if_neg]
      rintro ⟨h1, h2⟩
      have : j = i := by
        by_cases z : j < i
        · exact absurd ⟨h1, z⟩ h
        · omega
      exact hy (by rw [h1, this])
  | _ => rfl
theorem comeI_at (s : PS) (m : Mo) (i : Nat) : (comeI s m i).row (.b s.up i) = (s.bk s.up i).map rowD := by
  show (if s.up = s.up ∧ i < i then _ else _ : List (Int × Bool)).map rowD = _
  rw [if_neg (fun z => Nat.lt_irrefl _ z.2)]
theorem comeI_step (s : PS) (m : Mo) (i : Nat) (ws : List Tri) (past fut : List Dd) : (⟨s.n, (comeI s m i).row, ws, past, fut⟩ : LC).apps (chB s m i) = ⟨s.n, (comeI s m (i + 1)).row, ws, past, fut⟩ := by
  unfold chB
  by_cases c : (algL s.up m.wr).getD i [] = []
  · rw [if_pos c]
    show (⟨s.n, (comeI s m i).row, ws, past, fut⟩ : LC) = _
    have e : (comeI s m i).row = (comeI s m (i + 1)).row := by
      funext y
      by_cases hy : y = .b s.up i
      · subst hy
        rw [comeI_at]
        show _ = (if s.up = s.up ∧ i < i + 1 then s.bk s.up i ++ falseR ((algL s.up m.wr).getD i []) else s.bk s.up i).map rowD
        rw [if_pos ⟨rfl, by omega⟩, c]
        simp [falseR]
      · exact (comeI_row s m i y hy).symm
    rw [e]
  · rw [if_neg c]
    show (⟨s.n, fun y => if y = .b s.up i then ((comeI s m i).row (.b s.up i)).take (s.bk s.up i).length ++ _ ++ ((comeI s m i).row (.b s.up i)).drop ((s.bk s.up i).length + 0) else (comeI s m i).row y, ws, past, fut⟩ : LC) = _
    congr 1
    funext y
    by_cases hy : y = .b s.up i
    · subst hy
      rw [if_pos rfl, comeI_at, Nat.add_zero, ← List.length_map (as := s.bk s.up i) rowD, List.take_length, List.drop_length, List.append_nil]
      show _ = (if s.up = s.up ∧ i < i + 1 then s.bk s.up i ++ falseR ((algL s.up m.wr).getD i []) else s.bk s.up i).map rowD
      rw [if_pos ⟨rfl, by omega⟩, List.map_append]
    · rw [if_neg hy]
      exact (comeI_row s m i y hy).symm
theorem apps_app (c : LC) (h1 h2 : List Ch) : c.apps (h1 ++ h2) = (c.apps h1).apps h2 := List.foldl_append
theorem comeI_all (s : PS) (m : Mo) (ws : List Tri) (past fut : List Dd) : ∀ i : Nat, (⟨s.n, (comeI s m 0).row, ws, past, fut⟩ : LC).apps (((List.range i).map (chB s m)).flatten) = ⟨s.n, (comeI s m i).row, ws, past, fut⟩
  | 0 => rfl
  | i + 1 => by
    rw [List.range_succ, List.map_append, List.flatten_append, apps_app, comeI_all s m ws past fut i]
    show LC.apps _ (chB s m i ++ []) = _
    rw [List.append_nil]
    exact comeI_step s m i ws past fut
theorem come_last (s : PS) (m : Mo) (hw : m.wr.length = s.n) : (comeI s m s.n).row = (comeP s m).row := by
  funext y
  cases y with
  | b u j =>
    show (if u = s.up ∧ j < s.n then _ else _ : List (Int × Bool)).map rowD = (if u = s.up then _ else _ : List (Int × Bool)).map rowD
    by_cases h : u = s.up
    · by_cases hj : j < s.n
      · rw [if_pos ⟨h, hj⟩, if_pos h]
      · rw [if_neg (fun z => hj z.2), if_pos h]
        have : (algL s.up m.wr).getD j [] = [] := by
          rw [List.getD_eq_getElem?_getD, List.getElem?_eq_none]
          · rfl
          · unfold algL
            split
            · omega
            · rw [List.length_reverse]; omega
        rw [this]
        simp [falseR]
    · rw [if_neg (fun z => h z.1), if_neg h]
  | _ => rfl
theorem come_two (s : PS) (m : Mo) (k : Nat) (hq : m.q = (s.q s.up).drop k) (hk : k ≤ (s.q s.up).length) (ws : List Tri) (past fut : List Dd) : (⟨s.n, s.row, ws, past, fut⟩ : LC).apps [.row .arms 0 (s.arms.map .int) ((alg s.up m.sh).map .int), .row (.q s.up) 0 ((s.q s.up).take k |>.map .int) []] = ⟨s.n, (comeI s m 0).row, ws, past, fut⟩ := by
  show (⟨s.n, _, ws, past, fut⟩ : LC) = _
  congr 1
  funext y
  show (if y = .q s.up then _ else (if y = .arms then _ else s.row y)) = _
  by_cases h1 : y = .q s.up
  · subst h1
    rw [if_pos rfl]
    have e1 : (if RK.q s.up = .arms then ((s.row .arms).take 0 ++ (alg s.up m.sh).map PyData.int ++ (s.row .arms).drop (0 + (s.arms.map PyData.int).length)) else s.row (.q s.up)) = (s.q s.up).map PyData.int := if_neg (by intro z; cases z)
    show (if RK.q s.up = .arms then ((s.row .arms).take 0 ++ (alg s.up m.sh).map PyData.int ++ (s.row .arms).drop (0 + (s.arms.map PyData.int).length)) else s.row (.q s.up)).take 0 ++ [] ++ (if RK.q s.up = .arms then ((s.row .arms).take 0 ++ (alg s.up m.sh).map PyData.int ++ (s.row .arms).drop (0 + (s.arms.map PyData.int).length)) else s.row (.q s.up)).drop (0 + (((s.q s.up).take k).map PyData.int).length) = (if s.up = s.up then m.q else s.q s.up).map PyData.int
    rw [e1, if_pos rfl, hq, List.length_map, List.length_take, Nat.zero_add, Nat.min_eq_left hk, List.map_drop]
    rfl
  · rw [if_neg h1]
    by_cases h2 : y = .arms
    · subst h2
      rw [if_pos rfl]
      show [] ++ (alg s.up m.sh).map PyData.int ++ (s.arms.map PyData.int).drop (0 + (s.arms.map PyData.int).length) = _
      rw [Nat.zero_add, List.drop_length, List.append_nil]
      rfl
    · rw [if_neg h2]
      cases y with
      | arms => exact absurd rfl h2
      | q u =>
        show _ = (if u = s.up then m.q else s.q u).map PyData.int
        rw [if_neg (fun z => h1 (by rw [z]))]
        rfl
      | b u j =>
        show _ = (if u = s.up ∧ j < 0 then _ else s.bk u j).map rowD
        rw [if_neg (fun z => Nat.not_lt_zero _ z.2)]
        rfl
      | _ => rfl
theorem come_apps (s : PS) (m : Mo) (k : Nat) (ok : s.Ok) (hq : m.q = (s.q s.up).drop k) (hw : m.wr.length = s.n) (hk : k ≤ (s.q s.up).length) (ws : List Tri) (past fut : List Dd) : (⟨s.n, s.row, ws, past, fut⟩ : LC).apps (chgs s m k) = ⟨(comeP s m).n, (comeP s m).row, ws, past, fut⟩ := by
  unfold chgs
  rw [apps_app]
  have e := come_two s m k hq hk ws past fut
  rw [e, comeI_all, come_last s m hw]
  rfl
/-! ### changes_by -/
theorem algL_len (u : Bool) (xs : List (List Int)) : (algL u xs).length = xs.length := by unfold algL; split <;> simp
def algA (u : Bool) (xs : List Addr) : List Addr := if u = true then xs else xs.reverse
theorem algA_ref (u : Bool) (xs : List Addr) : (if u = true then xs.map V.ref else (xs.map V.ref).reverse) = (algA u xs).map V.ref := by
  unfold algA
  cases u
  · rw [if_neg (by decide), if_neg (by decide), List.map_reverse]
  · rw [if_pos rfl, if_pos rfl]
theorem alg_ws {K : PySem.W.Frag} {H : Hp} {a : MA} {m : Mo} (h : MotAt K H a m) (u : Bool) {i : Nat} {b : Addr} (hb : (algA u a.ws)[i]? = some b) : H b = some (.lst (((algL u m.wr).getD i []).map V.int)) := by
  unfold algA at hb
  unfold algL
  have hl := h.len
  cases u
  · rw [if_neg (by decide)] at hb ⊢
    have hi := (List.getElem?_eq_some_iff.mp hb).1
    rw [List.length_reverse] at hi
    rw [List.getElem?_reverse hi] at hb
    have e : m.wr[m.wr.length - 1 - i]? = some (m.wr[m.wr.length - 1 - i]'(by omega)) := List.getElem?_eq_getElem _
    rw [hl] at hb
    have := h.ws _ b _ hb e
    rw [this, List.getD_eq_getElem?_getD, List.getElem?_reverse (by omega), e]
    rfl
  · rw [if_pos rfl] at hb ⊢
    have hi := (List.getElem?_eq_some_iff.mp hb).1
    have e : m.wr[i]? = some (m.wr[i]'(by omega)) := List.getElem?_eq_getElem _
    have := h.ws _ b _ hb e
    rw [this, List.getD_eq_getElem?_getD, e]
    rfl
theorem few_alg {m : Mo} {n B : Nat} (o : m.Ok n B) (u : Bool) (i : Nat) : ((algL u m.wr).getD i []).length ≤ B := by
  rw [List.getD_eq_getElem?_getD]
  cases e : (algL u m.wr)[i]? with
  | none => simp
  | some l =>
    have hm := List.mem_of_getElem? e
    unfold algL at hm
    split at hm
    · exact o.few l hm
    · exact o.few l (List.mem_reverse.mp hm)
theorem ch_row_nl (rs : List (Int × Bool)) : ∀ d ∈ rs.map rowD, Nl d := fun d hd => by
  obtain ⟨r, _, rfl⟩ := List.mem_map.mp hd
  exact .tup fun d hd => by
    simp only [List.mem_cons, List.not_mem_nil, or_false] at hd
    rcases hd with rfl | rfl
    · exact .int _
    · exact .bl _
theorem ints_nl (xs : List Int) : ∀ d ∈ xs.map PyData.int, Nl d := fun d hd => by
  obtain ⟨r, _, rfl⟩ := List.mem_map.mp hd
  exact .int _
theorem fits_app {c : LC} : ∀ {h1 h2 : List Ch}, FitsC c h1 → FitsC (c.apps h1) h2 → FitsC c (h1 ++ h2)
  | [], _, _, b => b
  | h :: r, h2, ⟨a, b⟩, d => ⟨a, fits_app (c := c.app h) b d⟩
theorem chgs_fit (s : PS) (m : Mo) (k n B : Nat) (ok : s.Ok) (om : m.Ok s.n B) (hB : B ≤ 500) (hq : m.q = (s.q s.up).drop k) (hk : k ≤ (s.q s.up).length) (hb : ∀ u i, (s.bk u i).length ≤ 9000) (ws : List Tri) (past fut : List Dd) : FitsC ⟨s.n, s.row, ws, past, fut⟩ (chgs s m k) := by
  have oa := ok.arms
  have oq := ok.q s.up
  have oh := ok.hi
  unfold chgs
  refine fits_app ⟨⟨key_arms _, ?_, ?_⟩, ⟨key_q _ _, ?_, ?_⟩, trivial⟩ ?_
  · show 0 + (s.arms.map PyData.int).length ≤ (s.arms.map PyData.int).length
    omega
  · show (s.arms.map PyData.int).length + ((alg s.up m.sh).map PyData.int).length ≤ 10000
    rw [List.length_map, List.length_map, alg_len, om.sh]
    omega
  · show 0 + (((s.q s.up).take k).map PyData.int).length ≤ (if RK.q s.up = .arms then ((s.row .arms).take 0 ++ (alg s.up m.sh).map PyData.int ++ (s.row .arms).drop (0 + (s.arms.map PyData.int).length)) else s.row (.q s.up)).length
    rw [if_neg (by intro z; cases z)]
    show 0 + (((s.q s.up).take k).map PyData.int).length ≤ ((s.q s.up).map PyData.int).length
    rw [List.length_map, List.length_map, List.length_take]
    omega
  · show (if RK.q s.up = .arms then ((s.row .arms).take 0 ++ (alg s.up m.sh).map PyData.int ++ (s.row .arms).drop (0 + (s.arms.map PyData.int).length)) else s.row (.q s.up)).length + 0 ≤ 10000
    rw [if_neg (by intro z; cases z)]
    show ((s.q s.up).map PyData.int).length + 0 ≤ 10000
    rw [List.length_map]
    omega
  · have e := come_apps s m k ok hq om.wr hk ws past fut
    unfold chgs at e
    rw [apps_app] at e
    have e0 : (⟨s.n, s.row, ws, past, fut⟩ : LC).apps [.row .arms 0 (s.arms.map .int) ((alg s.up m.sh).map .int), .row (.q s.up) 0 ((s.q s.up).take k |>.map .int) []] = ⟨s.n, (comeI s m 0).row, ws, past, fut⟩ := come_two s m k hq hk ws past fut
    rw [e0]
    have go : ∀ j, j ≤ s.n → FitsC ⟨s.n, (comeI s m 0).row, ws, past, fut⟩ (((List.range j).map (chB s m)).flatten) := fun j => by
      induction j with
      | zero => intro _; exact trivial
      | succ j ih =>
        intro hj
        rw [List.range_succ, List.map_append, List.flatten_append]
        refine fits_app (ih (by omega)) ?_
        rw [comeI_all]
        show FitsC _ (chB s m j ++ [])
        rw [List.append_nil]
        unfold chB
        split
        · exact trivial
        · refine ⟨⟨key_b _ (by show j < s.n; omega), ?_, ?_⟩, trivial⟩
          · show (s.bk s.up j).length + 0 ≤ ((comeI s m j).row (.b s.up j)).length
            rw [comeI_at, List.length_map]
            omega
          · show ((comeI s m j).row (.b s.up j)).length + _ ≤ 10000
            rw [comeI_at, List.length_map, List.length_map, falseR, List.length_map]
            have := hb s.up j
            have := few_alg om s.up j
            omega
    exact go s.n (Nat.le_refl _)
def sp_p_State_changes_by (P : Program) (w : World) (K : PySem.W.Frag) : Sp := fun vs H Q _ => ∃ (a : LA) (s : PS) (ws : List Tri) (past fut : List Dd) (ma : MA) (m : Mo) (k B : Nat), vs = [.ref a.s, .ref ma.m] ∧ StateAt P w K H a ⟨s.n, s.row, ws, past, fut⟩ ∧ s.Ok ∧ MotAt K H ma m ∧ m.Ok s.n B ∧ B ≤ 500 ∧ m.q = (s.q s.up).drop k ∧ k ≤ (s.q s.up).length ∧ (∀ u i, (s.bk u i).length ≤ 9000) ∧
  ∀ (cl : Addr) (xs : List V) (H' : Hp), H cl = none → Kp H H' → H' cl = some (.lst xs) → ChsAt K H' xs (chgs s m k) → Q (.ref cl) H'
theorem cut_to {xs : List Int} {k : Nat} (h : k ≤ xs.length) : cutV (xs.map V.int) none (some (k : Int)) = (xs.take k).map V.int := by
  unfold cutV
  rw [HT.sIx_none, HT.sIx_nat, List.length_map, Nat.min_eq_left h, List.drop_zero, Nat.sub_zero, List.map_take]
theorem ok_p_State_changes_by (T : Txt K mg) : FnOk P w K mg base CX0 6 T.f_p_State_changes_by T.d_p_State_changes_by ["self", "motion"] (sp_p_State_changes_by P w K) := by
  refine T.F_p_State_changes_by.ok sc_p_State_changes_by (fun vs H Q E h => ?_) (fun cdv A outer s H vs Q E hr h => ?_)
  · obtain ⟨a, s, ws, past, fut, ma, m, k, B, rfl, _⟩ := h
    rfl
  · obtain ⟨a, s, ws, past, fut, ma, m, k, B, rfl, hS, ok, hM, om, hB, hq, hk, hb, kk⟩ := h
    have hu := hu_of hr
    refine ⟨_, (pss_cons (ps_set (i := 2) sc_p_State_changes_by.nd rfl (by first | exact Or.inl rfl | exact Or.inr rfl) (pe_meth0 (pv 0) T.cl_State T.M_p_State_heading (ok_p_State_heading T) (hr.mono (by decide)) T.b_p_State_heading .nil pass0))
      (pss_cons (ps_set (i := 3) sc_p_State_changes_by.nd rfl (by first | exact Or.inl rfl | exact Or.inr rfl) (pe_meth (pv 0) T.cl_State T.M_p_State_queue_on (ok_p_State_queue_on T) (hr.mono (by decide)) T.b_p_State_queue_on .nil passL (pa_cons (pv 2) pa_nil)))
      (pss_cons (ps_set (i := 4) sc_p_State_changes_by.nd rfl (by first | exact Or.inl rfl | exact Or.inr rfl) (pe_slice sl_list (pv 3) po_none (po_some (pe_op op_sub (pe_callB call_len_seq (by rfl) T.m_len PySem.boot_len (pa_cons (pv 3) pa_nil)) (pe_callB call_len_seq (by rfl) T.m_len PySem.boot_len (pa_cons (pe_fld (pv 1) rfl) pa_nil))))))
      (pss_cons (ps_set (i := 5) sc_p_State_changes_by.nd rfl (by first | exact Or.inl rfl | exact Or.inr rfl) (pe_lst (pa_cons (pe_tup (pa_cons (pe_glob rfl T.c_ARMS T.r_ARMS) (pa_cons pe_int (pa_cons (pe_callTy call_tuple_of (by rfl) T.m_tuple (by decide +kernel) (pa_cons (pe_mgetK P w rfl rfl hu (pe_fld (pv 0) rfl) (pe_glob rfl T.c_ARMS T.r_ARMS) (fun _ _ => rfl)) pa_nil)) (pa_cons (pe_callTy call_tuple_of (by rfl) T.m_tuple (by decide +kernel) (pa_cons (pe_call (ok_p_along T) (hr.mono (by decide)) rfl T.g_p_along T.F_p_along.kp T.b_p_along .nil passL (pa_cons (pv 2) (pa_cons (pe_fld (pv 1) rfl) pa_nil))) pa_nil)) pa_nil))))) (pa_cons (pe_tup (pa_cons (pe_call (ok_p_queue_of T) (hr.mono (by decide)) rfl T.g_p_queue_of T.F_p_queue_of.kp T.b_p_queue_of .nil pass0 (pa_cons (pv 2) pa_nil)) (pa_cons pe_int (pa_cons (pe_callTy call_tuple_of (by rfl) T.m_tuple (by decide +kernel) (pa_cons (pv 4) pa_nil)) (pa_cons (pe_tup pa_nil) pa_nil))))) pa_nil))))
      (pss_cons (ps_for PassesOwn.never rfl (pi_enum (by rfl) T.m_enumerate (pa_cons (pe_call (ok_p_along T) (hr.mono (by decide)) rfl T.g_p_along T.F_p_along.kp T.b_p_along .nil passL (pa_cons (pv 2) (pa_cons (pe_fld (pv 1) rfl) pa_nil))) pa_nil)) (pg_tup (n := 2) rfl (pgs_cons (pg_name (i := 6) sc_p_State_changes_by.nd rfl (by first | exact Or.inl rfl | exact Or.inr rfl)) (pgs_cons (pg_name (i := 7) sc_p_State_changes_by.nd rfl (by first | exact Or.inl rfl | exact Or.inr rfl)) pgs_nil)))
      (pss_one (ps_if (pt_truth (pv 7) (by intro _; rfl))
      (pss_cons (ps_set (i := 8) sc_p_State_changes_by.nd rfl (by first | exact Or.inl rfl | exact Or.inr rfl) (pe_callTy call_tuple_of (by rfl) T.m_tuple (by decide +kernel) (pa_cons (pe_lc (own := [("sign", 9)]) (g := gName 9) (tt := tYes) (by rfl) sc_p_State_changes_by.nd (pi_list (pv 7)) (blkOk_by (own := [("sign", 9)]) (N := ["self", "motion", "way", "queue", "begun", "changes", "mast", "signs", "rows", "sign"]) (sc := defScope s_p_State_changes_by) (by decide +kernel)) (fun _ _ _ _ _ => (pg_name (i := 9) sc_p_State_changes_by.nd rfl (by first | exact Or.inl rfl | exact Or.inr rfl))) (fun _ _ _ _ _ => pts_nil) (fun _ _ _ _ _ => (pe_tup (pa_cons (pv 9) (pa_cons pe_bl pa_nil))))) pa_nil)))
      (pss_one (ps_expr (pe_bm PySem.F.plainAttrs_list PySem.F.slot_list_append PySem.F.type_list_append mt_append (pv 5) (pa_cons (pe_tup (pa_cons (pe_call (ok_p_book_of T) (hr.mono (by decide)) rfl T.g_p_book_of T.F_p_book_of.kp T.b_p_book_of .nil pass0 (pa_cons (pv 2) (pa_cons (pv 6) pa_nil))) (pa_cons (pe_meth (pv 0) T.cl_State T.M_p_State_count_of (ok_p_State_count_of T) (hr.mono (by decide)) T.b_p_State_count_of .nil pass0 (pa_cons (pv 2) (pa_cons (pv 6) pa_nil))) (pa_cons (pe_tup pa_nil) (pa_cons (pv 8) pa_nil))))) pa_nil)))))
      pss_nil)))
      (pss_one (ps_ret (pv 5)))))))), ?_⟩
    obtain ⟨dx, hs⟩ := hS.ob
    have sno : ∀ {nm : Str}, ¬ nm = "phrasebook" → ¬ nm = "rows" → (fldS a.R a.B).lookup nm = none := fun h1 h2 => fldS_no _ _ h1 h2
    refine ⟨_, rfl, a.s, dx, _, rfl, hs, sno (by decide +kernel) (by decide +kernel), a, _, s.up, rfl, hS, rfl, ?_⟩
    refine ⟨_, rfl, a.s, dx, _, rfl, hs, sno (by decide +kernel) (by decide +kernel), _, rfl, a, _, wayN s.up, s.q, rfl, hS, fun _ => rfl, fun _ r1 H1 nr1 k1 hr1 => ?_, fun c => by rw [wayN_is] at c; cases c⟩
    rw [wayU_of] at hr1
    have hM1 := hM.kp k1
    obtain ⟨dxm, ho1⟩ := hM1.ob
    have el : (((s.q s.up).map V.int).length : Int) - ((m.q.map V.int).length : Int) = (k : Int) := by
      rw [List.length_map, List.length_map, hq, List.length_drop]
      omega
    refine ⟨_, rfl, _, rfl, r1, _, rfl, .inl (SqL.of hr1), _, rfl, ma.m, _, dxm, _, _, rfl, ho1, T.cl_Motion, T.n_Motion_queue, fldM_qu _, ma.qu, _, rfl, .inl (SqL.of hM1.qu), _, _, rfl, rfl, _, rfl, r1, _, rfl, SqL.of hr1, fun pb npb => ?_⟩
    rw [el, cut_to hk]
    generalize h_H2 : upd H1 pb _ = H2
    have k_H2 : Kp H1 H2 := by rw [← h_H2]; exact .new npb
    have q_H2 := (congrFun h_H2 pb).symm.trans upd_same
    clear h_H2
    have k12 := k1.trans k_H2
    have hS2 := hS.kp k12
    have hM2 := hM.kp k12
    have ho2 := k_H2.same _ _ rfl ho1
    obtain ⟨kvs, m1, m2, ky, m3⟩ := hS2.get (key_arms s.n)
    obtain ⟨vs, h1, h2⟩ := hS2.cont.at_ .arms (key_arms s.n)
    have ev := dpAll_ints (show DpAll K H2 vs (s.arms.map PyData.int) from h2)
    subst ev
    have lsh := om.sh
    have lwr := om.wr
    have hn12 := ok.hi
    refine ⟨_, rfl, a.s, _, dx, _, _, rfl, k12.same _ _ rfl hs, T.cl_State, T.n_State_rows, fldS_rows _ _, a.R, kvs, RK.arms.mk, _, rfl, m1, m2, rfl, ⟨ky, m3⟩, a.ad .arms, _, rfl, .inl ⟨SqL.of h1, fun t1 nt1 => ?_⟩⟩
    generalize h_H3 : upd H2 t1 _ = H3
    have k_H3 : Kp H2 H3 := by rw [← h_H3]; exact .new nt1
    have q_H3 := (congrFun h_H3 t1).symm.trans upd_same
    clear h_H3
    have hM3 := hM2.kp k_H3
    refine ⟨_, rfl, _, rfl, ma.m, _, dxm, _, _, rfl, k_H3.same _ _ rfl ho2, T.cl_Motion, T.n_Motion_shown, fldM_sh _, wayN s.up, ma.sh, m.sh.map V.int, rfl, SqL.of hM3.sh, by rw [List.length_map]; omega, fun _ p4 H4 k4 np4 hp4 => ?_, fun c => by rw [wayN_is] at c; cases c⟩
    rw [alg_up, alg_int] at hp4
    refine ⟨p4, _, rfl, .inl ⟨SqL.of hp4, fun t2 nt2 => ?_⟩⟩
    generalize h_H5 : upd H4 t2 _ = H5
    have k_H5 : Kp H4 H5 := by rw [← h_H5]; exact .new nt2
    have q_H5 := (congrFun h_H5 t2).symm.trans upd_same
    clear h_H5
    refine ⟨szl (by show 4 ≤ 100000; decide), fun c1 nc1 => ?_⟩
    generalize h_H6 : upd H5 c1 _ = H6
    have k_H6 : Kp H5 H6 := by rw [← h_H6]; exact .new nc1
    have q_H6 := (congrFun h_H6 c1).symm.trans upd_same
    clear h_H6
    refine ⟨_, rfl, wayN s.up, rfl, fun tq H7 ntq k7 htq => ?_⟩
    have k27 := (k_H3.trans k4).trans ((k_H5.trans k_H6).trans k7)
    refine ⟨_, rfl, pb, _, rfl, .inl ⟨SqL.of (k27.same _ _ rfl q_H2), fun t3 nt3 => ?_⟩⟩
    generalize h_H8 : upd H7 t3 _ = H8
    have k_H8 : Kp H7 H8 := by rw [← h_H8]; exact .new nt3
    have q_H8 := (congrFun h_H8 t3).symm.trans upd_same
    clear h_H8
    refine ⟨Nat.zero_le _, fun e0 ne0 => ?_⟩
    generalize h_H9 : upd H8 e0 _ = H9
    have k_H9 : Kp H8 H9 := by rw [← h_H9]; exact .new ne0
    have q_H9 := (congrFun h_H9 e0).symm.trans upd_same
    clear h_H9
    refine ⟨szl (by show 4 ≤ 100000; decide), fun c2 nc2 => ?_⟩
    generalize h_Ha : upd H9 c2 _ = Ha
    have k_Ha : Kp H9 Ha := by rw [← h_Ha]; exact .new nc2
    have q_Ha := (congrFun h_Ha c2).symm.trans upd_same
    clear h_Ha
    refine ⟨szl (by show 2 ≤ 100000; decide), fun cl ncl => ?_⟩
    generalize h_Hb : upd Ha cl _ = Hb
    have k_Hb : Kp Ha Hb := by rw [← h_Hb]; exact .new ncl
    have q_Hb := (congrFun h_Hb cl).symm.trans upd_same
    clear h_Hb
    have k7b := ((k_H8.trans k_H9).trans k_Ha).trans k_Hb
    have k6b := k7.trans k7b
    have k5b := k_H6.trans k6b
    have k2b := k27.trans k7b
    have k1b := k12.trans k2b
    have ncl0 : H cl = none := (k12.trans (k27.trans ((k_H8.trans k_H9).trans k_Ha))).free _ ncl
    have ch2 : ChsAt K Hb [.ref c1, .ref c2] [.row .arms 0 (s.arms.map .int) ((alg s.up m.sh).map .int), .row (.q s.up) 0 ((s.q s.up).take k |>.map .int) []] := by
      refine ⟨⟨⟨ints_nl _, ints_nl _⟩, .str "arms", .int 0, .ref t1, .ref t2, ⟨c1, rfl, .inl (.inl (k6b.same _ _ rfl q_H6))⟩, rfl, rfl, ⟨_, ⟨t1, rfl, .inl (.inl ((k4.trans (k_H5.trans k5b)).same _ _ rfl q_H3))⟩, dp_ints _⟩, _, ⟨t2, rfl, .inl (.inl (k5b.same _ _ rfl q_H5))⟩, dp_ints _⟩, ⟨⟨ints_nl _, by simp⟩, .ref tq, .int 0, .ref t3, .ref e0, ⟨c2, rfl, .inl (.inl (k_Hb.same _ _ rfl q_Ha))⟩, ⟨tq, rfl, k7b.same _ _ rfl htq⟩, rfl, ⟨_, ⟨t3, rfl, .inl (.inl (((k_H9.trans k_Ha).trans k_Hb).same _ _ rfl q_H8))⟩, dp_ints _⟩, [], ⟨e0, rfl, .inl (.inl ((k_Ha.trans k_Hb).same _ _ rfl q_H9))⟩, .nil⟩, trivial⟩
    have hMb := hM.kp k1b
    obtain ⟨dxb, hob⟩ := hMb.ob
    refine ⟨_, rfl, _, rfl, ma.m, _, dxb, _, _, rfl, hob, T.cl_Motion, T.n_Motion_written, fldM_wr _, wayN s.up, ma.wr, ma.ws.map V.ref, rfl, SqL.of hMb.wr, by rw [List.length_map, hMb.len]; omega, fun _ pw Hc kc npw hpw => ?_, fun c => by rw [wayN_is] at c; cases c⟩
    rw [alg_up, algA_ref] at hpw
    have npc : pw ≠ cl := fun z => by
      rw [z, q_Hb] at npw
      cases npw
    have lal : (algA s.up ma.ws).length = s.n := by
      have e : (algA s.up ma.ws).length = ma.ws.length := by unfold algA; split <;> simp
      rw [e, hM.len, lwr]
    refine ⟨pw, _, rfl, SqL.of hpw, for_it (walk_enum (K := K) (a := pw) (xs := (algA s.up ma.ws).map V.ref)) (fun i σ G => ∃ (xs : List V) (y6 y7 y8 y9 : Option V), σ = [some (.ref a.s), some (.ref ma.m), some (.str (wayN s.up)), some (.ref r1), some (.ref pb), some (.ref cl), y6, y7, y8, y9] ∧ Kp H G ∧ G pw = some (.lst ((algA s.up ma.ws).map V.ref)) ∧ G cl = some (.lst xs) ∧ xs.length ≤ 2 + i ∧ ChsAt K G xs ([.row .arms 0 (s.arms.map .int) ((alg s.up m.sh).map .int), .row (.q s.up) 0 ((s.q s.up).take k |>.map .int) []] ++ ((List.range i).map (chB s m)).flatten))
      ⟨_, none, none, none, none, rfl, k1b.trans kc, hpw, kc.same _ _ rfl q_Hb, Nat.le_refl _, ch2.ts kc.ts⟩ (fun i σ G _ ⟨_, _, _, _, _, _, _, h, _⟩ => SqL.of h) ?_ ?_⟩
    · rintro i x σ G G' hi ⟨xs, y6, y7, y8, y9, rfl, kG, hpG, hcG, hxl, chG⟩ ⟨t, i', v, rfl, nt, rfl, ei, ev⟩
      cases Option.some.inj ei
      rw [List.length_map, lal] at hi
      have ev : ((algA s.up ma.ws).map V.ref)[i]? = some v := ev
      obtain ⟨b, hbi⟩ : ∃ b, (algA s.up ma.ws)[i]? = some b := ⟨(algA s.up ma.ws)[i]'(by omega), List.getElem?_eq_getElem _⟩
      rw [List.getElem?_map, hbi] at ev
      cases Option.some.inj ev
      generalize h_G2 : upd G t _ = G2
      have k_G2 : Kp G G2 := by rw [← h_G2]; exact .new nt
      have q_G2 := (congrFun h_G2 t).symm.trans upd_same
      clear h_G2
      have kG2 := kG.trans k_G2
      have hMG := hM.kp kG2
      have hbl := alg_ws hMG s.up hbi
      have fewi := few_alg om s.up i
      refine ⟨t, _, rfl, .inl (.inl q_G2), rfl, _, _, rfl, _, _, rfl, rfl, ?_⟩
      refine ⟨_, rfl, !(((algL s.up m.wr).getD i []).map V.int).isEmpty, .inl ⟨_, SqL.of hbl, rfl⟩, ?_⟩
      have hchB : chB s m i = if (algL s.up m.wr).getD i [] = [] then [] else [.row (.b s.up i) (s.bk s.up i).length [] ((falseR ((algL s.up m.wr).getD i [])).map rowD)] := rfl
      have grow : ∀ j : Nat, ((List.range (j + 1)).map (chB s m)).flatten = ((List.range j).map (chB s m)).flatten ++ chB s m j := fun j => by
        rw [List.range_succ, List.map_append, List.flatten_append]
        show _ ++ (chB s m j ++ []) = _
        rw [List.append_nil]
      by_cases c : (algL s.up m.wr).getD i [] = []
      · rw [if_pos c] at hchB
        rw [c]
        refine iteFo rfl ⟨xs, _, _, _, _, rfl, kG2, k_G2.same _ _ rfl hpG, k_G2.same _ _ rfl hcG, by omega, ?_⟩
        rw [grow, hchB, List.append_nil]
        exact chG.ts k_G2.ts
      · rw [if_neg c] at hchB
        have ne : (!(((algL s.up m.wr).getD i []).map V.int).isEmpty) = true := by
          rw [isEmpty_int]
          cases e : (algL s.up m.wr).getD i [] with
          | nil => exact absurd e c
          | cons => rfl
        refine iteTo ne ?_
        generalize hl : (algL s.up m.wr).getD i [] = l at *
        refine ⟨_, rfl, b, rfl, ⟨_, SqL.of hbl⟩, fun D hD => ?_⟩
        refine lc_list (K := K) (a := b) (xs := l.map V.int) (fun j G' => Kp G2 G' ∧ ∃ rs : List V, G' D = some (.lst rs) ∧ DpAll K G' rs ((falseR (l.take j)).map rowD)) ⟨Kp.new hD, [], upd_same, .nil⟩ (fun j G' _ ⟨kp, _⟩ => kp.sqL (SqL.of hbl)) (fun j x G' hj ⟨kp, rs, hDl, hd⟩ => ?_) (fun G3 ⟨k3, rs, hDl, hd⟩ => ?_)
        · obtain ⟨z, hz, rfl, ez⟩ := mem_ints hj
          have hjl := (List.getElem?_eq_some_iff.mp ez).1
          refine ⟨rfl, _, rfl, szl (by show 2 ≤ 100000; decide), fun u nu => ?_⟩
          generalize h_G4 : upd G' u _ = G4
          have k_G4 : Kp G' G4 := by rw [← h_G4]; exact .new nu
          have q_G4 := (congrFun h_G4 u).symm.trans upd_same
          clear h_G4
          have hD4 := k_G4.same _ _ rfl hDl
          have hrl := DpAll.len hd
          rw [List.length_map, falseR, List.length_map, List.length_take] at hrl
          refine ⟨rs, hD4, szt (by omega), (kp.trans k_G4).mut hD, _, upd_same, ?_⟩
          rw [take_snoc ez, falseR, List.map_append, List.map_append]
          refine DpAll.mut hD4 ?_ (DpAll.snoc (k_G4.dpAll hd) (.tup (.inl (.inl q_G4)) (.cons (.int _) (.cons (.bl _) .nil))))
          intro d hd
          rw [← List.map_append, ← List.map_append] at hd
          exact ch_row_nl _ d hd
        rw [List.length_map, List.take_length] at hd
        have hrl := DpAll.len hd
        rw [List.length_map, falseR, List.length_map] at hrl
        refine ⟨D, _, rfl, .inl ⟨SqL.of hDl, fun tr ntr => ?_⟩⟩
        generalize h_G5 : upd G3 tr _ = G5
        have k_G5 : Kp G3 G5 := by rw [← h_G5]; exact .new ntr
        have q_G5 := (congrFun h_G5 tr).symm.trans upd_same
        clear h_G5
        have k25 := k3.trans k_G5
        have hcG5 := k25.same _ _ rfl (k_G2.same _ _ rfl hcG)
        have kG5 := kG2.trans k25
        have hS5 := hS.kp kG5
        refine ⟨_, rfl, .inl ⟨rfl, _, SqL.of hcG5⟩, _, rfl, _, rfl, wayN s.up, _, rfl, fun tb G6 ntb k6 htb => ?_⟩
        have kG6 := kG5.trans k6
        refine ⟨_, rfl, a.s, dx, _, rfl, kG6.same _ _ rfl hs, sno (by decide +kernel) (by decide +kernel), _, rfl, _, rfl, a, _, s.up, i, (s.bk s.up i).map rowD, rfl, hS5.kp k6, hi, rfl, fun G7 k7 => ?_⟩
        refine ⟨Nat.zero_le _, fun e0 ne0 => ?_⟩
        generalize h_G8 : upd G7 e0 _ = G8
        have k_G8 : Kp G7 G8 := by rw [← h_G8]; exact .new ne0
        have q_G8 := (congrFun h_G8 e0).symm.trans upd_same
        clear h_G8
        refine ⟨_, rfl, szl (by show 4 ≤ 100000; decide), fun c4 nc4 => ?_⟩
        generalize h_G9 : upd G8 c4 _ = G9
        have k_G9 : Kp G8 G9 := by rw [← h_G9]; exact .new nc4
        have q_G9 := (congrFun h_G9 c4).symm.trans upd_same
        clear h_G9
        have k59 := (k6.trans k7).trans (k_G8.trans k_G9)
        have hcG9 := k59.same _ _ rfl hcG5
        refine ⟨cl, _, _, rfl, rfl, hcG9, szt (by omega), ?_⟩
        have tsC : TupS G9 (upd G9 cl (.lst (xs ++ [.ref c4]))) := .upd hcG9 trivial
        refine ⟨xs ++ [.ref c4], _, _, _, _, rfl, (kG5.trans k59).mut ncl0, ?_, upd_same, by rw [List.length_append, List.length_singleton]; omega, ?_⟩
        · rw [upd_ne npc]
          exact (k25.trans k59).same _ _ rfl (k_G2.same _ _ rfl hpG)
        · rw [grow, hchB, ← List.append_assoc]
          have elen : (((s.bk s.up i).map rowD).length : Int) = ((s.bk s.up i).length : Int) := by rw [List.length_map]
          have cN : ChAt K G9 (.ref c4) (.row (.b s.up i) (s.bk s.up i).length [] ((falseR l).map rowD)) := by
            refine ⟨⟨by simp, ch_row_nl _⟩, .ref tb, .int ((s.bk s.up i).length : Int), .ref e0, .ref tr, ⟨c4, rfl, .inl (.inl ?_)⟩, ⟨tb, rfl, ((k7.trans k_G8).trans k_G9).same _ _ rfl htb⟩, rfl, ⟨[], ⟨e0, rfl, .inl (.inl (k_G9.same _ _ rfl q_G8))⟩, .nil⟩, rs, ⟨tr, rfl, .inl (.inl (k59.same _ _ rfl q_G5))⟩, (k_G5.trans k59).dpAll hd⟩
            rw [← elen]
            exact q_G9
          exact (ChsAt.snoc (chG.ts (k_G2.trans (k25.trans k59)).ts) cN).ts tsC
    · rintro σ G ⟨xs, y6, y7, y8, y9, rfl, kG, hpG, hcG, hxl, chG⟩
      rw [List.length_map, lal] at chG
      exact ⟨_, rfl, kk cl xs G ncl0 kG hcG chG⟩
/-! ### a keeper acts -/
theorem comeP_ok {s : PS} {m : Mo} {B : Nat} (ok : s.Ok) (om : m.Ok s.n B) (hq : m.q.length ≤ (s.q s.up).length) : (comeP s m).Ok := by
  refine ⟨ok.lo, ok.hi, ?_, ok.sl, ok.fg, fun u => ?_⟩
  · show (alg s.up m.sh).length = s.n
    rw [alg_len, om.sh]
  · show (if u = s.up then m.q else s.q u).length ≤ 60
    by_cases h : u = s.up
    · rw [if_pos h]
      exact Nat.le_trans hq (ok.q s.up)
    · rw [if_neg h]
      exact ok.q u
theorem motP_ok {s : PS} (ok : s.Ok) : (motP s).Ok s.n 0 := ⟨by show (alg s.up s.arms).length = _; rw [alg_len, ok.arms], List.length_replicate, fun l hl => by rw [List.eq_of_mem_replicate hl]; exact Nat.le_refl _⟩
/-- a place is ready on a line -/
def rdyP (s : PS) (m : Int) : Bool := decide (plI s.up s.n m ∈ rdysM (motP s))
def sp_p_Line_ready_place (P : Program) (w : World) (K : PySem.W.Frag) : Sp := fun vs H Q E => ∃ (L : Addr) (x : LS) (ma : MA) (m : Int), vs = [.ref L, .ref ma.m, .int m] ∧ LineP P w K H L x ∧ MotAt K H ma (motP x.s) ∧
  (¬ (0 ≤ m ∧ m < (x.s.n : Int)) → ∀ H', Kp H H' → E (.ref (He.ga K "NoMast")) none H') ∧
  (0 ≤ m ∧ m < (x.s.n : Int) → rdyP x.s m = false → ∀ H', Kp H H' → E (.ref (He.ga K "NotReady")) none H') ∧
  (0 ≤ m ∧ m < (x.s.n : Int) → rdyP x.s m = true → ∀ H', Kp H H' → Q (.int (plI x.s.up x.s.n m)) H')
theorem ok_p_Line_ready_place (T : Txt K mg) : FnOk P w K mg base (L2.CX P w) 6 T.f_p_Line_ready_place T.d_p_Line_ready_place ["self", "motion", "mast"] (sp_p_Line_ready_place P w K) := by
  refine T.F_p_Line_ready_place.okX sc_p_Line_ready_place (fun vs H Q E h => ?_) (fun cdv A outer s H vs Q E hr h => ?_)
  · obtain ⟨L, x, ma, m, rfl, _⟩ := h
    rfl
  · obtain ⟨L, x, ma, m, rfl, hL, hM, kM, kN, k⟩ := h
    refine ⟨_, (pss_cons (ps_set (i := 3) sc_p_Line_ready_place.nd rfl (by first | exact Or.inl rfl | exact Or.inr rfl) (pe_meth (pe_fld (pv 0) rfl) T.cl_State T.M_p_State_place_here (ok_p_State_place_here T) (hr.mono (by decide)) T.b_p_State_place_here .nil (passes_call (takes_of rfl rfl rfl rfl) (fun _ _ _ _ z => z)) (pa_cons (pv 2) pa_nil)))
      (pss_cons (ps_if (pt_cmpR op_notIn_seq (pv 3) (pe_meth0 (pv 1) T.cl_Motion T.M_p_Motion_ready_places (ok_p_Motion_ready_places T) (hr.mono (by decide)) T.b_p_Motion_ready_places .nil pass0) rfl)
      (pss_one (ps_raise rfl (takes_of rfl rfl rfl rfl) (pmk_own PySem.F.excBase_ValueError T.x_NotReady T.g_NotReady T.k_NotReady (raises_own T.b_NotReady T.t_NotReady) rfl)))
      pss_nil)
      (pss_one (ps_ret (pv 3))))), ?_⟩
    obtain ⟨dx, hl⟩ := hL.at_.ob
    obtain ⟨dxs, hs⟩ := hL.at_.st.ob
    have om := motP_ok hL.ok
    have hn := hL.ok.hi
    refine ⟨_, rfl, L, _, dx, _, _, rfl, hl, T.cl_Line, T.n_Line_state, fldL_state _ _ _, x.a.s, dxs, _, rfl, hs, fldS_no _ _ (by decide +kernel) (by decide +kernel), _, rfl, x.a, x.c, x.s.up, m, rfl, hL.at_.st, arms_len hL.ok, rfl, fun c H1 k1 => ?_, fun c H1 k1 => kM c H1 k1⟩
    have hM1 := hM.kp k1
    obtain ⟨dxm, ho⟩ := hM1.ob
    refine ⟨_, rfl, _, rfl, ma.m, dxm, _, rfl, ho, fldM_no _ (by decide +kernel) (by decide +kernel) (by decide +kernel) (by decide +kernel) (by decide +kernel), ma, motP x.s, rfl, hM1, by rw [om.sh]; omega, fun r H2 nr k2 hr2 => ?_⟩
    refine ⟨r, _, rfl, .inl (SqL.of hr2), rfl, flat_intL _, _, rfl, ?_⟩
    show if (!inV (.int (plI x.s.up (x.s.n : Int) m)) ((rdysM (motP x.s)).map V.int)) = true then _ else _
    rw [inV_ints]
    show if (!rdyP x.s m) = true then _ else _
    by_cases e : rdyP x.s m = true
    · rw [e]
      exact iteFo rfl ⟨_, rfl, k c e H2 (k1.trans k2)⟩
    · have e : rdyP x.s m = false := by simpa using e
      rw [e]
      exact iteTo rfl (kN c e H2 (k1.trans k2))
theorem why_q {sh asl fg : List Int} (h : rdyB sh false asl fg 0 = true) : sh.getD 0 0 ≠ 0 := by
  intro z
  have r : rs sh 0 = true := rs_iff.mpr z
  unfold rdyB whyV at h
  by_cases c : inL ((0 : Nat) : Int) asl = true
  · rw [if_pos c] at h
    revert h
    decide +kernel
  · rw [if_neg c, if_neg (fun y => Nat.lt_irrefl 0 y.1), if_pos (.inl ⟨r, rfl, rfl⟩)] at h
    revert h
    decide +kernel
theorem rdy_q {m : Mo} (h : rdyM m 0 = true) (z : m.sh.getD 0 0 = 0) : m.q ≠ [] := by
  intro e
  unfold rdyM at h
  rw [e] at h
  exact why_q h z
theorem rdys_iff {m : Mo} {z : Int} : z ∈ rdysM m ↔ ∃ p : Nat, z = (p : Int) ∧ p < m.sh.length ∧ rdyM m p = true := fil_mem
/-- how many signs that waited a move begins -/
def moveK (m : Mo) (p : Nat) : Nat := if p = 0 ∧ m.sh.getD 0 0 = 0 then 1 else 0
theorem move_q (m : Mo) (p : Nat) : (m.move p).q = m.q.drop (moveK m p) := by
  unfold Mo.move moveK
  by_cases c : m.sh.getD p 0 = 0
  · rw [if_pos c]
    show (if p = 0 then m.q.tail else m.q) = _
    by_cases z : p = 0
    · subst z
      rw [if_pos rfl, if_pos ⟨rfl, c⟩]
      cases m.q <;> rfl
    · rw [if_neg z, if_neg (fun y => z y.1)]
      rfl
  · rw [if_neg c, if_neg]
    · rfl
    · rintro ⟨rfl, y⟩
      exact c y
def plN (s : PS) (m : Int) : Nat := (plI s.up s.n m).toNat
theorem plN_I {s : PS} {m : Int} (h0 : 0 ≤ m) (h1 : m < (s.n : Int)) : ((plN s m : Nat) : Int) = plI s.up s.n m := by
  have := plI_in (u := s.up) h0 h1
  unfold plN
  omega
def actP (s : PS) (m : Int) : PS := comeP s ((motP s).move (plN s m))
def deed1 (nm : Str) (m : Int) : PyData := .tuple [.str nm, .int m]
theorem deed1_nl (nm : Str) (m : Int) : Nl (deed1 nm m) := .tup fun d hd => by
  simp only [List.mem_cons, List.not_mem_nil, or_false] at hd
  rcases hd with rfl | rfl
  · exact .str _
  · exact .int _
def actedL (x : LS) (a' : LA) (m : Int) : LS := ⟨a', actP x.s m, x.ws, x.past ++ [(deed1 "act" m, chgs x.s ((motP x.s).move (plN x.s m)) (moveK (motP x.s) (plN x.s m)))], []⟩
theorem chgs_len (s : PS) (m : Mo) (k : Nat) : (chgs s m k).length ≤ 2 + s.n := by
  unfold chgs
  rw [List.length_append]
  have : ∀ j : Nat, (((List.range j).map (chB s m)).flatten).length ≤ j := fun j => by
    induction j with
    | zero => simp
    | succ j ih =>
      rw [List.range_succ, List.map_append, List.flatten_append, List.length_append]
      have : ((([j].map (chB s m))).flatten).length ≤ 1 := by
        show (chB s m j ++ []).length ≤ 1
        rw [List.append_nil]
        unfold chB
        split <;> simp
      omega
  have := this s.n
  show 2 + _ ≤ _
  omega
def sp_p_Line_act (T : Txt K mg) (P : Program) (w : World) : Sp := fun vs H Q E => ∃ (L : Addr) (x : LS) (m : Int), vs = [.ref L, .int m] ∧ LineP P w K H L x ∧ x.past.length < 9000 ∧ (∀ u i, (x.s.bk u i).length ≤ 9000) ∧ GxR.TabG H T.P_tab ∧
  (¬ (0 ≤ m ∧ m < (x.s.n : Int)) → ∀ H', Kp H H' → E (.ref (He.ga K "NoMast")) none H') ∧
  (0 ≤ m ∧ m < (x.s.n : Int) → rdyP x.s m = false → ∀ H', Kp H H' → E (.ref (He.ga K "NotReady")) none H') ∧
  (0 ≤ m ∧ m < (x.s.n : Int) → rdyP x.s m = true → ∀ a' H', Went P w K H H' L x (actedL x a' m) → Q .non H')
theorem ok_p_Line_act (T : Txt K mg) (TB : GxR.TabB base mg T.c_tab T.P_tab) : FnOk P w K mg base (L2.CX P w) 11 T.f_p_Line_act T.d_p_Line_act ["self", "mast"] (sp_p_Line_act T P w) := by
  refine T.F_p_Line_act.okX sc_p_Line_act (fun vs H Q E h => ?_) (fun cdv A outer s H vs Q E hr h => ?_)
  · obtain ⟨L, x, m, rfl, _⟩ := h
    rfl
  · obtain ⟨L, x, m, rfl, hL, hp, hbk, hT, kM, kN, k⟩ := h
    refine ⟨_, (pss_cons (ps_set (i := 2) sc_p_Line_act.nd rfl (by first | exact Or.inl rfl | exact Or.inr rfl) (pe_meth0 (pe_fld (pv 0) rfl) T.cl_State T.M_p_State_motion (ok_p_State_motion T) (hr.mono (by decide)) T.b_p_State_motion .nil pass0))
      (pss_cons (ps_expr (pe_meth (pv 2) T.cl_Motion T.M_p_Motion_move (ok_p_Motion_move T) (hr.mono (by decide)) T.b_p_Motion_move .nil pass0 (pa_cons (pe_meth (pv 0) T.cl_Line T.M_p_Line_ready_place (ok_p_Line_ready_place T) (hr.mono (by decide)) T.b_p_Line_ready_place .nil (passes_call (takes_of rfl rfl rfl rfl) (fun _ _ _ _ z => z)) (pa_cons (pv 2) (pa_cons (pv 1) pa_nil))) pa_nil)))
      (pss_one (ps_expr (pe_meth (pv 0) T.cl_Line T.M_p_Line_do (ok_p_Line_do T TB) (hr.mono (by decide)) T.b_p_Line_do .nil (passes_call (takes_of rfl rfl rfl rfl) (fun _ _ _ _ z => z)) (pa_cons (pe_tup (pa_cons pe_str (pa_cons (pv 1) pa_nil))) (pa_cons (pe_meth (pe_fld (pv 0) rfl) T.cl_State T.M_p_State_changes_by (ok_p_State_changes_by T) (hr.mono (by decide)) T.b_p_State_changes_by .nil pass0 (pa_cons (pv 2) pa_nil)) pa_nil))))))), ?_⟩
    obtain ⟨dx, hl⟩ := hL.at_.ob
    obtain ⟨dxs, hs⟩ := hL.at_.st.ob
    have om := motP_ok hL.ok
    have hn := hL.ok.hi
    have lno : ∀ {nm : Str}, ¬ nm = "future" → ¬ nm = "past" → ¬ nm = "state" → (fldL x.a.s x.a.p x.a.f).lookup nm = none := fun h1 h2 h3 => fldL_no _ _ _ h1 h2 h3
    refine ⟨_, rfl, L, _, dx, _, _, rfl, hl, T.cl_Line, T.n_Line_state, fldL_state _ _ _, x.a.s, dxs, _, rfl, hs, fldS_no _ _ (by decide +kernel) (by decide +kernel), x.a, x.s, x.ws, x.past, x.fut, rfl, hL.at_.st, hL.ok, fun ma H1 nm1 fr1 k1 hM1 => ?_⟩
    have hL1 := hL.kp k1
    obtain ⟨dxm, ho⟩ := hM1.ob
    refine ⟨_, rfl, ma.m, dxm, _, rfl, ho, fldM_no _ (by decide +kernel) (by decide +kernel) (by decide +kernel) (by decide +kernel) (by decide +kernel), _, rfl, L, dx, _, rfl, k1.same _ _ rfl hl, lno (by decide +kernel) (by decide +kernel) (by decide +kernel), _, rfl, _, rfl, L, x, ma, m, rfl, hL1, hM1, fun c H2 k2 => kM c H2 (k1.trans k2), fun c c2 H2 k2 => kN c c2 H2 (k1.trans k2), fun c c2 H2 k2 => ?_⟩
    have pin := plI_in (u := x.s.up) c.1 c.2
    obtain ⟨p, hpI⟩ : ∃ p : Nat, plI x.s.up x.s.n m = (p : Int) := ⟨(plI x.s.up x.s.n m).toNat, by omega⟩
    have epn : plN x.s m = p := by unfold plN; rw [hpI, Int.toNat_natCast]
    have rp : rdyM (motP x.s) p = true := by
      have := of_decide_eq_true c2
      rw [hpI] at this
      obtain ⟨p', e, _, h⟩ := rdys_iff.mp this
      rw [show p = p' by omega]
      exact h
    have k := k c c2
    unfold actedL actP at k
    rw [epn] at k
    refine ⟨ma, motP x.s, p, x.s.n, 0, by rw [hpI]; rfl, hM1.kp k2, om, by decide, by omega, by omega, fun z h0 => rdy_q (by rw [← z]; exact rp) h0, fun H3 e3 hM3 => ?_⟩
    have k03 : Kp H H3 := KpE.kp (k1.trans k2) e3 (fun b hb => fr1 b (by
      simp only [footM, List.mem_cons] at hb
      simp only [MA.ls, List.mem_cons]
      rcases hb with h | h | h
      · exact .inl h
      · exact .inr (.inl h)
      · exact .inr (.inr (.inr (.inr (.inr h))))))
    have hL3 := hL.kp k03
    have om3 := move_ok (p := p) om
    refine ⟨_, rfl, L, dx, _, rfl, k03.same _ _ rfl hl, lno (by decide +kernel) (by decide +kernel) (by decide +kernel), _, rfl, szl (by show 2 ≤ 100000; decide), fun D nD => ?_⟩
    generalize h_H4 : upd H3 D _ = H4
    have k_H4 : Kp H3 H4 := by rw [← h_H4]; exact .new nD
    have q_H4 := (congrFun h_H4 D).symm.trans upd_same
    clear h_H4
    have k04 := k03.trans k_H4
    have hL4 := hL.kp k04
    have qle : moveK (motP x.s) p ≤ (x.s.q x.s.up).length := by
      unfold moveK
      by_cases z : p = 0 ∧ (motP x.s).sh.getD 0 0 = 0
      · rw [if_pos z]
        have := rdy_q (by rw [← z.1]; exact rp) z.2
        exact List.length_pos_iff.mpr this
      · rw [if_neg z]
        exact Nat.zero_le _
    have hq3 : ((motP x.s).move p).q = (x.s.q x.s.up).drop (moveK (motP x.s) p) := move_q _ _
    refine ⟨_, rfl, L, _, dx, _, _, rfl, k04.same _ _ rfl hl, T.cl_Line, T.n_Line_state, fldL_state _ _ _, x.a.s, dxs, _, rfl, k04.same _ _ rfl hs, fldS_no _ _ (by decide +kernel) (by decide +kernel), _, rfl, x.a, x.s, x.ws, x.past, x.fut, ma, (motP x.s).move p, moveK (motP x.s) p, 1, rfl, hL4.at_.st, hL.ok, hM3.kp k_H4, om3, by decide, hq3, qle, hbk, fun cl xs H5 ncl k5 hcl hch => ?_⟩
    have k05 := k04.trans k5
    have hL5 := hL.kp k05
    have fcl : cl ∉ footL L x.a x.s.n := hL4.foot_none ncl
    have hfit := chgs_fit x.s ((motP x.s).move p) (moveK (motP x.s) p) x.s.n 1 hL.ok om3 (by decide) hq3 qle hbk x.ws x.past x.fut
    have hcl_ := chgs_len x.s ((motP x.s).move p) (moveK (motP x.s) p)
    refine ⟨L, x.a, x.c, .ref D, deed1 "act" m, cl, xs, _, rfl, hL5.at_, .tup (.inl (.inl (k5.same _ _ rfl q_H4))) (.cons (.str _) (.cons (.int _) .nil)), deed1_nl _ _, SqL.of hcl, fcl, hch, hp, by omega, k05.tab _ hT, fun _ a' H' g => ?_, fun nf => absurd hfit nf⟩
    have hq' : ((motP x.s).move p).q.length ≤ (x.s.q x.s.up).length := by rw [hq3, List.length_drop]; omega
    refine k a' H' (Went.pre k05 (Went.of g ?_ (comeP_ok hL.ok om3 hq')))
    have e := come_apps x.s ((motP x.s).move p) (moveK (motP x.s) p) hL.ok hq3 om3.wr qle x.ws x.past x.fut
    show (⟨x.s.n, (x.c.apps _).row, (x.c.apps _).ws, x.past ++ [_], []⟩ : LC) = _
    rw [show x.c = ⟨x.s.n, x.s.row, x.ws, x.past, x.fut⟩ from rfl, e]
    rfl
/-! ### a slip -/
def cmP (s : PS) (m : Int) : Int := cmM (motP s) (plN s m)
def slipNo (s : PS) (m a b : Int) : Option Str :=
  if 0 ≤ m ∧ m < (s.n : Int) then (if isSg a = true ∧ isSg b = true then (if rdyP s m = true then (if (motP s).sh.getD (plN s m) 0 = 0 then (if plN s m = 0 ∧ a ≠ cmP s m then some "BadSlip" else none) else some "NotRaising") else some "NotReady") else some "BadSign") else some "NoMast"
def slipP (s : PS) (m a b : Int) : PS := comeP s ((motP s).rise (plN s m) a b)
def deed3 (nm : Str) (m a b : Int) : PyData := .tuple [.str nm, .int m, .int a, .int b]
theorem deed3_nl (nm : Str) (m a b : Int) : Nl (deed3 nm m a b) := .tup fun d hd => by
  simp only [List.mem_cons, List.not_mem_nil, or_false] at hd
  rcases hd with rfl | rfl | rfl | rfl
  · exact .str _
  · exact .int _
  · exact .int _
  · exact .int _
def riseK (p : Nat) : Nat := if p = 0 then 1 else 0
theorem rise_q (m : Mo) (p : Nat) (a b : Int) : (m.rise p a b).q = m.q.drop (riseK p) := by
  unfold riseK
  show (if p = 0 then m.q.tail else m.q) = _
  by_cases z : p = 0
  · rw [if_pos z, if_pos z, List.drop_one]
  · rw [if_neg z, if_neg z, List.drop_zero]
def slippedL (x : LS) (a' : LA) (m a b : Int) : LS := ⟨a', slipP x.s m a b, x.ws, x.past ++ [(deed3 "slip" m a b, chgs x.s ((motP x.s).rise (plN x.s m) a b) (riseK (plN x.s m)))], []⟩
def sp_p_Line_slip (T : Txt K mg) (P : Program) (w : World) : Sp := fun vs H Q E => ∃ (L : Addr) (x : LS) (m a b : Int), vs = [.ref L, .int m, .int a, .int b] ∧ LineP P w K H L x ∧ x.past.length < 9000 ∧ (∀ u i, (x.s.bk u i).length ≤ 9000) ∧ GxR.TabG H T.P_tab ∧ GxR.TabG H T.P_tabS ∧
  (∀ e, slipNo x.s m a b = some e → ∀ H', Kp H H' → E (.ref (He.ga K e)) none H') ∧
  (slipNo x.s m a b = none → ∀ a' H', Went P w K H H' L x (slippedL x a' m a b) → Q .non H')
theorem ok_p_Line_slip (T : Txt K mg) (TB : GxR.TabB base mg T.c_tab T.P_tab) (TBS : GxR.TabB base mg T.c_tabS T.P_tabS) : FnOk P w K mg base (L2.CX P w) 11 T.f_p_Line_slip T.d_p_Line_slip ["self", "mast", "seen", "shown"] (sp_p_Line_slip T P w) := by
  refine T.F_p_Line_slip.okX sc_p_Line_slip (fun vs H Q E h => ?_) (fun cdv A outer s H vs Q E hr h => ?_)
  · obtain ⟨L, x, m, a, b, rfl, _⟩ := h
    rfl
  · obtain ⟨L, x, m, a, b, rfl, hL, hp, hbk, hT, hTS, kE, k⟩ := h
    refine ⟨_, (pss_cons (ps_expr (pe_meth (pe_fld (pv 0) rfl) T.cl_State T.M_p_State_check_mast (ok_p_State_check_mast T) (hr.mono (by decide)) T.b_p_State_check_mast .nil (passes_call (takes_of rfl rfl rfl rfl) (fun _ _ _ _ z => z)) (pa_cons (pv 1) pa_nil)))
      (pss_cons (ps_expr (pe_call (ok_p_check_signs T TBS) (hr.mono (by decide)) rfl T.g_p_check_signs T.F_p_check_signs.kp T.b_p_check_signs .nil (passes_call (takes_of rfl rfl rfl rfl) (fun _ _ _ _ z => z)) (pa_cons (pe_lst (pa_cons (pv 2) (pa_cons (pv 3) pa_nil))) pa_nil)))
      (pss_cons (ps_set (i := 4) sc_p_Line_slip.nd rfl (by first | exact Or.inl rfl | exact Or.inr rfl) (pe_meth0 (pe_fld (pv 0) rfl) T.cl_State T.M_p_State_motion (ok_p_State_motion T) (hr.mono (by decide)) T.b_p_State_motion .nil pass0))
      (pss_cons (ps_set (i := 5) sc_p_Line_slip.nd rfl (by first | exact Or.inl rfl | exact Or.inr rfl) (pe_meth (pv 0) T.cl_Line T.M_p_Line_ready_place (ok_p_Line_ready_place T) (hr.mono (by decide)) T.b_p_Line_ready_place .nil (passes_call (takes_of rfl rfl rfl rfl) (fun _ _ _ _ z => z)) (pa_cons (pv 4) (pa_cons (pv 1) pa_nil))))
      (pss_cons (ps_if (pt_cmpR op_ne (pe_ix ix_list (pe_fld (pv 4) rfl) (pv 5) (fun _ _ => rfl)) (pe_glob rfl T.c_REST T.r_REST) (nomark _))
      (pss_one (ps_raise rfl (takes_of rfl rfl rfl rfl) (pmk_own PySem.F.excBase_ValueError T.x_NotRaising T.g_NotRaising T.k_NotRaising (raises_own T.b_NotRaising T.t_NotRaising) rfl)))
      pss_nil)
      (Evl.pss_cut (ps_if (PW.pt (pw_and (pt_cmpR op_eq (pv 5) pe_int (nomark _)) (pw_and1 (pt_cmpR op_ne (pv 2) (pe_meth (pv 4) T.cl_Motion T.M_p_Motion_coming (ok_p_Motion_coming T) (hr.mono (by decide)) T.b_p_Motion_coming .nil pass0 (pa_cons (pv 5) pa_nil)) (nomark _)))))
      (pss_one (ps_raise rfl (takes_of rfl rfl rfl rfl) (pmk_own PySem.F.excBase_ValueError T.x_BadSlip T.g_BadSlip T.k_BadSlip (raises_own T.b_BadSlip T.t_BadSlip) rfl)))
      pss_nil)
      (pss_cons (ps_expr (pe_meth (pv 4) T.cl_Motion T.M_p_Motion_raise_arms (ok_p_Motion_raise_arms T) (hr.mono (by decide)) T.b_p_Motion_raise_arms .nil pass0 (pa_cons (pv 5) (pa_cons (pv 2) (pa_cons (pv 3) pa_nil)))))
      (pss_one (ps_expr (pe_meth (pv 0) T.cl_Line T.M_p_Line_do (ok_p_Line_do T TB) (hr.mono (by decide)) T.b_p_Line_do .nil (passes_call (takes_of rfl rfl rfl rfl) (fun _ _ _ _ z => z)) (pa_cons (pe_tup (pa_cons pe_str (pa_cons (pv 1) (pa_cons (pv 2) (pa_cons (pv 3) pa_nil))))) (pa_cons (pe_meth (pe_fld (pv 0) rfl) T.cl_State T.M_p_State_changes_by (ok_p_State_changes_by T) (hr.mono (by decide)) T.b_p_State_changes_by .nil pass0 (pa_cons (pv 4) pa_nil)) pa_nil)))))))))))), ?_⟩
    obtain ⟨dx, hl⟩ := hL.at_.ob
    obtain ⟨dxs, hs⟩ := hL.at_.st.ob
    have om := motP_ok hL.ok
    have hn := hL.ok.hi
    have lno : ∀ {nm : Str}, ¬ nm = "future" → ¬ nm = "past" → ¬ nm = "state" → (fldL x.a.s x.a.p x.a.f).lookup nm = none := fun h1 h2 h3 => fldL_no _ _ _ h1 h2 h3
    have e0 : slipNo x.s m a b = (if 0 ≤ m ∧ m < (x.s.n : Int) then (if isSg a = true ∧ isSg b = true then (if rdyP x.s m = true then (if (motP x.s).sh.getD (plN x.s m) 0 = 0 then (if plN x.s m = 0 ∧ a ≠ cmP x.s m then some "BadSlip" else none) else some "NotRaising") else some "NotReady") else some "BadSign") else some "NoMast" : Option Str) := rfl
    refine ⟨_, rfl, L, _, dx, _, _, rfl, hl, T.cl_Line, T.n_Line_state, fldL_state _ _ _, x.a.s, dxs, _, rfl, hs, fldS_no _ _ (by decide +kernel) (by decide +kernel), _, rfl, x.a, x.c, m, rfl, hL.at_.st, arms_len hL.ok, fun c1 => ?_, fun c1 => kE _ (by rw [e0, if_neg (show ¬ (0 ≤ m ∧ m < (x.s.n : Int)) from c1)]) H (.refl _)⟩
    have c1 : 0 ≤ m ∧ m < (x.s.n : Int) := c1
    rw [if_pos c1] at e0
    refine ⟨_, rfl, _, rfl, szl (by show 2 ≤ 100000; decide), fun p1 np1 => ?_⟩
    generalize h_H1 : upd H p1 _ = H1
    have k_H1 : Kp H H1 := by rw [← h_H1]; exact .new np1
    have q_H1 := (congrFun h_H1 p1).symm.trans upd_same
    clear h_H1
    have eall : [a, b].all isSg = (isSg a && isSg b) := by simp
    refine ⟨p1, [a, b], rfl, .inl (.inl q_H1), k_H1.tab _ hTS, fun ha H2 k2 => ?_, fun ha H2 k2 => kE _ (by
      rw [e0, if_neg]
      intro z
      rw [eall, z.1, z.2] at ha
      cases ha) H2 (k_H1.trans k2)⟩
    rw [eall, Bool.and_eq_true] at ha
    rw [if_pos ha] at e0
    have k02 := k_H1.trans k2
    have hL2 := hL.kp k02
    refine ⟨_, rfl, L, _, dx, _, _, rfl, k02.same _ _ rfl hl, T.cl_Line, T.n_Line_state, fldL_state _ _ _, x.a.s, dxs, _, rfl, k02.same _ _ rfl hs, fldS_no _ _ (by decide +kernel) (by decide +kernel), x.a, x.s, x.ws, x.past, x.fut, rfl, hL2.at_.st, hL.ok, fun ma H3 nm1 fr1 k3 hM3 => ?_⟩
    have k03 := k02.trans k3
    have hL3 := hL.kp k03
    refine ⟨_, rfl, L, dx, _, rfl, k03.same _ _ rfl hl, lno (by decide +kernel) (by decide +kernel) (by decide +kernel), _, rfl, _, rfl, L, x, ma, m, rfl, hL3, hM3, fun c => absurd c1 c, fun _ c2 H4 k4 => kE _ (by rw [e0, c2]; rfl) H4 (k03.trans k4), fun _ c2 H4 k4 => ?_⟩
    rw [if_pos c2] at e0
    have k04 := k03.trans k4
    have hM4 := hM3.kp k4
    have pin := plI_in (u := x.s.up) c1.1 c1.2
    obtain ⟨p, hpI⟩ : ∃ p : Nat, plI x.s.up x.s.n m = (p : Int) := ⟨(plI x.s.up x.s.n m).toNat, by omega⟩
    have epn : plN x.s m = p := by unfold plN; rw [hpI, Int.toNat_natCast]
    have rp : rdyM (motP x.s) p = true := by
      have := of_decide_eq_true c2
      rw [hpI] at this
      obtain ⟨p', e, _, h⟩ := rdys_iff.mp this
      rw [show p = p' by omega]
      exact h
    unfold slippedL slipP at k
    rw [epn] at e0 k
    have ecm : cmP x.s m = cmM (motP x.s) p := by unfold cmP; rw [epn]
    rw [ecm] at e0
    rw [hpI]
    obtain ⟨dxm, ho⟩ := hM4.ob
    have lsh : p < (motP x.s).sh.length := by have := om.sh; omega
    refine ⟨_, rfl, ma.m, _, dxm, _, _, rfl, ho, T.cl_Motion, T.n_Motion_shown, fldM_sh _, _, rfl, ma.sh, _, _, _, rfl, rfl, SqL.of hM4.sh, getD_at lsh, rfl, _, rfl, ?_⟩
    by_cases c3 : (motP x.s).sh.getD p 0 = 0
    case neg =>
      rw [if_neg c3] at e0
      refine iteTo (by rw [decide_eq_false (fun y => c3 (V.int.inj y))]; rfl) ?_
      exact kE _ e0 H4 k04
    rw [if_pos c3] at e0
    refine iteFo (by rw [c3, dec_self]; rfl) ?_
    have hpq : p = 0 → (motP x.s).q ≠ [] := fun z => rdy_q (by rw [← z]; exact rp) (by rw [← z]; exact c3)
    have fno : (fldM ma).lookup ("coming" : Str) = none := fldM_no _ (by decide +kernel) (by decide +kernel) (by decide +kernel) (by decide +kernel) (by decide +kernel)
    have fno2 : (fldM ma).lookup ("raise_arms" : Str) = none := fldM_no _ (by decide +kernel) (by decide +kernel) (by decide +kernel) (by decide +kernel) (by decide +kernel)
    refine ⟨fun σ' H' => σ' = [some (.ref L), some (.int m), some (.int a), some (.int b), some (.ref ma.m), some (.int (p : Int))] ∧ H' = H4 ∧ slipNo x.s m a b = none, ?_, ?_⟩
    · by_cases z : p = 0
      · refine ⟨_, rfl, rfl, _, rfl, iteTo (by rw [z]; exact dec_self) ?_⟩
        refine ⟨_, rfl, _, rfl, ma.m, dxm, _, rfl, ho, fno, _, rfl, ma, motP x.s, p, rfl, hM4, lsh, hpq, rfl, _, rfl, iteB (fun c => ?_) (fun c => ?_)⟩
        · have c : (!decide (V.int a = V.int (cmM (motP x.s) p))) = true := c
          refine kE _ ?_ H4 k04
          rw [e0, if_pos]
          refine ⟨z, fun e => ?_⟩
          rw [e, dec_self] at c
          cases c
        · have c : (!decide (V.int a = V.int (cmM (motP x.s) p))) = false := c
          refine ⟨rfl, rfl, ?_⟩
          rw [e0, if_neg]
          rintro ⟨_, ne⟩
          rw [decide_eq_false (fun y => ne (V.int.inj y))] at c
          cases c
      · refine ⟨_, rfl, rfl, _, rfl, iteFo (decide_eq_false fun y => z (by have := V.int.inj y; omega)) (iteFo rfl ⟨rfl, rfl, ?_⟩)⟩
        rw [e0, if_neg (fun y => z y.1)]
    rintro σ' H' ⟨rfl, rfl, eno⟩
    have k := k eno
    refine ⟨_, rfl, ma.m, dxm, _, rfl, ho, fno2, _, rfl, _, rfl, _, rfl, ma, motP x.s, p, x.s.n, 0, a, b, rfl, hM4, om, by decide, by omega, by omega, hpq, fun H5 e5 hM5 => ?_⟩
    have k05 : Kp H H5 := KpE.kp k04 e5 (fun b hb => k02.free _ (fr1 b (by
      simp only [footM, List.mem_cons] at hb
      simp only [MA.ls, List.mem_cons]
      rcases hb with h | h | h
      · exact .inl h
      · exact .inr (.inl h)
      · exact .inr (.inr (.inr (.inr (.inr h)))))))
    have hL5 := hL.kp k05
    have om3 := rise_ok (p := p) (seen := a) (shows := b) om
    refine ⟨_, rfl, L, dx, _, rfl, k05.same _ _ rfl hl, lno (by decide +kernel) (by decide +kernel) (by decide +kernel), _, rfl, _, rfl, _, rfl, szl (by show 4 ≤ 100000; decide), fun D nD => ?_⟩
    generalize h_H6 : upd H5 D _ = H6
    have k_H6 : Kp H5 H6 := by rw [← h_H6]; exact .new nD
    have q_H6 := (congrFun h_H6 D).symm.trans upd_same
    clear h_H6
    have k06 := k05.trans k_H6
    have hL6 := hL.kp k06
    have qle : riseK p ≤ (x.s.q x.s.up).length := by
      unfold riseK
      by_cases z : p = 0
      · rw [if_pos z]
        exact List.length_pos_iff.mpr (hpq z)
      · rw [if_neg z]
        exact Nat.zero_le _
    have hq3 : ((motP x.s).rise p a b).q = (x.s.q x.s.up).drop (riseK p) := rise_q _ _ _ _
    refine ⟨_, rfl, L, _, dx, _, _, rfl, k06.same _ _ rfl hl, T.cl_Line, T.n_Line_state, fldL_state _ _ _, x.a.s, dxs, _, rfl, k06.same _ _ rfl hs, fldS_no _ _ (by decide +kernel) (by decide +kernel), _, rfl, x.a, x.s, x.ws, x.past, x.fut, ma, (motP x.s).rise p a b, riseK p, 1, rfl, hL6.at_.st, hL.ok, hM5.kp k_H6, om3, by decide, hq3, qle, hbk, fun cl xs H7 ncl k7 hcl hch => ?_⟩
    have k07 := k06.trans k7
    have hL7 := hL.kp k07
    have fcl : cl ∉ footL L x.a x.s.n := hL6.foot_none ncl
    have hfit := chgs_fit x.s ((motP x.s).rise p a b) (riseK p) x.s.n 1 hL.ok om3 (by decide) hq3 qle hbk x.ws x.past x.fut
    have hcl_ := chgs_len x.s ((motP x.s).rise p a b) (riseK p)
    refine ⟨L, x.a, x.c, .ref D, deed3 "slip" m a b, cl, xs, _, rfl, hL7.at_, .tup (.inl (.inl (k7.same _ _ rfl q_H6))) (.cons (.str _) (.cons (.int _) (.cons (.int _) (.cons (.int _) .nil)))), deed3_nl _ _ _ _, SqL.of hcl, fcl, hch, hp, by omega, k07.tab _ hT, fun _ a' H' g => ?_, fun nf => absurd hfit nf⟩
    have hq' : ((motP x.s).rise p a b).q.length ≤ (x.s.q x.s.up).length := by rw [hq3, List.length_drop]; omega
    refine k a' H' (Went.pre k07 (Went.of g ?_ (comeP_ok hL.ok om3 hq')))
    have e := come_apps x.s ((motP x.s).rise p a b) (riseK p) hL.ok hq3 om3.wr qle x.ws x.past x.fut
    show (⟨x.s.n, (x.c.apps _).row, (x.c.apps _).ws, x.past ++ [_], []⟩ : LC) = _
    rw [show x.c = ⟨x.s.n, x.s.row, x.ws, x.past, x.fut⟩ from rfl, e]
    rfl
/-! ### doze, wake, fog, lift -/
theorem set_map {α β : Type} (f : α → β) : ∀ (xs : List α) (i : Nat) (b : α), i < xs.length → (xs.set i b).map f = (xs.map f).take i ++ [f b] ++ (xs.map f).drop (i + 1)
  | [], _, _, h => absurd h (Nat.not_lt_zero _)
  | x :: xs, 0, b, _ => by simp
  | x :: xs, i + 1, b, h => by
    have := set_map f xs i b (by simpa using h)
    simp only [List.set_cons_succ, List.map_cons, List.take_succ_cons, List.cons_append, List.drop_succ_cons, this]
def PS.setsl (s : PS) (i : Nat) (b : Bool) : PS := { s with sl := s.sl.set i b }
def PS.setfg (s : PS) (i : Nat) (b : Bool) : PS := { s with fg := s.fg.set i b }
theorem setsl_ok {s : PS} (o : s.Ok) (i : Nat) (b : Bool) : (s.setsl i b).Ok := ⟨o.lo, o.hi, o.arms, by show (s.sl.set i b).length = _; rw [List.length_set]; exact o.sl, o.fg, o.q⟩
theorem setfg_ok {s : PS} (o : s.Ok) (i : Nat) (b : Bool) : (s.setfg i b).Ok := ⟨o.lo, o.hi, o.arms, o.sl, by show (s.fg.set i b).length + 1 = _; rw [List.length_set]; exact o.fg, o.q⟩
theorem setsl_row {s : PS} {i : Nat} (b : Bool) (h : i < s.sl.length) (y : RK) : (s.setsl i b).row y = if y = .sleep then (s.row .sleep).take i ++ [.bool b] ++ (s.row .sleep).drop (i + 1) else s.row y := by
  cases y with
  | sleep => rw [if_pos rfl]; exact set_map PyData.bool s.sl i b h
  | _ => rw [if_neg (by intro z; cases z)]; rfl
theorem setfg_row {s : PS} {i : Nat} (b : Bool) (h : i < s.fg.length) (y : RK) : (s.setfg i b).row y = if y = .fog then (s.row .fog).take i ++ [.bool b] ++ (s.row .fog).drop (i + 1) else s.row y := by
  cases y with
  | fog => rw [if_pos rfl]; exact set_map PyData.bool s.fg i b h
  | _ => rw [if_neg (by intro z; cases z)]; rfl
def skyCh (k : RK) (m : Int) (b : Bool) : List Ch := [.row k m.toNat [.bool (!b)] [.bool b]]
def skyL (x : LS) (a' : LA) (s' : PS) (nm : Str) (k : RK) (m : Int) (b : Bool) : LS := ⟨a', s', x.ws, x.past ++ [(deed1 nm m, skyCh k m b)], []⟩
def sp_skyN (T : Txt K mg) (C D : Addr) (sel : PS → List Bool) (set : PS → Nat → Bool → PS) (nm : Str) (key : RK) (b : Bool) (P : Program) (w : World) : Sp := fun vs H Q E => ∃ (L : Addr) (x : LS) (m : Int), vs = [.ref L, .int m] ∧ LineP P w K H L x ∧ x.past.length < 9000 ∧ GxR.TabG H T.P_tab ∧
  (¬ (0 ≤ m ∧ m < ((sel x.s).length : Int)) → ∀ H', Kp H H' → E (.ref C) none H') ∧
  (0 ≤ m ∧ m < ((sel x.s).length : Int) → (sel x.s).getD m.toNat false = b → ∀ H', Kp H H' → E (.ref D) none H') ∧
  (0 ≤ m ∧ m < ((sel x.s).length : Int) → (sel x.s).getD m.toNat false = (!b) → ∀ a' H', Went P w K H H' L x (skyL x a' (set x.s m.toNat b) nm key m b) → Q .non H')
theorem ok_p_Line_fog (T : Txt K mg) (TB : GxR.TabB base mg T.c_tab T.P_tab) : FnOk P w K mg base (L2.CX P w) 10 T.f_p_Line_fog T.d_p_Line_fog ["self", "gap"] (sp_skyN T T.a_NoMast T.a_Fogged PS.fg PS.setfg "fog" .fog true P w) := by
  refine T.F_p_Line_fog.okX sc_p_Line_fog (fun vs H Q E h => ?_) (fun cdv A outer s H vs Q E hr h => ?_)
  · obtain ⟨L, x, m, rfl, _⟩ := h
    rfl
  · obtain ⟨L, x, m, rfl, hL, hpa, hT, x1, x2, q⟩ := h
    refine ⟨_, (pss_cons (ps_expr (pe_meth (pe_fld (pv 0) rfl) T.cl_State T.M_p_State_check_gap (ok_p_State_check_gap T) (hr.mono (by decide)) T.b_p_State_check_gap .nil (passes_call (takes_of rfl rfl rfl rfl) (fun _ _ _ _ z => z)) (pa_cons (pv 1) pa_nil)))
      (pss_cons (ps_if (pt_cmpR op_in_seq (pv 1) (pe_meth0 (pv 0) T.cl_Line T.M_p_Line_fogs (ok_p_Line_fogs T) (hr.mono (by decide)) T.b_p_Line_fogs .nil pass0) rfl)
      (pss_one (ps_raise rfl (takes_of rfl rfl rfl rfl) (pmk_own PySem.F.excBase_ValueError T.x_Fogged T.g_Fogged T.k_Fogged (raises_own T.b_Fogged T.t_Fogged) rfl)))
      pss_nil)
      (pss_one (ps_expr (pe_meth (pv 0) T.cl_Line T.M_p_Line_do (ok_p_Line_do T TB) (hr.mono (by decide)) T.b_p_Line_do .nil (passes_call (takes_of rfl rfl rfl rfl) (fun _ _ _ _ z => z)) (pa_cons (pe_tup (pa_cons pe_str (pa_cons (pv 1) pa_nil))) (pa_cons (pe_lst (pa_cons (pe_tup (pa_cons (pe_glob rfl T.c_FOG T.r_FOG) (pa_cons (pv 1) (pa_cons (pe_tup (pa_cons pe_bl pa_nil)) (pa_cons (pe_tup (pa_cons pe_bl pa_nil)) pa_nil))))) pa_nil)) pa_nil))))))), ?_⟩
    obtain ⟨dx, hl⟩ := hL.at_.ob
    obtain ⟨dxs, hs⟩ := hL.at_.st.ob
    have lno : ∀ {nm : Str}, ¬ nm = "future" → ¬ nm = "past" → ¬ nm = "state" → (fldL x.a.s x.a.p x.a.f).lookup nm = none := fun h1 h2 h3 => fldL_no _ _ _ h1 h2 h3
    have eln : (x.s.fg.length : Int) = (x.s.n : Int) - 1 := by have := hL.ok.fg; omega
    refine ⟨_, rfl, L, _, dx, _, _, rfl, hl, T.cl_Line, T.n_Line_state, fldL_state _ _ _, x.a.s, dxs, _, rfl, hs, fldS_no _ _ (by decide +kernel) (by decide +kernel), _, rfl, x.a, x.c, m, rfl, hL.at_.st, arms_len hL.ok, fun c1 => ?_, fun c1 => x1 (fun z => c1 ⟨z.1, by have := z.2; rw [eln] at this; have e : x.c.n = x.s.n := rfl; rw [e]; omega⟩) H (.refl _)⟩
    have c1 : 0 ≤ m ∧ m < (x.s.fg.length : Int) := ⟨c1.1, by have := c1.2; have e : x.c.n = x.s.n := rfl; rw [e] at this; rw [eln]; omega⟩
    refine ⟨_, rfl, _, rfl, L, dx, _, rfl, hl, lno (by decide +kernel) (by decide +kernel) (by decide +kernel), L, x, rfl, hL, fun r H1 nr k1 hr1 => ?_⟩
    refine ⟨r, _, rfl, .inl (.inl (.inl hr1)), rfl, flat_intL _, ?_⟩
    have hin : inV (.int m) ((marks x.s.fg).map V.int) = x.s.fg.getD m.toNat false := by
      rw [inV_ints, Bool.eq_iff_iff, decide_eq_true_iff]
      exact mem_marks c1.1 c1.2
    refine ⟨_, rfl, iteB (fun c2 => ?_) (fun c2 => ?_)⟩
    · have c2 : (inV (.int m) ((marks x.s.fg).map V.int)) = true := c2
      rw [hin] at c2
      exact x2 c1 (by exact c2) H1 k1
    · have c2 : (inV (.int m) ((marks x.s.fg).map V.int)) = false := c2
      rw [hin] at c2
      have c3 : x.s.fg.getD m.toNat false = false := by exact c2
      have hl1 := k1.same _ _ rfl hl
      refine ⟨_, rfl, L, dx, _, rfl, hl1, lno (by decide +kernel) (by decide +kernel) (by decide +kernel), _, rfl, szl (by show 2 ≤ 100000; decide), fun t1 n1 => ?_⟩
      generalize h_H2 : upd H1 t1 _ = H2
      have k_H2 : Kp H1 H2 := by rw [← h_H2]; exact .new n1
      have q_H2 := (congrFun h_H2 t1).symm.trans upd_same
      clear h_H2
      refine ⟨_, rfl, szl (by show 1 ≤ 100000; decide), fun t2 n2 => ?_⟩
      generalize h_H3 : upd H2 t2 _ = H3
      have k_H3 : Kp H2 H3 := by rw [← h_H3]; exact .new n2
      have q_H3 := (congrFun h_H3 t2).symm.trans upd_same
      clear h_H3
      refine ⟨szl (by show 1 ≤ 100000; decide), fun t3 n3 => ?_⟩
      generalize h_H4 : upd H3 t3 _ = H4
      have k_H4 : Kp H3 H4 := by rw [← h_H4]; exact .new n3
      have q_H4 := (congrFun h_H4 t3).symm.trans upd_same
      clear h_H4
      refine ⟨szl (by show 4 ≤ 100000; decide), fun t4 n4 => ?_⟩
      generalize h_H5 : upd H4 t4 _ = H5
      have k_H5 : Kp H4 H5 := by rw [← h_H5]; exact .new n4
      have q_H5 := (congrFun h_H5 t4).symm.trans upd_same
      clear h_H5
      refine ⟨szl (by show 1 ≤ 100000; decide), fun cl ncl => ?_⟩
      generalize h_H6 : upd H5 cl _ = H6
      have k_H6 : Kp H5 H6 := by rw [← h_H6]; exact .new ncl
      have q_H6 := (congrFun h_H6 cl).symm.trans upd_same
      clear h_H6
      have k25 := (k_H3.trans k_H4).trans k_H5
      have k26 := k25.trans k_H6
      have k05 := (k1.trans k_H2).trans k25
      have kA := k05.trans k_H6
      have em : ((m.toNat : Nat) : Int) = m := Int.toNat_of_nonneg c1.1
      have lm : m.toNat < x.s.fg.length := by omega
      have hn := hL.ok.hi
      have hch : ChsAt K H6 [.ref t4] (skyCh .fog m true) := by
        refine ⟨⟨⟨fun d hd => ?_, fun d hd => ?_⟩, .str "fog", .int m, .ref t2, .ref t3, ⟨t4, rfl, .inl (.inl (k_H6.same _ _ rfl q_H5))⟩, rfl, (by rw [em]), ⟨[.bl false], ⟨t2, rfl, .inl (.inl (((k_H4.trans k_H5).trans k_H6).same _ _ rfl q_H3))⟩, .cons (.bl _) .nil⟩, [.bl true], ⟨t3, rfl, .inl (.inl ((k_H5.trans k_H6).same _ _ rfl q_H4))⟩, .cons (.bl _) .nil⟩, trivial⟩
        · rw [List.mem_singleton.mp hd]; exact .bl _
        · rw [List.mem_singleton.mp hd]; exact .bl _
      have fcl : cl ∉ footL L x.a x.s.n := SqL.not_foot (hL.kp k05).at_ ncl
      have hfit : FitsC x.c (skyCh .fog m true) := by
        refine ⟨⟨key_fog _, ?_, ?_⟩, trivial⟩
        · show m.toNat + 1 ≤ (x.s.fg.map PyData.bool).length
          rw [List.length_map]
          omega
        · show (x.s.fg.map PyData.bool).length + 1 ≤ 10000
          rw [List.length_map]
          omega
      refine ⟨L, x.a, x.c, .ref t1, deed1 "fog" m, cl, [.ref t4], skyCh .fog m true, rfl, (hL.kp kA).at_, .tup (.inl (.inl (k26.same _ _ rfl q_H2))) (.cons (.str _) (.cons (.int _) .nil)), deed1_nl _ _, .inl (.inl q_H6), fcl, hch, hpa, (by show 1 < 9000; decide), kA.tab _ hT, fun _ a' H' g => ?_, fun nf => absurd hfit nf⟩
      exact q c1 c3 a' H' (Went.pre kA (Went.of g (did_row (s' := x.s.setfg m.toNat true) rfl (setfg_row true lm)) (setfg_ok hL.ok _ _)))
/-! ### turn; ready -/
def PS.turned (s : PS) : PS := { s with up := !s.up }
theorem turned_ok {s : PS} (o : s.Ok) : s.turned.Ok := ⟨o.lo, o.hi, o.arms, o.sl, o.fg, o.q⟩
theorem turned_row (s : PS) (y : RK) : s.turned.row y = if y = .way then (s.row .way).take 0 ++ [.str (wayN (!s.up))] ++ (s.row .way).drop (0 + 1) else s.row y := by
  cases y with
  | way => rw [if_pos rfl]; rfl
  | _ => rw [if_neg (by intro z; cases z)]; rfl
def turnCh (s : PS) : List Ch := [.row .way 0 [.str (wayN s.up)] [.str (wayN (!s.up))]]
def turnL (x : LS) (a' : LA) : LS := ⟨a', x.s.turned, x.ws, x.past ++ [(.tuple [.str "turn"], turnCh x.s)], []⟩
def bareP (s : PS) : Bool := s.arms.all fun z => decide (z = 0)
def sp_p_Line_turn (T : Txt K mg) (Pt : Addr) (P : Program) (w : World) : Sp := fun vs H Q E => ∃ (L : Addr) (x : LS), vs = [.ref L] ∧ LineP P w K H L x ∧ x.past.length < 9000 ∧ GxR.TabG H T.P_tab ∧ GxR.TabG H Pt ∧
  (bareP x.s = false → ∀ H', Kp H H' → E (.ref T.a_Busy) none H') ∧
  (bareP x.s = true → ∀ a' H', Went P w K H H' L x (turnL x a') → Q .non H')
theorem ok_p_Line_turn (T : Txt K mg) (TB : GxR.TabB base mg T.c_tab T.P_tab) (TBN : GxR.TabB base mg T.c_tabN T.P_tabN) : FnOk P w K mg base (L2.CX P w) 10 T.f_p_Line_turn T.d_p_Line_turn ["self"] (sp_p_Line_turn T T.P_tabN P w) := by
  obtain ⟨tl, hu0⟩ : ∃ tl, T.u_REST = Value.int 0 tl := T.r_REST
  have hL : mg "REST" = some (.int 0 tl) := T.c_REST.trans (congrArg some hu0)
  refine T.W_p_Line_turn.okX sc_p_Line_turn (fun vs H Q E h => ?_) (fun A outer s H vs Q E hr h => ?_)
  · obtain ⟨L, x, rfl, _⟩ := h
    rfl
  · obtain ⟨L, x, rfl, hX, hpa, hT, hT2, x1, q⟩ := h
    refine ⟨_, (pss_cons (ps_if (pt_val (pe_anyI hr (by rfl) T.m_any (by decide +kernel) TBN rfl ⟨rfl, rfl, noCell (by decide +kernel), rfl, rfl, noFree (by decide +kernel)⟩ (pe_meth0 (pv 0) T.cl_Line T.M_p_Line_arms (ok_p_Line_arms T) (hr.mono (by decide)) T.b_p_Line_arms .nil pass0) (elt_neG rfl rfl rfl hL) (fun _ => rfl)))
      (pss_one (ps_raise rfl (takes_of rfl rfl rfl rfl) (pmk_own PySem.F.excBase_ValueError T.x_Busy T.g_Busy T.k_Busy (raises_own T.b_Busy T.t_Busy) rfl)))
      pss_nil)
      (pss_cons (ps_set (i := 2) sc_p_Line_turn.nd rfl (by first | exact Or.inl rfl | exact Or.inr rfl) (pe_meth0 (pv 0) T.cl_Line T.M_p_Line_way (ok_p_Line_way T) (hr.mono (by decide)) T.b_p_Line_way .nil pass0))
      (pss_one (ps_expr (pe_meth (pv 0) T.cl_Line T.M_p_Line_do (ok_p_Line_do T TB) (hr.mono (by decide)) T.b_p_Line_do .nil (passes_call (takes_of rfl rfl rfl rfl) (fun _ _ _ _ z => z)) (pa_cons (pe_tup (pa_cons pe_str pa_nil)) (pa_cons (pe_lst (pa_cons (pe_tup (pa_cons (pe_glob rfl T.c_WAY T.r_WAY) (pa_cons pe_int (pa_cons (pe_tup (pa_cons (pv 2) pa_nil)) (pa_cons (pe_tup (pa_cons (pe_ifExp (pt_cmpR op_eq (pv 2) (pe_glob rfl T.c_UP T.r_UP) (nomark _)) (pe_glob rfl T.c_DOWN T.r_DOWN) (pe_glob rfl T.c_UP T.r_UP)) pa_nil)) pa_nil))))) pa_nil)) pa_nil))))))), ?_⟩
    obtain ⟨dx, hl⟩ := hX.at_.ob
    have lno : ∀ {nm : Str}, ¬ nm = "future" → ¬ nm = "past" → ¬ nm = "state" → (fldL x.a.s x.a.p x.a.f).lookup nm = none := fun h1 h2 h3 => fldL_no _ _ _ h1 h2 h3
    refine ⟨_, rfl, L, dx, _, rfl, hl, lno (by decide +kernel) (by decide +kernel) (by decide +kernel), L, x, rfl, hX, fun r H1 nr k1 hr1 => ?_⟩
    refine ⟨r, x.s.arms, rfl, .inl (.inl hr1), k1.tab _ hT2, fun H2 tb => ?_⟩
    have k2 := kp_tabbed (k1.tab _ hT2) tb
    have k02 := k1.trans k2
    refine ⟨_, rfl, iteB (fun c => ?_) (fun c => ?_)⟩
    · refine x1 ?_ _ k02
      unfold bareP
      rw [← Bool.not_eq_true, List.all_eq_true]
      intro h
      obtain ⟨z, hz, e⟩ := List.any_eq_true.mp c
      have := of_decide_eq_true (h z hz)
      rw [this] at e
      cases e
    · have hb : bareP x.s = true := by
        unfold bareP
        rw [List.all_eq_true]
        intro z hz
        rw [List.any_eq_false] at c
        have := c z hz
        exact decide_eq_true (by simpa using this)
      have hl2 := k02.same _ _ rfl hl
      have hX2 := hX.kp k02
      refine ⟨_, rfl, L, dx, _, rfl, hl2, lno (by decide +kernel) (by decide +kernel) (by decide +kernel), L, x, rfl, hX2, ?_⟩
      refine ⟨_, rfl, L, dx, _, rfl, hl2, lno (by decide +kernel) (by decide +kernel) (by decide +kernel), szl (by show 1 ≤ 100000; decide), fun t1 n1 => ?_⟩
      generalize h_H3 : upd H2 t1 _ = H3
      have k_H3 : Kp H2 H3 := by rw [← h_H3]; exact .new n1
      have q_H3 := (congrFun h_H3 t1).symm.trans upd_same
      clear h_H3
      refine ⟨_, rfl, szl (by show 1 ≤ 100000; decide), fun t2 n2 => ?_⟩
      generalize h_H4 : upd H3 t2 _ = H4
      have k_H4 : Kp H3 H4 := by rw [← h_H4]; exact .new n2
      have q_H4 := (congrFun h_H4 t2).symm.trans upd_same
      clear h_H4
      refine ⟨_, rfl, rfl, _, rfl, iteB (fun c5 => ?_) (fun c5 => ?_)⟩
      · have c5 : decide (V.str (wayN x.s.up) = V.str "up") = true := c5
        have e5 : wayN x.s.up = "up" := V.str.inj (of_decide_eq_true c5)
        have ew : wayN (!x.s.up) = "down" := by
          revert e5
          cases x.s.up
          · intro z; exact absurd z (by decide +kernel)
          · exact fun _ => rfl
        refine ⟨szl (by show 1 ≤ 100000; decide), fun t3 n3 => ?_⟩
        generalize h_H5 : upd H4 t3 _ = H5
        have k_H5 : Kp H4 H5 := by rw [← h_H5]; exact .new n3
        have q_H5 := (congrFun h_H5 t3).symm.trans upd_same
        clear h_H5
        refine ⟨szl (by show 4 ≤ 100000; decide), fun t4 n4 => ?_⟩
        generalize h_H6 : upd H5 t4 _ = H6
        have k_H6 : Kp H5 H6 := by rw [← h_H6]; exact .new n4
        have q_H6 := (congrFun h_H6 t4).symm.trans upd_same
        clear h_H6
        refine ⟨szl (by show 1 ≤ 100000; decide), fun cl ncl => ?_⟩
        generalize h_H7 : upd H6 cl _ = H7
        have k_H7 : Kp H6 H7 := by rw [← h_H7]; exact .new ncl
        have q_H7 := (congrFun h_H7 cl).symm.trans upd_same
        clear h_H7
        have k36 := (k_H4.trans k_H5).trans k_H6
        have k37 := k36.trans k_H7
        have k06 := (k02.trans k_H3).trans k36
        have kA := k06.trans k_H7
        have hch : ChsAt K H7 [.ref t4] (turnCh x.s) := by
          refine ⟨⟨⟨fun d hd => ?_, fun d hd => ?_⟩, .str "way", .int 0, .ref t2, .ref t3, ⟨t4, rfl, .inl (.inl (k_H7.same _ _ rfl q_H6))⟩, rfl, rfl, ⟨[.str (wayN x.s.up)], ⟨t2, rfl, .inl (.inl (((k_H5.trans k_H6).trans k_H7).same _ _ rfl q_H4))⟩, .cons (.str _) .nil⟩, [.str (wayN (!x.s.up))], ⟨t3, rfl, by rw [ew]; exact .inl (.inl ((k_H6.trans k_H7).same _ _ rfl q_H5))⟩, .cons (.str _) .nil⟩, trivial⟩
          · rw [List.mem_singleton.mp hd]; exact .str _
          · rw [List.mem_singleton.mp hd]; exact .str _
        have fcl : cl ∉ footL L x.a x.s.n := SqL.not_foot (hX.kp k06).at_ ncl
        have hfit : FitsC x.c (turnCh x.s) := ⟨⟨key_way _, by show 0 + 1 ≤ 1; decide, by show 1 + 1 ≤ 10000; decide⟩, trivial⟩
        have nld : Nl (.tuple [.str "turn"]) := .tup fun d hd => by rw [List.mem_singleton.mp hd]; exact .str _
        refine ⟨L, x.a, x.c, .ref t1, .tuple [.str "turn"], cl, [.ref t4], turnCh x.s, rfl, (hX.kp kA).at_, .tup (.inl (.inl (k37.same _ _ rfl q_H3))) (.cons (.str _) .nil), nld, .inl (.inl q_H7), fcl, hch, hpa, (by show 1 < 9000; decide), kA.tab _ hT, fun _ a' H' g => ?_, fun nf => absurd hfit nf⟩
        exact q hb a' H' (Went.pre kA (Went.of g (did_row (s' := x.s.turned) rfl (turned_row x.s)) (turned_ok hX.ok)))
      · have c5 : decide (V.str (wayN x.s.up) = V.str "up") = false := c5
        have e5 : ¬ wayN x.s.up = "up" := fun z => of_decide_eq_false c5 (congrArg V.str z)
        have ew : wayN (!x.s.up) = "up" := by
          revert e5
          cases x.s.up
          · exact fun _ => rfl
          · exact fun z => absurd rfl z
        refine ⟨szl (by show 1 ≤ 100000; decide), fun t3 n3 => ?_⟩
        generalize h_H5 : upd H4 t3 _ = H5
        have k_H5 : Kp H4 H5 := by rw [← h_H5]; exact .new n3
        have q_H5 := (congrFun h_H5 t3).symm.trans upd_same
        clear h_H5
        refine ⟨szl (by show 4 ≤ 100000; decide), fun t4 n4 => ?_⟩
        generalize h_H6 : upd H5 t4 _ = H6
        have k_H6 : Kp H5 H6 := by rw [← h_H6]; exact .new n4
        have q_H6 := (congrFun h_H6 t4).symm.trans upd_same
        clear h_H6
        refine ⟨szl (by show 1 ≤ 100000; decide), fun cl ncl => ?_⟩
        generalize h_H7 : upd H6 cl _ = H7
        have k_H7 : Kp H6 H7 := by rw [← h_H7]; exact .new ncl
        have q_H7 := (congrFun h_H7 cl).symm.trans upd_same
        clear h_H7
        have k36 := (k_H4.trans k_H5).trans k_H6
        have k37 := k36.trans k_H7
        have k06 := (k02.trans k_H3).trans k36
        have kA := k06.trans k_H7
        have hch : ChsAt K H7 [.ref t4] (turnCh x.s) := by
          refine ⟨⟨⟨fun d hd => ?_, fun d hd => ?_⟩, .str "way", .int 0, .ref t2, .ref t3, ⟨t4, rfl, .inl (.inl (k_H7.same _ _ rfl q_H6))⟩, rfl, rfl, ⟨[.str (wayN x.s.up)], ⟨t2, rfl, .inl (.inl (((k_H5.trans k_H6).trans k_H7).same _ _ rfl q_H4))⟩, .cons (.str _) .nil⟩, [.str (wayN (!x.s.up))], ⟨t3, rfl, by rw [ew]; exact .inl (.inl ((k_H6.trans k_H7).same _ _ rfl q_H5))⟩, .cons (.str _) .nil⟩, trivial⟩
          · rw [List.mem_singleton.mp hd]; exact .str _
          · rw [List.mem_singleton.mp hd]; exact .str _
        have fcl : cl ∉ footL L x.a x.s.n := SqL.not_foot (hX.kp k06).at_ ncl
        have hfit : FitsC x.c (turnCh x.s) := ⟨⟨key_way _, by show 0 + 1 ≤ 1; decide, by show 1 + 1 ≤ 10000; decide⟩, trivial⟩
        have nld : Nl (.tuple [.str "turn"]) := .tup fun d hd => by rw [List.mem_singleton.mp hd]; exact .str _
        refine ⟨L, x.a, x.c, .ref t1, .tuple [.str "turn"], cl, [.ref t4], turnCh x.s, rfl, (hX.kp kA).at_, .tup (.inl (.inl (k37.same _ _ rfl q_H3))) (.cons (.str _) .nil), nld, .inl (.inl q_H7), fcl, hch, hpa, (by show 1 < 9000; decide), kA.tab _ hT, fun _ a' H' g => ?_, fun nf => absurd hfit nf⟩
        exact q hb a' H' (Went.pre kA (Went.of g (did_row (s' := x.s.turned) rfl (turned_row x.s)) (turned_ok hX.ok)))
/-! ### Phrasebook.words: a sorted list of rows -/
def dTrip (b : Ent) : PyData := .tuple [.int b.1.2.1, .int b.1.2.2, .str b.1.1]
def wordsD (bs : List Ent) : List PyData := sortD (bs.map dTrip)
theorem kvP_at {bs : List Ent} {i : Nat} {k : List Key} {v : V} (h : (kvP bs)[i]? = some (k, v)) : ∃ e, bs[i]? = some e ∧ k = [Sum.inl e.1.2.1, Sum.inl e.1.2.2] ∧ v = V.str e.1.1 := by
  unfold kvP at h
  rw [List.getElem?_map] at h
  cases e : bs[i]? with
  | none =>
    rw [e] at h
    cases h
  | some b =>
    rw [e] at h
    have z := Option.some.inj h
    rw [Prod.mk.injEq] at z
    exact ⟨b, rfl, z.1.symm, z.2.symm⟩
theorem nl_trips {bs : List Ent} {b : Ent} : ∀ d ∈ bs.map dTrip ++ [b].map dTrip, Nl d := by
  intro d hd
  rw [← List.map_append] at hd
  obtain ⟨e, _, rfl⟩ := List.mem_map.mp hd
  exact .tup (by intro d hd; simp only [List.mem_cons, List.not_mem_nil, or_false] at hd; rcases hd with rfl | rfl | rfl <;> first | exact .str _ | exact .int _)
mutual
theorem Dp.putD {K : PySem.W.Frag} {H : Hp} {p : Addr} {o : HO} {od : Obj} {kvs : List (List Key × V)} (hp : H p = some (.frz od (.dT kvs))) : ∀ {d : PyData} {v : V}, Dp K H v d → Dp K (upd H p o) v d
  | _, _, .non => .non
  | _, _, .bl b => .bl b
  | _, _, .int i => .int i
  | _, _, .str x => .str x
  | _, _, .lst h a => by
    refine .lst ?_ (DpAll.putD hp a)
    rcases h with (h | ⟨ob, h⟩) | h
    · exact .inl (.inl (by rw [upd_ne (ne_of h hp (by intro z; cases z))]; exact h))
    · exact .inl (.inr ⟨ob, by rw [upd_ne (ne_of h hp (by intro z; cases z))]; exact h⟩)
    · exact .inr h
  | _, _, .tup h a => by
    refine .tup ?_ (DpAll.putD hp a)
    rcases h with (h | ⟨ob, h⟩) | h
    · exact .inl (.inl (by rw [upd_ne (ne_of h hp (by intro z; cases z))]; exact h))
    · exact .inl (.inr ⟨ob, by rw [upd_ne (ne_of h hp (by intro z; cases z))]; exact h⟩)
    · exact .inr h
theorem DpAll.putD {K : PySem.W.Frag} {H : Hp} {p : Addr} {o : HO} {od : Obj} {kvs : List (List Key × V)} (hp : H p = some (.frz od (.dT kvs))) : ∀ {ds : List PyData} {vs : List V}, DpAll K H vs ds → DpAll K (upd H p o) vs ds
  | _, _, .nil => .nil
  | _, _, .cons h t => .cons (Dp.putD hp h) (DpAll.putD hp t)
end
def sp_p_Phrasebook_words (K : PySem.W.Frag) (C : Addr) : Sp := fun vs H Q _ => ∃ (p d1 d2 : Addr) (bs : List Ent), vs = [.ref p] ∧ BookAt C H p d1 d2 bs ∧ bs.length ≤ 1000 ∧
  ∀ (r : Addr) (ys : List V) (H' : Hp), H r = none → Kp H H' → H' r = some (.lst ys) → DpAll K H' ys (wordsD bs) → Q (.ref r) H'
theorem ok_p_Phrasebook_words (T : Txt K mg) : FnOk P w K mg base CX0 2 T.f_p_Phrasebook_words T.d_p_Phrasebook_words ["self"] (sp_p_Phrasebook_words K T.a_Phrasebook) := by
  refine T.F_p_Phrasebook_words.ok sc_p_Phrasebook_words (fun vs H Q E h => ?_) (fun cdv A outer s H vs Q E hr h => ?_)
  · obtain ⟨p, d1, d2, bs, rfl, _⟩ := h
    rfl
  · obtain ⟨p, d1, d2, bs, rfl, hB, hbl, k⟩ := h
    have hu := hu_of hr
    refine ⟨_, (pss_one (ps_ret (pe_callB (cr_sortedD (hu65 hr)) (by rfl) T.m_sorted PyProof.Rows.boot_sorted (pa_cons (pe_lock (pe_lc (own := [("word", 1), ("page", 2), ("line", 3)]) (tt := tYes) (by rfl) sc_p_Phrasebook_words.nd (pi_pairs (pe_fld (pv 0) rfl)) (blkOk_by (own := [("word", 1), ("page", 2), ("line", 3)]) (N := ["self", "word", "page", "line"]) (sc := defScope s_p_Phrasebook_words) (by decide +kernel)) (fun _ _ _ _ _ => (pgK K rfl (pg_tup (n := 2) rfl (pgs_cons (pgK K rfl (pg_tup (n := 2) rfl (pgs_cons (pg_name (i := 2) sc_p_Phrasebook_words.nd rfl (by first | exact Or.inl rfl | exact Or.inr rfl)) (pgs_cons (pg_name (i := 3) sc_p_Phrasebook_words.nd rfl (by first | exact Or.inl rfl | exact Or.inr rfl)) pgs_nil)))) (pgs_cons (pg_name (i := 1) sc_p_Phrasebook_words.nd rfl (by first | exact Or.inl rfl | exact Or.inr rfl)) pgs_nil))))) (fun _ _ _ _ _ => pts_nil) (fun _ _ _ _ _ => (pe_tup (pa_cons (pv 2) (pa_cons (pv 3) (pa_cons (pv 1) pa_nil))))))) pa_nil)))), ?_⟩
    obtain ⟨dx, hp⟩ := hB.ob
    obtain ⟨np1, np2, n12⟩ := hB.ne
    refine ⟨d1, _, hB.pl, trivial, fun od => ?_⟩
    refine ⟨_, rfl, p, _, dx, _, _, rfl, (by rw [upd_ne np1]; exact hp), T.cl_Phrasebook, T.n_Phrasebook_word_by_place, flds_word _ _, d1, od, kvP bs, rfl, upd_same, fun D hD => ?_⟩
    refine lc_it (walk_pairs (d := d1) (o := od) (kvs := kvP bs)) (fun i H' => Kp (upd H d1 (.frz od (.dT (kvP bs)))) H' ∧ ∃ rs : List V, H' D = some (.lst rs) ∧ DpAll K H' rs ((bs.take i).map dTrip)) ⟨Kp.new hD, [], upd_same, .nil⟩ (fun i H' _ ⟨kk, _⟩ => kk.same _ _ rfl upd_same) (fun i x H7 H8 hi ⟨kk, rs, hrs, hd⟩ ⟨t, q, ky, v, hkv, hx, nt, hq, e8⟩ => ?_) (fun H7 ⟨kk, rs, hrs, hd⟩ => ?_)
    · subst e8
      subst hx
      obtain ⟨b, hb, rfl, rfl⟩ := kvP_at hkv
      generalize h_H9 : upd H7 t _ = H9
      have k_H9 : Kp H7 H9 := by rw [← h_H9]; exact .new nt
      have q_H9 := (congrFun h_H9 t).symm.trans upd_same
      clear h_H9
      have hq9 : H9 q = some (.tup [.int b.1.2.1, .int b.1.2.2]) := k_H9.same _ _ rfl hq
      have hil : i < bs.length := (List.getElem?_eq_some_iff.mp hb).1
      refine ⟨t, _, rfl, .inl (.inl q_H9), rfl, _, _, rfl, q, _, rfl, .inl (.inl hq9), rfl, _, _, rfl, _, _, rfl, rfl, _, _, rfl, rfl, rfl, ?_⟩
      refine ⟨_, rfl, _, rfl, _, rfl, szl (by show 3 ≤ 100000; decide), fun u nu => ?_⟩
      generalize h_Ha : upd H9 u _ = Ha
      have k_Ha : Kp H9 Ha := by rw [← h_Ha]; exact .new nu
      have q_Ha := (congrFun h_Ha u).symm.trans upd_same
      clear h_Ha
      have hra := k_Ha.same _ _ rfl (k_H9.same _ _ rfl hrs)
      have hl := DpAll.len hd
      rw [List.length_map, List.length_take] at hl
      refine ⟨rs, hra, szt (by omega), ((kk.trans k_H9).trans k_Ha).mut hD, _, upd_same, ?_⟩
      rw [take_snoc hb, List.map_append]
      refine DpAll.mut hra nl_trips (DpAll.snoc (k_Ha.dpAll (k_H9.dpAll hd)) (.tup (.inl (.inl q_Ha)) (.cons (.int _) (.cons (.int _) (.cons (.str _) .nil)))))
    · have ekl : (kvP bs).length = bs.length := by unfold kvP; rw [List.length_map]
      rw [ekl, List.take_length] at hd
      have hf := kk.same _ _ rfl (upd_same (H := H) (a := d1) (o := .frz od (.dT (kvP bs))))
      refine ⟨hf, ?_⟩
      have ku := Kp.unlock hB.pl rfl kk
      have nD : D ≠ d1 := fun z => by
        rw [z, upd_same] at hD
        cases hD
      have hDD : H D = none := by
        rw [upd_ne nD] at hD
        exact hD
      have h9 : upd H7 d1 (.dT (kvP bs)) D = some (.lst rs) := by
        rw [upd_ne nD]
        exact hrs
      have hd9 := DpAll.putD (o := .dT (kvP bs)) hf hd
      generalize upd H7 d1 (.dT (kvP bs)) = H9 at ku h9 hd9 ⊢
      refine ⟨D, rs, bs.map dTrip, rfl, .inl (.inl h9), hd9, PySem.W.AllAlike.of fun _ _ => rfl, PySem.W.Sortable.tuples fun _ => ⟨_, _, rfl⟩, ?_, fun ys r hy nr => k r ys _ (ku.free _ nr) (ku.trans (.new nr)) upd_same ((Kp.new nr).dpAll hy)⟩
      intro d hd
      obtain ⟨b, _, rfl⟩ := List.mem_map.mp hd
      show 1 ≤ 60
      decide
/-! ### ready; the texts of deeds; words -/
def readyP (s : PS) : List Int := srt ((rdysM (motP s)).map (plI s.up s.n))
theorem ok_p_Line_ready (T : Txt K mg) : FnOk P w K mg base CX0 7 T.f_p_Line_ready T.d_p_Line_ready ["self"] (sp_lookI (fun x => readyP x.s) P w K) := by
  refine T.F_p_Line_ready.ok sc_p_Line_ready (fun vs H Q E h => ?_) (fun cdv A outer s H vs Q E hr h => ?_)
  · obtain ⟨L, x, rfl, _⟩ := h
    rfl
  · obtain ⟨L, x, rfl, hL, k⟩ := h
    refine ⟨_, (pss_one (ps_ret (pe_meth (pe_fld (pv 0) rfl) T.cl_State T.M_p_State_masts_here (ok_p_State_masts_here T) (hr.mono (by decide)) T.b_p_State_masts_here .nil pass0 (pa_cons (pe_meth0 (pe_meth0 (pe_fld (pv 0) rfl) T.cl_State T.M_p_State_motion (ok_p_State_motion T) (hr.mono (by decide)) T.b_p_State_motion .nil pass0) T.cl_Motion T.M_p_Motion_ready_places (ok_p_Motion_ready_places T) (hr.mono (by decide)) T.b_p_Motion_ready_places .nil pass0 (ht := mcall_of rfl (fun _ => rfl))) pa_nil)))), ?_⟩
    obtain ⟨dx, hl⟩ := hL.at_.ob
    obtain ⟨dxs, hs⟩ := hL.at_.st.ob
    have om := motP_ok hL.ok
    have hn := hL.ok.hi
    refine ⟨_, rfl, L, _, dx, _, _, rfl, hl, T.cl_Line, T.n_Line_state, fldL_state _ _ _, x.a.s, dxs, _, rfl, hs, fldS_no _ _ (by decide +kernel) (by decide +kernel), _, rfl, L, _, dx, _, _, rfl, hl, T.cl_Line, T.n_Line_state, fldL_state _ _ _, x.a.s, dxs, _, rfl, hs, fldS_no _ _ (by decide +kernel) (by decide +kernel), x.a, x.s, x.ws, x.past, x.fut, rfl, hL.at_.st, hL.ok, fun ma H1 nm1 fr1 k1 hM1 => ?_⟩
    obtain ⟨dxm, ho⟩ := hM1.ob
    have esh : (motP x.s).sh.length = x.s.n := by exact om.sh
    refine ⟨ma.m, dxm, _, rfl, ho, fldM_no _ (by decide +kernel) (by decide +kernel) (by decide +kernel) (by decide +kernel) (by decide +kernel), ma, motP x.s, rfl, hM1, by omega, fun r1 H2 nr1 k2 hr1 => ?_⟩
    have k02 := k1.trans k2
    refine ⟨x.a, x.c, x.s.up, r1, rdysM (motP x.s), rfl, hL.at_.st.kp k02, arms_len hL.ok, rfl, SqL.of hr1, ?_, ?_, fun r H3 nr k3 hr3 => ?_⟩
    · have := fil_len (rdyM (motP x.s)) (motP x.s).sh.length
      show (fil _ _).length ≤ 1000
      omega
    · intro p hp
      obtain ⟨q, rfl, h1, _⟩ := rdys_iff.mp hp
      have e : x.c.n = x.s.n := rfl
      rw [e]
      omega
    · refine k r H3 (k02.free _ nr) (k02.trans k3) ?_
      rw [hr3]
      show _ = some (HO.lst ((srt _).map V.int))
      rw [show ((x.c.n : Int) - ((0 : Nat) : Int)) = (x.s.n : Int) from by show ((x.s.n : Nat) : Int) - 0 = _; omega]
def txd : PyData → Str
  | .int i => Str.ofString (toString i)
  | .str t => t
  | _ => Str.empty
def PartD (d : PyData) : Prop := (∃ n : Nat, n ≤ 999999 ∧ d = .int (n : Int)) ∨ ∃ t : Str, d = .str t ∧ t.length ≤ 1000
def deedTx : PyData → Str
  | .tuple ds => Txt.join " " (ds.map txd)
  | _ => Str.empty
def DeedD (d : PyData) : Prop := ∃ ds, d = .tuple ds ∧ ds.length ≤ 1000 ∧ ∀ e ∈ ds, PartD e
theorem numD_len {n : Nat} (h : n ≤ 999999) : (Str.ofString (toString ((n : Nat) : Int))).length ≤ 1000 := by
  have e : (Str.ofString (toString ((n : Nat) : Int))).length = (TL.numL n).length := by
    rw [← TL.tl_num]
    simp [Str.length]
  have := TL.numL_len (n := n) (k := 6) (by decide) (by omega)
  omega
theorem logD_ok {n : Nat} (h : n ≤ 999999) : ((n : Nat) : Int).natAbs.log2 < 1920 := by
  rw [Int.natAbs_natCast]
  by_cases z : n = 0
  · subst z
    decide
  · have := (Nat.log2_lt (k := 20) z).2 (by omega)
    omega
theorem PartD.len {d : PyData} (h : PartD d) : (txd d).length ≤ 1000 := by
  rcases h with ⟨n, h, rfl⟩ | ⟨t, rfl, h⟩
  · exact numD_len h
  · exact h
theorem sum_partsD : ∀ ys : List Str, (∀ y ∈ ys, y.length ≤ 1000) → (ys.map (·.length)).sum ≤ 1000 * ys.length
  | [], _ => by simp
  | y :: r, h => by
    have h1 := h y List.mem_cons_self
    have h2 := sum_partsD r fun z hz => h z (List.mem_cons_of_mem _ hz)
    simp only [List.map_cons, List.sum_cons, List.length_cons]
    omega
theorem joinD_fits {ds : List PyData} (h : ∀ d ∈ ds, PartD d) (hl : ds.length ≤ 1000) : ((ds.map txd).map (·.length)).sum + (ds.map txd).length * (Str.ofString " ").length ≤ 16777216 := by
  have h1 := sum_partsD (ds.map txd) fun y hy => by
    obtain ⟨x, hx, rfl⟩ := List.mem_map.mp hy
    exact (h x hx).len
  have e : (Str.ofString " ").length = 1 := by decide +kernel
  rw [e]
  rw [List.length_map] at *
  omega
theorem dpA_at {K : PySem.W.Frag} {H : Hp} : ∀ {vs : List V} {ds : List PyData} {i : Nat} {v : V}, DpAll K H vs ds → vs[i]? = some v → ∃ d, ds[i]? = some d ∧ Dp K H v d
  | _, _, _, _, .nil, e => by simp at e
  | _, _, 0, _, .cons h _, e => ⟨_, rfl, by cases Option.some.inj e; exact h⟩
  | _, _, i + 1, _, .cons _ t, e => dpA_at (i := i) t e
def sp_p_deed_textD (K : PySem.W.Frag) : Sp := fun vs H Q _ => ∃ (v : V) (d : PyData), vs = [v] ∧ Dp K H v d ∧ DeedD d ∧ ∀ H', Kp H H' → Q (.str (deedTx d)) H'
theorem ok_p_deed_text (T : Txt K mg) : FnOk P w K mg base CX0 2 T.f_p_deed_text T.d_p_deed_text ["deed"] (sp_p_deed_textD K) := by
  refine T.F_p_deed_text.ok sc_p_deed_text (fun vs H Q E h => ?_) (fun cdv A outer s H vs Q E hr h => ?_)
  · obtain ⟨v, d, rfl, _⟩ := h
    rfl
  · obtain ⟨v, d, rfl, hv, ⟨ds, rfl, hl, hp⟩, k⟩ := h
    refine ⟨_, (pss_one (ps_ret (pe_join pe_str (pe_lc (own := [("part", 1)]) (g := gName 1) (tt := tYes) (by rfl) sc_p_deed_text.nd (pi_tup (pv 0)) (blkOk_by (own := [("part", 1)]) (N := ["deed", "part"]) (sc := defScope s_p_deed_text) (by decide +kernel)) (fun _ _ _ _ _ => (pg_name (i := 1) sc_p_deed_text.nd rfl (by first | exact Or.inl rfl | exact Or.inr rfl))) (fun _ _ _ _ _ => pts_nil) (fun _ _ _ _ _ => (pe_callTy call_strA (by rfl) T.m_str (by decide +kernel) (pa_cons (pv 1) pa_nil))))))), ?_⟩
    cases hv with
    | @tup a xs _ hS hA =>
    have exl : xs.length = ds.length := DpAll.len hA
    refine ⟨⟨_, rfl⟩, _, rfl, a, rfl, ⟨_, hS⟩, fun D hD => ?_⟩
    refine lc_tup (K := K) (a := a) (xs := xs) (fun i H' => Kp H H' ∧ H' D = some (.lst (((ds.take i).map txd).map V.str))) ⟨Kp.new hD, upd_same⟩ (fun i H' _ ⟨kp, _⟩ => kp.sqT hS) (fun i x H' hi ⟨kp, hs⟩ => ?_) (fun H' ⟨kp, hs⟩ => ?_)
    · have hil := (List.getElem?_eq_some_iff.mp hi).1
      obtain ⟨d, hd, hdx⟩ := dpA_at hA hi
      have hx := hp d (List.mem_of_getElem? hd)
      have acc : ∀ y : V, y = .str (txd d) → Kp H (upd H' D (.lst (((ds.take i).map txd).map V.str ++ [y]))) ∧ upd H' D (.lst (((ds.take i).map txd).map V.str ++ [y])) D = some (.lst (((ds.take (i + 1)).map txd).map V.str)) := by
        rintro y rfl
        refine ⟨kp.mut hD, ?_⟩
        rw [upd_same, List.take_add_one, hd]
        simp
      refine ⟨rfl, _, rfl, ?_⟩
      have hz : (((ds.take i).map txd).map V.str).length < sizeLine := szt (by rw [List.length_map, List.length_map, List.length_take]; omega)
      rcases hx with ⟨n, hn, rfl⟩ | ⟨t, rfl, ht⟩
      · cases hdx
        exact .inl ⟨_, rfl, logD_ok hn, _, hs, hz, acc _ rfl⟩
      · cases hdx
        exact .inr ⟨_, rfl, _, hs, hz, acc _ rfl⟩
    · rw [exl, List.take_length] at hs
      exact ⟨_, D, ds.map txd, rfl, rfl, .inl (.inl (.inl hs)), joinD_fits hp hl, k _ kp⟩
def sp_p_Line_deeds (P : Program) (w : World) (K : PySem.W.Frag) : Sp := fun vs H Q _ => ∃ (L : Addr) (x : LS), vs = [.ref L] ∧ LineP P w K H L x ∧ x.past.length ≤ 9000 ∧ (∀ d ∈ x.past, DeedD d.1) ∧
  ∀ (r : Addr) (H' : Hp), H r = none → Kp H H' → H' r = some (.lst ((x.past.map fun d => deedTx d.1).map V.str)) → Q (.ref r) H'
theorem ok_p_Line_deeds (T : Txt K mg) : FnOk P w K mg base CX0 3 T.f_p_Line_deeds T.d_p_Line_deeds ["self"] (sp_p_Line_deeds P w K) := by
  refine T.F_p_Line_deeds.ok sc_p_Line_deeds (fun vs H Q E h => ?_) (fun cdv A outer s H vs Q E hr h => ?_)
  · obtain ⟨L, x, rfl, _⟩ := h
    rfl
  · obtain ⟨L, x, rfl, hL, hp, hD, k⟩ := h
    refine ⟨_, (pss_one (ps_ret (pe_lc (own := [("deed", 1), ("changes", 2)]) (tt := tYes) (by rfl) sc_p_Line_deeds.nd (pi_list (pe_fld (pv 0) rfl)) (blkOk_by (own := [("deed", 1), ("changes", 2)]) (N := ["self", "deed", "changes"]) (sc := defScope s_p_Line_deeds) (by decide +kernel)) (fun _ _ _ _ _ => (pgK K rfl (pg_tup (n := 2) rfl (pgs_cons (pg_name (i := 1) sc_p_Line_deeds.nd rfl (by first | exact Or.inl rfl | exact Or.inr rfl)) (pgs_cons (pg_name (i := 2) sc_p_Line_deeds.nd rfl (by first | exact Or.inl rfl | exact Or.inr rfl)) pgs_nil))))) (fun _ _ _ _ _ => pts_nil) (fun _ _ _ _ _ => (pe_call (ok_p_deed_text (P := P) (w := w) (base := base) T) (hr.mono (by decide)) rfl T.g_p_deed_text T.F_p_deed_text.kp T.b_p_deed_text .nil pass0 (pa_cons (pv 1) pa_nil)))))), ?_⟩
    obtain ⟨dx, hl⟩ := hL.at_.ob
    obtain ⟨pv, hpv, hdd⟩ := hL.at_.past
    have epv : pv.length = x.past.length := hdd.len
    refine ⟨_, rfl, L, _, dx, _, _, rfl, hl, T.cl_Line, T.n_Line_past, fldL_past _ _ _, x.a.p, rfl, ⟨_, .inl (.inl hpv)⟩, fun D nD => ?_⟩
    refine lc_list (K := K) (a := x.a.p) (xs := pv) (fun i H' => Kp H H' ∧ H' D = some (.lst (((x.past.take i).map fun d => deedTx d.1).map V.str))) ⟨Kp.new nD, upd_same⟩ (fun i H' _ ⟨kp, _⟩ => SqL.of (kp.same _ _ rfl hpv)) (fun i v H' hi ⟨kp, hs⟩ => ?_) (fun H' ⟨kp, hs⟩ => ?_)
    · have hil := (List.getElem?_eq_some_iff.mp hi).1
      have hd : x.past[i]? = some (x.past[i]'(by omega)) := List.getElem?_eq_getElem (by omega)
      obtain ⟨n1, n2, dv, cv, cs, ⟨t, rfl, ht⟩, hdv, _, _⟩ := DdsAt.at_ hdd hi hd
      have hdE := hD _ (List.mem_of_getElem? hd)
      refine ⟨t, _, rfl, kp.sqT ht, rfl, _, _, rfl, _, _, rfl, rfl, rfl, ?_⟩
      refine ⟨_, rfl, dv, _, rfl, kp.dp hdv, hdE, fun H2 k2 => ?_⟩
      refine ⟨_, k2.same _ _ rfl hs, szt (by rw [List.length_map, List.length_map, List.length_take]; omega), (kp.trans k2).mut nD, ?_⟩
      rw [upd_same, List.take_add_one, hd]
      simp only [Option.toList_some, List.map_append, List.map_cons, List.map_nil]
    · rw [epv, List.take_length] at hs
      exact k D H' nD kp hs
def wordsW (ws : List Tri) : List PyData := sortD (ws.map fun b => .tuple [.int b.2.1, .int b.2.2, .str b.1])
theorem wordsW_eq {bs : List Ent} {ws : List Tri} (h : bs.map (·.1) = ws) : wordsD bs = wordsW ws := by
  unfold wordsD wordsW
  rw [← h, List.map_map]
  rfl
def sp_p_Line_words (P : Program) (w : World) (K : PySem.W.Frag) : Sp := fun vs H Q _ => ∃ (L : Addr) (x : LS), vs = [.ref L] ∧ LineP P w K H L x ∧ x.ws.length ≤ 1000 ∧
  ∀ (r : Addr) (ys : List V) (H' : Hp), H r = none → Kp H H' → H' r = some (.lst ys) → DpAll K H' ys (wordsW x.ws) → Q (.ref r) H'
theorem ok_p_Line_words (T : Txt K mg) : FnOk P w K mg base CX0 3 T.f_p_Line_words T.d_p_Line_words ["self"] (sp_p_Line_words P w K) := by
  refine T.F_p_Line_words.ok sc_p_Line_words (fun vs H Q E h => ?_) (fun cdv A outer s H vs Q E hr h => ?_)
  · obtain ⟨L, x, rfl, _⟩ := h
    rfl
  · obtain ⟨L, x, rfl, hL, hw, k⟩ := h
    refine ⟨_, (pss_one (ps_ret (pe_meth0 (pe_fld (pe_fld (pv 0) rfl) rfl) T.cl_Phrasebook T.M_p_Phrasebook_words (ok_p_Phrasebook_words T) (hr.mono (by decide)) T.b_p_Phrasebook_words .nil pass0))), ?_⟩
    obtain ⟨dx, hl⟩ := hL.at_.ob
    obtain ⟨dxs, hs⟩ := hL.at_.st.ob
    obtain ⟨bs, hB, eb⟩ := hL.at_.st.book
    have eb : bs.map (·.1) = x.ws := eb
    obtain ⟨dxb, hb⟩ := hB.ob
    have lb : bs.length = x.ws.length := by rw [← eb, List.length_map]
    refine ⟨_, rfl, L, _, dx, _, _, rfl, hl, T.cl_Line, T.n_Line_state, fldL_state _ _ _, x.a.s, _, dxs, _, _, rfl, hs, T.cl_State, T.n_State_phrasebook, fldS_book _ _, x.a.B, dxb, _, rfl, hb, flds_no _ _ (by decide +kernel) (by decide +kernel), x.a.B, x.a.d1, x.a.d2, bs, rfl, hB, by omega, fun r ys H' nr k1 hr1 hd => ?_⟩
    rw [wordsW_eq eb] at hd
    exact k r ys H' nr k1 hr1 hd
/-! ### a row of a book -/
def sp_p_State_entry (P : Program) (w : World) (K : PySem.W.Frag) : Sp := fun vs H Q E => ∃ (a : LA) (c : LC) (u : Bool) (m : Nat) (k : Int) (rs : List (Int × Bool)), vs = [.ref a.s, .str (wayN u), .int (m : Int), .int k] ∧ StateAt P w K H a c ∧ m < c.n ∧ c.row (.b u m) = rs.map rowD ∧
  (0 ≤ k ∧ k < (rs.length : Int) → ∀ (r : Addr) (H' : Hp), Kp H H' → SqT K H' r [.int (rs.getD k.toNat (0, false)).1, .bl (rs.getD k.toNat (0, false)).2] → Q (.ref r) H') ∧
  (¬ (0 ≤ k ∧ k < (rs.length : Int)) → ∀ H', Kp H H' → E (.ref (He.ga K "NoRow")) none H')
theorem ok_p_State_entry (T : Txt K mg) : FnOk P w K mg base (L2.CX P w) 3 T.f_p_State_entry T.d_p_State_entry ["self", "way", "mast", "number"] (sp_p_State_entry P w K) := by
  refine T.F_p_State_entry.okX sc_p_State_entry (fun vs H Q E h => ?_) (fun cdv A outer s H vs Q E hr h => ?_)
  · obtain ⟨a, c, u, m, k, rs, rfl, _⟩ := h
    rfl
  · obtain ⟨a, c, u, m, k, rs, rfl, hS, hm, hrw, q, qE⟩ := h
    have hu := hu_of hr
    refine ⟨_, (pss_cons (ps_if (pt_not (pt_chain op_le op_lt pe_int (pv 3) (pe_meth (pv 0) T.cl_State T.M_p_State_count_of (ok_p_State_count_of T) (hr.mono (by decide)) T.b_p_State_count_of .nil pass0 (pa_cons (pv 1) (pa_cons (pv 2) pa_nil)))))
      (pss_one (ps_raise rfl (takes_of rfl rfl rfl rfl) (pmk_own PySem.F.excBase_ValueError T.x_NoRow T.g_NoRow T.k_NoRow (raises_own T.b_NoRow T.t_NoRow) rfl)))
      pss_nil)
      (pss_one (ps_ret (pe_ix ix_list (pe_mgetK P w rfl rfl hu (pe_fld (pv 0) rfl) (pe_call (ok_p_book_of T) (hr.mono (by decide)) rfl T.g_p_book_of T.F_p_book_of.kp T.b_p_book_of .nil pass0 (pa_cons (pv 1) (pa_cons (pv 2) pa_nil))) (fun _ _ => rfl)) (pv 3) (fun _ _ => rfl))))), ?_⟩
    obtain ⟨dx, hs⟩ := hS.ob
    refine ⟨_, rfl, _, _, rfl, rfl, _, rfl, ?_⟩
    by_cases c0 : 0 ≤ k
    case neg =>
      refine iteFo (decide_eq_false c0) ⟨_, rfl, iteTo rfl ?_⟩
      exact qE (fun z => c0 z.1) H (.refl _)
    refine iteTo (decide_eq_true c0) ?_
    refine ⟨_, rfl, a.s, dx, _, rfl, hs, fldS_no _ _ (by decide +kernel) (by decide +kernel), _, rfl, _, rfl, a, c, u, m, _, rfl, hS, hm, hrw, fun H1 k1 => ?_⟩
    rw [List.length_map]
    refine ⟨_, _, rfl, rfl, _, rfl, ?_⟩
    by_cases c1 : k < (rs.length : Int)
    case neg =>
      refine iteTo (by rw [decide_eq_false c1]; rfl) ?_
      exact qE (fun z => c1 z.2) H1 k1
    refine iteFo (by rw [decide_eq_true c1]; rfl) ?_
    have hS1 := hS.kp k1
    obtain ⟨dx1, hs1⟩ := hS1.ob
    refine ⟨_, rfl, a.s, _, dx1, _, _, rfl, hs1, T.cl_State, T.n_State_rows, fldS_rows _ _, _, rfl, _, rfl, wayN u, _, rfl, fun t H2 nt k2 ht => ?_⟩
    have hS2 := hS1.kp k2
    obtain ⟨kvs, m1, m2, ky, m3⟩ := hS2.get (key_b u hm)
    obtain ⟨vs, h1, h2⟩ := hS2.cont.at_ (.b u m) (key_b u hm)
    rw [hrw] at h2
    have lv := DpAll.len h2
    rw [List.length_map] at lv
    have hv : vs[k.toNat]? = some (vs[k.toNat]'(by omega)) := List.getElem?_eq_getElem (by omega)
    obtain ⟨r, hr1, tt, ev, hq⟩ := row_at h2 hv
    rw [ev] at hv
    have ek : (k.toNat : Int) = k := Int.toNat_of_nonneg c0
    have hat := atI_nat hv
    rw [ek] at hat
    refine ⟨a.R, kvs, (RK.b u m).mk, _, rfl, m1, m2, ⟨t, rfl, ht⟩, ⟨ky, m3⟩, _, rfl, a.ad (.b u m), _, _, _, rfl, rfl, SqL.of h1, hat, ?_⟩
    have eg : rs.getD k.toNat (0, false) = r := by rw [List.getD_eq_getElem?_getD, hr1]; rfl
    refine q ⟨c0, c1⟩ tt H2 (k1.trans k2) ?_
    rw [eg]
    exact hq
def rowV (r : Int × Bool) : V := if r.2 = true then .non else .int r.1
def sp_p_Line_row (P : Program) (w : World) (K : PySem.W.Frag) : Sp := fun vs H Q E => ∃ (L : Addr) (x : LS) (wy : Str) (m k : Int), vs = [.ref L, .str wy, .int m, .int k] ∧ LineP P w K H L x ∧
  (isWay wy = false → ∀ H', Kp H H' → E (.ref (He.ga K "BadWay")) none H') ∧
  (isWay wy = true → ¬ (0 ≤ m ∧ m < (x.s.n : Int)) → ∀ H', Kp H H' → E (.ref (He.ga K "NoMast")) none H') ∧
  (isWay wy = true → (0 ≤ m ∧ m < (x.s.n : Int)) → ¬ (0 ≤ k ∧ k < ((x.s.bk (wayU wy) m.toNat).length : Int)) → ∀ H', Kp H H' → E (.ref (He.ga K "NoRow")) none H') ∧
  (isWay wy = true → (0 ≤ m ∧ m < (x.s.n : Int)) → (0 ≤ k ∧ k < ((x.s.bk (wayU wy) m.toNat).length : Int)) → ∀ H', Kp H H' → Q (rowV ((x.s.bk (wayU wy) m.toNat).getD k.toNat (0, false))) H')
theorem ok_p_Line_row (T : Txt K mg) : FnOk P w K mg base (L2.CX P w) 4 T.f_p_Line_row T.d_p_Line_row ["self", "way", "mast", "number"] (sp_p_Line_row P w K) := by
  refine T.F_p_Line_row.okX sc_p_Line_row (fun vs H Q E h => ?_) (fun cdv A outer s H vs Q E hr h => ?_)
  · obtain ⟨L, x, wy, m, k, rfl, _⟩ := h
    rfl
  · obtain ⟨L, x, wy, m, k, rfl, hL, q1, q2, q3, q4⟩ := h
    refine ⟨_, (pss_cons (ps_expr (pe_call (ok_p_check_way T) (hr.mono (by decide)) rfl T.g_p_check_way T.F_p_check_way.kp T.b_p_check_way .nil (passes_call (takes_of rfl rfl rfl rfl) (fun _ _ _ _ z => z)) (pa_cons (pv 1) pa_nil)))
      (pss_cons (ps_expr (pe_meth (pe_fld (pv 0) rfl) T.cl_State T.M_p_State_check_mast (ok_p_State_check_mast T) (hr.mono (by decide)) T.b_p_State_check_mast .nil (passes_call (takes_of rfl rfl rfl rfl) (fun _ _ _ _ z => z)) (pa_cons (pv 2) pa_nil)))
      (pss_cons (ps_asg (pe_meth (pe_fld (pv 0) rfl) T.cl_State T.M_p_State_entry (ok_p_State_entry T) (hr.mono (by decide)) T.b_p_State_entry .nil (passes_call (takes_of rfl rfl rfl rfl) (fun _ _ _ _ z => z)) (pa_cons (pv 1) (pa_cons (pv 2) (pa_cons (pv 3) pa_nil)))) (pg_tup (n := 2) rfl (pgs_cons (pg_name (i := 4) sc_p_Line_row.nd rfl (by first | exact Or.inl rfl | exact Or.inr rfl)) (pgs_cons (pg_name (i := 5) sc_p_Line_row.nd rfl (by first | exact Or.inl rfl | exact Or.inr rfl)) pgs_nil))))
      (pss_one (ps_ret (pe_ifExp (pt_val (pv 5)) pe_non (pv 4))))))), ?_⟩
    refine ⟨_, rfl, wy, rfl, fun hw H1 k1 => ?_, fun hw H1 k1 => q1 hw H1 k1⟩
    have hL1 := hL.kp k1
    obtain ⟨dx, hl⟩ := hL1.at_.ob
    obtain ⟨dxs, hs⟩ := hL1.at_.st.ob
    refine ⟨_, rfl, L, _, dx, _, _, rfl, hl, T.cl_Line, T.n_Line_state, fldL_state _ _ _, x.a.s, dxs, _, rfl, hs, fldS_no _ _ (by decide +kernel) (by decide +kernel), _, rfl, x.a, x.c, m, rfl, hL1.at_.st, arms_len hL.ok, fun c => ?_, fun c => q2 hw (fun z => c z) H1 k1⟩
    have c : 0 ≤ m ∧ m < (x.s.n : Int) := c
    have em : (m.toNat : Int) = m := Int.toNat_of_nonneg c.1
    refine ⟨_, rfl, L, _, dx, _, _, rfl, hl, T.cl_Line, T.n_Line_state, fldL_state _ _ _, x.a.s, dxs, _, rfl, hs, fldS_no _ _ (by decide +kernel) (by decide +kernel), _, rfl, _, rfl, _, rfl, x.a, x.c, wayU wy, m.toNat, k, x.s.bk (wayU wy) m.toNat, by rw [wayU_N hw, em]; rfl, hL1.at_.st, by show m.toNat < x.s.n; omega, rfl, fun c2 r H2 k2 hr2 => ?_, fun c2 H2 k2 => q3 hw c c2 H2 (k1.trans k2)⟩
    have q := q4 hw c c2 H2 (k1.trans k2)
    refine ⟨r, _, rfl, hr2, rfl, _, _, rfl, _, _, rfl, rfl, ?_⟩
    unfold rowV at q
    rcases Bool.eq_false_or_eq_true ((x.s.bk (wayU wy) m.toNat).getD k.toNat (0, false)).2 with er | er
    · rw [if_pos er] at q
      rw [er]
      exact ⟨_, rfl, _, rfl, iteTo rfl q⟩
    · rw [if_neg (by rw [er]; decide)] at q
      rw [er]
      exact ⟨_, rfl, _, rfl, iteFo rfl ⟨_, rfl, q⟩⟩
/-! ### arms and signs are not below nought -/
structure PS.Pos (s : PS) : Prop where
  arms : ∀ z ∈ s.arms, 0 ≤ z
/-! ### a beat of a motion -/
theorem not_rdy : ∀ s ∈ (["asleep", "fog behind", "nothing comes", "still shown behind", "fog ahead", "not clear ahead", "not copied ahead"] : List Str), decide (V.str s = V.str "ready") = false := by decide +kernel
theorem rdyB_iff {sh : List Int} {wt : Bool} {asl fg : List Int} {p : Nat} : rdyB sh wt asl fg p = true ↔
    ¬ inL p asl = true ∧ ¬ (0 < p ∧ inL ((p : Int) - 1) fg = true) ∧ ¬ ((rs sh p = true ∧ p = 0 ∧ wt = false) ∨ (rs sh p = true ∧ 0 < p ∧ rs sh (p - 1) = true)) ∧ ¬ (rs sh p = false ∧ 0 < p ∧ rs sh (p - 1) = false) ∧
    ¬ (p + 1 < sh.length ∧ inL p fg = true) ∧ ¬ (p + 1 < sh.length ∧ rs sh p = true ∧ rs sh (p + 1) = false) ∧ ¬ (p + 1 < sh.length ∧ rs sh p = false ∧ rs sh (p + 1) = true) := by
  unfold rdyB whyV
  by_cases c0 : inL p asl = true
  · rw [if_pos c0, not_rdy _ (by simp)]
    exact ⟨fun h => (by cases h), fun h => absurd c0 h.1⟩
  rw [if_neg c0]
  by_cases c1 : 0 < p ∧ inL ((p : Int) - 1) fg = true
  · rw [if_pos c1, not_rdy _ (by simp)]
    exact ⟨fun h => (by cases h), fun h => absurd c1 h.2.1⟩
  rw [if_neg c1]
  by_cases c2 : (rs sh p = true ∧ p = 0 ∧ wt = false) ∨ (rs sh p = true ∧ 0 < p ∧ rs sh (p - 1) = true)
  · rw [if_pos c2, not_rdy _ (by simp)]
    exact ⟨fun h => (by cases h), fun h => absurd c2 h.2.2.1⟩
  rw [if_neg c2]
  by_cases c3 : rs sh p = false ∧ 0 < p ∧ rs sh (p - 1) = false
  · rw [if_pos c3, not_rdy _ (by simp)]
    exact ⟨fun h => (by cases h), fun h => absurd c3 h.2.2.2.1⟩
  rw [if_neg c3]
  by_cases c4 : p + 1 < sh.length ∧ inL p fg = true
  · rw [if_pos c4, not_rdy _ (by simp)]
    exact ⟨fun h => (by cases h), fun h => absurd c4 h.2.2.2.2.1⟩
  rw [if_neg c4]
  by_cases c5 : p + 1 < sh.length ∧ rs sh p = true ∧ rs sh (p + 1) = false
  · rw [if_pos c5, not_rdy _ (by simp)]
    exact ⟨fun h => (by cases h), fun h => absurd c5 h.2.2.2.2.2.1⟩
  rw [if_neg c5]
  by_cases c6 : p + 1 < sh.length ∧ rs sh p = false ∧ rs sh (p + 1) = true
  · rw [if_pos c6, not_rdy _ (by simp)]
    exact ⟨fun h => (by cases h), fun h => absurd c6 h.2.2.2.2.2.2⟩
  rw [if_neg c6]
  exact ⟨fun _ => ⟨c0, c1, c2, c3, c4, c5, c6⟩, fun _ => decide_eq_true rfl⟩
abbrev Mo.a (m : Mo) (p : Nat) : Int := m.sh.getD p 0
/-- how it stands around a place whose keeper can act -/
structure Loc (m : Mo) (p : Nat) : Prop where
  up0 : m.a p = 0 → p = 0 → m.q ≠ []
  upB : m.a p = 0 → 0 < p → m.a (p - 1) ≠ 0
  upA : m.a p = 0 → p + 1 < m.sh.length → m.a (p + 1) = 0
  dnB : m.a p ≠ 0 → 0 < p → m.a (p - 1) = 0
  dnA : m.a p ≠ 0 → p + 1 < m.sh.length → m.a (p + 1) ≠ 0
theorem rdy_loc {m : Mo} {p : Nat} (h : rdyM m p = true) : Loc m p := by
  obtain ⟨_, _, c2, c3, _, c5, c6⟩ := rdyB_iff.mp h
  refine ⟨fun z e q => ?_, fun z e y => ?_, fun z l => ?_, fun z e => ?_, fun z l y => ?_⟩
  · exact c2 (.inl ⟨rs_iff.mpr z, e, by rw [q]; rfl⟩)
  · exact c2 (.inr ⟨rs_iff.mpr z, e, rs_iff.mpr y⟩)
  · apply Classical.byContradiction
    intro y
    exact c5 ⟨l, rs_iff.mpr z, rs_no.mpr y⟩
  · apply Classical.byContradiction
    intro y
    exact c3 ⟨rs_no.mpr z, e, rs_no.mpr y⟩
  · exact c6 ⟨l, rs_no.mpr z, rs_iff.mpr y⟩
theorem rdy_far {m : Mo} {p : Nat} (h1 : rdyM m p = true) (h2 : rdyM m (p + 1) = true) (l : p + 1 < m.sh.length) : False := by
  have a := rdy_loc h1
  have b := rdy_loc h2
  by_cases z : m.a p = 0
  · exact b.upB (a.upA z l) (Nat.succ_pos p) z
  · exact z (b.dnB (a.dnA z l) (Nat.succ_pos p))
/-- those of some places have acted -/
def Mo.mvd (m : Mo) (P : Nat → Bool) : Mo := ⟨(List.range m.sh.length).map (fun j => if P j = true then (if m.a j = 0 then cmM m j else 0) else m.a j), if P 0 = true ∧ m.a 0 = 0 then m.q.tail else m.q, m.sl, m.fg,
  (List.range m.wr.length).map (fun j => if P j = true ∧ m.a j = 0 then m.wr.getD j [] ++ [cmM m j] else m.wr.getD j [])⟩
theorem getD_map_range {α : Type} (f : Nat → α) (n j : Nat) (d : α) (h : j < n) : ((List.range n).map f).getD j d = f j := by
  rw [List.getD_eq_getElem?_getD, List.getElem?_map, List.getElem?_range h]
  rfl
theorem list_range {α : Type} (xs : List α) (d : α) : (List.range xs.length).map (fun j => xs.getD j d) = xs := by
  refine List.ext_getElem? fun j => ?_
  rw [List.getElem?_map]
  by_cases h : j < xs.length
  · rw [List.getElem?_range h, List.getElem?_eq_getElem h]
    show some (xs.getD j d) = _
    rw [List.getD_eq_getElem?_getD, List.getElem?_eq_getElem h]
    rfl
  · rw [List.getElem?_eq_none (by rw [List.length_range]; omega), List.getElem?_eq_none (by omega)]
    rfl
theorem mvd_none (m : Mo) (P : Nat → Bool) (h : ∀ j, P j = false) : m.mvd P = m := by
  unfold Mo.mvd
  simp only [h]
  have e1 : (List.range m.sh.length).map (fun j => if false = true then (if m.a j = 0 then cmM m j else 0) else m.a j) = m.sh := list_range m.sh 0
  have e2 : (List.range m.wr.length).map (fun j => if false = true ∧ m.a j = 0 then m.wr.getD j [] ++ [cmM m j] else m.wr.getD j []) = m.wr := by
    have : (fun j => if false = true ∧ m.a j = 0 then m.wr.getD j [] ++ [cmM m j] else m.wr.getD j []) = fun j => m.wr.getD j [] := by
      funext j
      rw [if_neg (by rintro ⟨z, _⟩; cases z)]
    rw [this]
    exact list_range m.wr []
  rw [e1, e2, if_neg (by rintro ⟨z, _⟩; cases z)]
theorem mvd_len (m : Mo) (P : Nat → Bool) : (m.mvd P).sh.length = m.sh.length := by unfold Mo.mvd; simp
theorem mvd_wlen (m : Mo) (P : Nat → Bool) : (m.mvd P).wr.length = m.wr.length := by unfold Mo.mvd; simp
theorem mvd_a {m : Mo} {P : Nat → Bool} {j : Nat} (h : j < m.sh.length) : (m.mvd P).a j = if P j = true then (if m.a j = 0 then cmM m j else 0) else m.a j := getD_map_range _ _ _ _ h
theorem mvd_off {m : Mo} {P : Nat → Bool} {j : Nat} (hp : P j = false) : (m.mvd P).a j = m.a j := by
  by_cases h : j < m.sh.length
  · rw [mvd_a h, if_neg (by rw [hp]; decide)]
  · have e1 : (m.mvd P).a j = 0 := by
      show (m.mvd P).sh.getD j 0 = 0
      rw [List.getD_eq_getElem?_getD, List.getElem?_eq_none (by rw [mvd_len]; omega)]
      rfl
    have e2 : m.a j = 0 := by
      show m.sh.getD j 0 = 0
      rw [List.getD_eq_getElem?_getD, List.getElem?_eq_none (by omega)]
      rfl
    rw [e1, e2]
theorem mvd_cm {m : Mo} {P : Nat → Bool} {p : Nat} (hp : P p = false) (hb : 0 < p → P (p - 1) = false) : cmM (m.mvd P) p = cmM m p := by
  unfold cmM
  by_cases z : p = 0
  · subst z
    rw [if_pos rfl, if_pos rfl]
    show (if P 0 = true ∧ m.a 0 = 0 then m.q.tail else m.q).headD 0 = _
    rw [if_neg (by rw [hp]; rintro ⟨y, _⟩; cases y)]
  · rw [if_neg z, if_neg z]
    exact mvd_off (hb (by omega))
/-- one more acts, where its neighbours have not -/
theorem move_mvd {m : Mo} {P : Nat → Bool} {p : Nat} (hp : P p = false) (hb : 0 < p → P (p - 1) = false) (hl : p < m.sh.length) (hw : m.wr.length = m.sh.length) : (m.mvd P).move p = m.mvd (fun j => P j || decide (j = p)) := by
  have ea : (m.mvd P).sh.getD p 0 = m.a p := mvd_off hp
  have ecm := mvd_cm (m := m) hp hb
  unfold Mo.move
  rw [ea]
  have eset : ∀ v : Int, (if m.a p = 0 then cmM m p else 0) = v → (m.mvd P).sh.set p v = (m.mvd (fun j => P j || decide (j = p))).sh := fun v hv => by
    refine List.ext_getElem? fun j => ?_
    rw [List.getElem?_set, mvd_len]
    unfold Mo.mvd
    by_cases h : j < m.sh.length
    · rw [List.getElem?_map, List.getElem?_map, List.getElem?_range h]
      by_cases z : p = j
      · rw [if_pos z, if_pos (by omega)]
        subst z
        simp only [Option.map_some, hp, Bool.false_or, decide_true, if_true]
        rw [hv]
      · rw [if_neg z]
        have : (P j || decide (j = p)) = P j := by rw [decide_eq_false (fun y => z y.symm), Bool.or_false]
        simp only [Option.map_some, this]
    · rw [List.getElem?_eq_none (by simp; omega), List.getElem?_eq_none (by simp; omega)]
      rw [if_neg (show ¬ p = j by omega)]
  have eq : m.a p = 0 → (if p = 0 then (m.mvd P).q.tail else (m.mvd P).q) = (m.mvd (fun j => P j || decide (j = p))).q := fun c => by
    show (if p = 0 then (if P 0 = true ∧ m.a 0 = 0 then m.q.tail else m.q).tail else (if P 0 = true ∧ m.a 0 = 0 then m.q.tail else m.q)) = (if (P 0 || decide (0 = p)) = true ∧ m.a 0 = 0 then m.q.tail else m.q)
    by_cases z : p = 0
    · subst z
      rw [if_pos rfl, if_neg (by rw [hp]; rintro ⟨y, _⟩; cases y), if_pos ⟨by simp, c⟩]
    · rw [if_neg z, decide_eq_false (fun y => z y.symm), Bool.or_false]
  by_cases c : m.a p = 0
  · rw [if_pos c]
    unfold Mo.rise
    rw [ecm, eq c, eset (cmM m p) (if_pos c)]
    have ewr : (m.mvd P).wr.set p ((m.mvd P).wr.getD p [] ++ [cmM m p]) = (m.mvd (fun j => P j || decide (j = p))).wr := by
      refine List.ext_getElem? fun j => ?_
      rw [List.getElem?_set, mvd_wlen]
      unfold Mo.mvd
      by_cases h : j < m.wr.length
      · rw [getD_map_range _ _ _ _ (show p < m.wr.length by omega), List.getElem?_map, List.getElem?_map, List.getElem?_range h]
        by_cases z : p = j
        · rw [if_pos z, if_pos (by omega)]
          subst z
          rw [if_neg (by rw [hp]; rintro ⟨y, _⟩; cases y)]
          simp only [Option.map_some, hp, Bool.false_or, decide_true, true_and, if_pos c]
        · rw [if_neg z]
          have : (P j || decide (j = p)) = P j := by rw [decide_eq_false (fun y => z y.symm), Bool.or_false]
          simp only [Option.map_some, this]
      · rw [List.getElem?_eq_none (by simp; omega), List.getElem?_eq_none (by simp; omega)]
        rw [if_neg (show ¬ p = j by omega)]
    rw [ewr]
    rfl
  · rw [if_neg c, eset 0 (if_neg c)]
    have e1 : (m.mvd P).q = (m.mvd (fun j => P j || decide (j = p))).q := by
      show (if P 0 = true ∧ m.a 0 = 0 then m.q.tail else m.q) = (if (P 0 || decide (0 = p)) = true ∧ m.a 0 = 0 then m.q.tail else m.q)
      by_cases z : p = 0
      · subst z
        rw [if_neg (fun y => c y.2), if_neg (fun y => c y.2)]
      · rw [decide_eq_false (fun y => z y.symm), Bool.or_false]
    have e2 : (m.mvd P).wr = (m.mvd (fun j => P j || decide (j = p))).wr := by
      unfold Mo.mvd
      refine List.map_congr_left fun j _ => ?_
      by_cases z : j = p
      · subst z
        rw [if_neg (fun y => c y.2), if_neg (fun y => c y.2)]
      · have : (P j || decide (j = p)) = P j := by rw [decide_eq_false z, Bool.or_false]
        simp only [this]
    rw [e1, e2]
    rfl
/-! ### how far a motion has to go -/
def hM (m : Mo) (j : Nat) : Bool := decide (m.a j ≠ 0)
def Wf (q : Nat) (h : Nat → Bool) : Nat → Nat
  | 0 => q
  | p + 1 => Wf q h p + (if (h p && !h (p + 1)) = true then 1 else 0)
theorem Wf_le (q : Nat) (h : Nat → Bool) : ∀ p, Wf q h p ≤ q + p
  | 0 => Nat.le_refl _
  | p + 1 => by
    have := Wf_le q h p
    show Wf q h p + (if (h p && !h (p + 1)) = true then 1 else 0) ≤ _
    split <;> omega
def SW (f : Nat → Nat) : Nat → Nat
  | 0 => 0
  | k + 1 => SW f k + f k
def SH (h : Nat → Bool) : Nat → Nat
  | 0 => 0
  | k + 1 => SH h k + (if h k = true then 1 else 0)
theorem Wf_raise {q q' i n : Nat} {h h' : Nat → Bool} (e : ∀ j, j ≠ i → h' j = h j) (hi : h i = false) (hi' : h' i = true) (hq : i = 0 → q' + 1 = q) (hq2 : 0 < i → q' = q) (hb : 0 < i → h (i - 1) = true) (ha : i + 1 < n → h (i + 1) = false) :
    ∀ p, p < n → Wf q' h' p + (if p = i then 1 else 0) = Wf q h p
  | 0, _ => by
    by_cases z : 0 = i
    · rw [if_pos z]
      exact hq z.symm
    · rw [if_neg z]
      exact hq2 (by omega)
  | p + 1, hp => by
    have ih := Wf_raise e hi hi' hq hq2 hb ha p (by omega)
    show Wf q' h' p + (if (h' p && !h' (p + 1)) = true then 1 else 0) + (if p + 1 = i then 1 else 0) = Wf q h p + (if (h p && !h (p + 1)) = true then 1 else 0)
    by_cases z1 : p + 1 = i
    · have hbp : h p = true := by have := hb (by omega); rw [show i - 1 = p by omega] at this; exact this
      have hp1 : h (p + 1) = false := by rw [z1]; exact hi
      have hp1' : h' (p + 1) = true := by rw [z1]; exact hi'
      rw [if_neg (show ¬ p = i by omega)] at ih
      rw [hp1', hbp, hp1, if_pos z1]
      simp
      omega
    · by_cases z2 : p = i
      · have a1 : h (p + 1) = false := by rw [z2]; exact ha (by omega)
        have a2 : h' (p + 1) = false := by rw [e _ z1]; exact a1
        rw [if_pos z2] at ih
        rw [if_neg z1, a1, a2, show h p = false by rw [z2]; exact hi, show h' p = true by rw [z2]; exact hi']
        simp
        omega
      · rw [if_neg z2] at ih
        rw [if_neg z1, e _ z1, e _ z2]
        omega
theorem Wf_lower {q i n : Nat} {h h' : Nat → Bool} (e : ∀ j, j ≠ i → h' j = h j) (hi : h i = true) (hi' : h' i = false) (hb : 0 < i → h (i - 1) = false) (ha : i + 1 < n → h (i + 1) = true) :
    ∀ p, p < n → Wf q h' p = Wf q h p
  | 0, _ => rfl
  | p + 1, hp => by
    have ih := Wf_lower (q := q) e hi hi' hb ha p (by omega)
    show Wf q h' p + (if (h' p && !h' (p + 1)) = true then 1 else 0) = Wf q h p + (if (h p && !h (p + 1)) = true then 1 else 0)
    rw [ih]
    by_cases z1 : p + 1 = i
    · have hbp : h p = false := by have := hb (by omega); rw [show i - 1 = p by omega] at this; exact this
      rw [e p (by omega), hbp]
      rfl
    · by_cases z2 : p = i
      · have a1 : h (p + 1) = true := by rw [z2]; exact ha (by omega)
        rw [show h' p = false by rw [z2]; exact hi', a1]
        simp
      · rw [e _ z1, e _ z2]
theorem SW_raise {f f' : Nat → Nat} {i n : Nat} (h : ∀ p, p < n → f' p + (if p = i then 1 else 0) = f p) : ∀ k, k ≤ n → SW f' k + (if i < k then 1 else 0) = SW f k
  | 0, _ => rfl
  | k + 1, hk => by
    have ih := SW_raise h k (by omega)
    have hk := h k (by omega)
    show SW f' k + f' k + (if i < k + 1 then 1 else 0) = SW f k + f k
    by_cases z : k = i
    · rw [if_pos z] at hk
      rw [if_neg (by omega)] at ih
      rw [if_pos (by omega)]
      omega
    · rw [if_neg z] at hk
      by_cases y : i < k
      · rw [if_pos y] at ih
        rw [if_pos (by omega)]
        omega
      · rw [if_neg y] at ih
        rw [if_neg (by omega)]
        omega
theorem SW_same {f f' : Nat → Nat} {n : Nat} (h : ∀ p, p < n → f' p = f p) : ∀ k, k ≤ n → SW f' k = SW f k
  | 0, _ => rfl
  | k + 1, hk => by
    show SW f' k + f' k = SW f k + f k
    rw [SW_same h k (by omega), h k (by omega)]
theorem SH_on {h h' : Nat → Bool} {i : Nat} (e : ∀ j, j ≠ i → h' j = h j) (hi : h i = false) (hi' : h' i = true) : ∀ k, SH h' k = SH h k + (if i < k then 1 else 0)
  | 0 => rfl
  | k + 1 => by
    have ih := SH_on e hi hi' k
    show SH h' k + (if h' k = true then 1 else 0) = SH h k + (if h k = true then 1 else 0) + _
    by_cases z : k = i
    · rw [if_neg (show ¬ i < k by omega)] at ih
      rw [z, hi, hi', if_pos (show i < i + 1 by omega), ← z, ih]
      simp
    · have e1 : (if i < k + 1 then (1 : Nat) else 0) = (if i < k then 1 else 0) := by
        by_cases y : i < k
        · rw [if_pos y, if_pos (by omega)]
        · rw [if_neg y, if_neg (by omega)]
      rw [e _ z, ih, e1]
      omega
def Wm (m : Mo) (j : Nat) : Nat := Wf m.q.length (hM m) j
def muM (m : Mo) : Nat := 2 * SW (Wm m) m.sh.length + SH (hM m) m.sh.length
def QM (m : Mo) : Prop := ∀ z ∈ m.q, z ≠ (0 : Int)
theorem a_set {m : Mo} {p j : Nat} {v : Int} (hl : p < m.sh.length) : (m.sh.set p v).getD j 0 = if j = p then v else m.a j := by
  rw [List.getD_eq_getElem?_getD, List.getElem?_set]
  by_cases z : p = j
  · subst z
    rw [if_pos rfl, if_pos hl, if_pos rfl]
    rfl
  · rw [if_neg z, if_neg (fun y => z y.symm)]
    rfl
theorem mu_move {m : Mo} {p : Nat} (hl : p < m.sh.length) (hw : m.wr.length = m.sh.length) (L : Loc m p) (hq : QM m) : muM (m.move p) + 1 = muM m ∧ ∀ j, j < m.sh.length → ((m.move p).wr.getD j []).length + Wm (m.move p) j = (m.wr.getD j []).length + Wm m j := by
  unfold Mo.move
  by_cases c : m.a p = 0
  · rw [if_pos c]
    have cm0 : cmM m p ≠ 0 := by
      unfold cmM
      by_cases z : p = 0
      · rw [if_pos z]
        have := L.up0 c z
        cases e : m.q with
        | nil => exact absurd e this
        | cons x r => exact hq x (by rw [e]; exact List.mem_cons_self)
      · rw [if_neg z]
        exact L.upB c (by omega)
    have h0 : hM m p = false := decide_eq_false (fun y => y c)
    have ha' : ∀ j, (m.rise p (cmM m p) (cmM m p)).a j = if j = p then cmM m p else m.a j := fun j => a_set hl
    have h1 : hM (m.rise p (cmM m p) (cmM m p)) p = true := by unfold hM; rw [ha', if_pos rfl]; exact decide_eq_true cm0
    have he : ∀ j, j ≠ p → hM (m.rise p (cmM m p) (cmM m p)) j = hM m j := fun j hj => by unfold hM; rw [ha', if_neg hj]
    have ll : (m.rise p (cmM m p) (cmM m p)).sh.length = m.sh.length := List.length_set ..
    have eW : ∀ j, j < m.sh.length → Wm (m.rise p (cmM m p) (cmM m p)) j + (if j = p then 1 else 0) = Wm m j := by
      refine Wf_raise he h0 h1 (fun z => ?_) (fun z => ?_) (fun z => decide_eq_true (L.upB c z)) (fun z => decide_eq_false (fun y => y (L.upA c z)))
      · show (if p = 0 then m.q.tail else m.q).length + 1 = m.q.length
        rw [if_pos z]
        have := List.length_pos_iff.mpr (L.up0 c z)
        rw [List.length_tail]
        omega
      · show (if p = 0 then m.q.tail else m.q).length = m.q.length
        rw [if_neg (by omega)]
    refine ⟨?_, fun j hj => ?_⟩
    · have s1 := SW_raise eW m.sh.length (Nat.le_refl _)
      have s2 := SH_on he h0 h1 m.sh.length
      rw [if_pos hl] at s1 s2
      unfold muM
      rw [ll]
      omega
    · have e := eW j hj
      have ew : ((m.rise p (cmM m p) (cmM m p)).wr.getD j []).length = (m.wr.getD j []).length + (if j = p then 1 else 0) := by
        show ((m.wr.set p (m.wr.getD p [] ++ [cmM m p])).getD j []).length = _
        rw [List.getD_eq_getElem?_getD, List.getElem?_set]
        by_cases z : p = j
        · subst z
          rw [if_pos rfl, if_pos (by omega), if_pos rfl]
          show (m.wr.getD p [] ++ [cmM m p]).length = _
          rw [List.length_append]
          rfl
        · rw [if_neg z, if_neg (fun y => z y.symm), List.getD_eq_getElem?_getD]
          rfl
      rw [ew]
      omega
  · rw [if_neg c]
    have h0 : hM m p = true := decide_eq_true c
    have ha' : ∀ j, ({ m with sh := m.sh.set p 0 } : Mo).a j = if j = p then 0 else m.a j := fun j => a_set hl
    have h1 : hM ({ m with sh := m.sh.set p 0 } : Mo) p = false := by unfold hM; rw [ha', if_pos rfl]; rfl
    have he : ∀ j, j ≠ p → hM ({ m with sh := m.sh.set p 0 } : Mo) j = hM m j := fun j hj => by unfold hM; rw [ha', if_neg hj]
    have ll : (m.sh.set p 0).length = m.sh.length := List.length_set ..
    have eW : ∀ j, j < m.sh.length → Wm ({ m with sh := m.sh.set p 0 } : Mo) j = Wm m j :=
      Wf_lower he h0 h1 (fun z => decide_eq_false (fun y => y (L.dnB c z))) (fun z => decide_eq_true (L.dnA c z))
    refine ⟨?_, fun j hj => ?_⟩
    · have s1 := SW_same eW m.sh.length (Nat.le_refl _)
      have s2 := SH_on (h := hM ({ m with sh := m.sh.set p 0 } : Mo)) (h' := hM m) (fun j hj => (he j hj).symm) h1 h0 m.sh.length
      rw [if_pos hl] at s2
      show 2 * SW (Wm ({ m with sh := m.sh.set p 0 } : Mo)) (m.sh.set p 0).length + SH (hM ({ m with sh := m.sh.set p 0 } : Mo)) (m.sh.set p 0).length + 1 = 2 * SW (Wm m) m.sh.length + SH (hM m) m.sh.length
      rw [ll]
      omega
    · rw [eW j hj]
theorem mvd_loc {m : Mo} {P : Nat → Bool} {p : Nat} (hp : P p = false) (hb : 0 < p → P (p - 1) = false) (ha : P (p + 1) = false) (L : Loc m p) : Loc (m.mvd P) p := by
  have e0 := mvd_off (m := m) hp
  have e1 := mvd_off (m := m) ha
  refine ⟨fun z y => ?_, fun z y => ?_, fun z y => ?_, fun z y => ?_, fun z y => ?_⟩
  · rw [e0] at z
    have := L.up0 z y
    show (if P 0 = true ∧ m.a 0 = 0 then m.q.tail else m.q) ≠ []
    rw [if_neg (by rintro ⟨x, _⟩; rw [y] at hp; rw [hp] at x; cases x)]
    exact this
  · rw [e0] at z
    rw [mvd_off (hb y)]
    exact L.upB z y
  · rw [e0] at z
    rw [mvd_len] at y
    rw [e1]
    exact L.upA z y
  · rw [e0] at z
    rw [mvd_off (hb y)]
    exact L.dnB z y
  · rw [e0] at z
    rw [mvd_len] at y
    rw [e1]
    exact L.dnA z y
theorem mvd_qm {m : Mo} (h : QM m) (P : Nat → Bool) : QM (m.mvd P) := fun z hz => by
  have hz : z ∈ (if P 0 = true ∧ m.a 0 = 0 then m.q.tail else m.q) := hz
  split at hz
  · exact h z (List.mem_of_mem_tail hz)
  · exact h z hz
/-! #### the places one by one -/
def inI (xs : List Int) (j : Nat) : Bool := decide ((j : Int) ∈ xs)
def beatM (m : Mo) : Mo := m.mvd (inI (rdysM m))
theorem rdys_sort (m : Mo) : (rdysM m).Pairwise (· < ·) := filS _ _
theorem rdys_get {m : Mo} {i : Nat} {z : Int} (h : (rdysM m)[i]? = some z) : ∃ p : Nat, z = (p : Int) ∧ p < m.sh.length ∧ rdyM m p = true := rdys_iff.mp (List.mem_of_getElem? h)
structure Turn (m : Mo) (i p : Nat) : Prop where
  lt : p < m.sh.length
  rd : rdyM m p = true
  off : inI ((rdysM m).take i) p = false
  offB : 0 < p → inI ((rdysM m).take i) (p - 1) = false
  offA : inI ((rdysM m).take i) (p + 1) = false
  next : (fun j => inI ((rdysM m).take i) j || decide (j = p)) = inI ((rdysM m).take (i + 1))
theorem turn_at {m : Mo} {i p : Nat} (h : (rdysM m)[i]? = some (p : Int)) : Turn m i p := by
  obtain ⟨p', e, hl, hr⟩ := rdys_get h
  have e : p = p' := by omega
  subst e
  have sub : ∀ {j : Nat}, inI ((rdysM m).take i) j = true → rdyM m j = true ∧ j < m.sh.length := fun {j} hj => by
    obtain ⟨q, e, h1, h2⟩ := rdys_iff.mp (List.mem_of_mem_take (of_decide_eq_true hj))
    rw [show j = q by omega]
    exact ⟨h2, h1⟩
  refine ⟨hl, hr, ?_, fun z => ?_, ?_, ?_⟩
  · rw [← Bool.not_eq_true]
    intro hj
    have hm : (p : Int) ∈ (rdysM m).take i := of_decide_eq_true hj
    obtain ⟨k, hk, ek⟩ := List.getElem_of_mem hm
    rw [List.length_take] at hk
    rw [List.getElem_take] at ek
    have nd : (rdysM m).Nodup := (rdys_sort m).imp (fun {x y} h => by omega)
    have h2 : (rdysM m)[k]? = some (p : Int) := by rw [List.getElem?_eq_getElem (by omega), ek]
    have := (List.getElem?_inj (by omega) nd).mp (h2.trans h.symm)
    omega
  · rw [← Bool.not_eq_true]
    intro hj
    obtain ⟨h1, h2⟩ := sub hj
    exact rdy_far h1 (by rw [show p - 1 + 1 = p by omega]; exact hr) (by omega)
  · rw [← Bool.not_eq_true]
    intro hj
    obtain ⟨h1, h2⟩ := sub hj
    exact rdy_far hr h1 h2
  · funext j
    unfold inI
    rw [List.take_add_one, h, Bool.eq_iff_iff, Bool.or_eq_true, decide_eq_true_iff, decide_eq_true_iff, decide_eq_true_iff]
    simp only [Option.toList_some, List.mem_append, List.mem_singleton]
    constructor
    · rintro (h | h)
      · exact .inl h
      · exact .inr (by omega)
    · rintro (h | h)
      · exact .inl h
      · exact .inr (by omega)
theorem turn_move {m : Mo} {i p : Nat} (h : (rdysM m)[i]? = some (p : Int)) (hw : m.wr.length = m.sh.length) : (m.mvd (inI ((rdysM m).take i))).move p = m.mvd (inI ((rdysM m).take (i + 1))) := by
  have t := turn_at h
  rw [move_mvd t.off t.offB t.lt hw, t.next]
theorem part_mu {m : Mo} (hw : m.wr.length = m.sh.length) (hq : QM m) : ∀ i, i ≤ (rdysM m).length → muM (m.mvd (inI ((rdysM m).take i))) + i = muM m ∧ ∀ j, j < m.sh.length → ((m.mvd (inI ((rdysM m).take i))).wr.getD j []).length + Wm (m.mvd (inI ((rdysM m).take i))) j = (m.wr.getD j []).length + Wm m j
  | 0, _ => by
    have e : m.mvd (inI ((rdysM m).take 0)) = m := mvd_none _ _ fun j => decide_eq_false (by simp)
    rw [e]
    exact ⟨rfl, fun _ _ => rfl⟩
  | i + 1, hi => by
    obtain ⟨i1, i2⟩ := part_mu hw hq i (by omega)
    have hg : (rdysM m)[i]? = some ((rdysM m)[i]'(by omega)) := List.getElem?_eq_getElem (by omega)
    obtain ⟨p, ep, hl, hr⟩ := rdys_get hg
    rw [ep] at hg
    have t := turn_at hg
    have hm := mu_move (m := m.mvd (inI ((rdysM m).take i))) (p := p) (by rw [mvd_len]; exact hl) (by rw [mvd_len, mvd_wlen]; exact hw) (mvd_loc t.off t.offB t.offA (rdy_loc hr)) (mvd_qm hq _)
    rw [turn_move hg hw, mvd_len] at hm
    refine ⟨by omega, fun j hj => ?_⟩
    rw [hm.2 j hj]
    exact i2 j hj
theorem beat_mu {m : Mo} (hw : m.wr.length = m.sh.length) (hq : QM m) : muM (beatM m) + (rdysM m).length = muM m ∧ ∀ j, j < m.sh.length → ((beatM m).wr.getD j []).length + Wm (beatM m) j = (m.wr.getD j []).length + Wm m j := by
  have := part_mu hw hq (rdysM m).length (Nat.le_refl _)
  rw [List.take_length] at this
  exact this
theorem beat_idle {m : Mo} (h : rdysM m = []) : beatM m = m := mvd_none _ _ fun j => by unfold inI; rw [h]; exact decide_eq_false List.not_mem_nil
/-! #### beats behind one another -/
def itM : Nat → Mo → Mo
  | 0, m => m
  | k + 1, m => beatM (itM k m)
theorem itM_left : ∀ (k : Nat) (m : Mo), itM k (beatM m) = itM (k + 1) m
  | 0, _ => rfl
  | k + 1, m => congrArg beatM (itM_left k m)
structure Fit (m : Mo) : Prop where
  w : m.wr.length = m.sh.length
  q : QM m
theorem beat_fit {m : Mo} (f : Fit m) : Fit (beatM m) := ⟨by unfold beatM; rw [mvd_len, mvd_wlen]; exact f.w, mvd_qm f.q _⟩
theorem it_fit {m : Mo} (f : Fit m) : ∀ k, Fit (itM k m)
  | 0 => f
  | k + 1 => beat_fit (it_fit f k)
theorem it_len (m : Mo) : ∀ k, (itM k m).sh.length = m.sh.length
  | 0 => rfl
  | k + 1 => (mvd_len _ _).trans (it_len m k)
theorem it_sl (m : Mo) : ∀ k, (itM k m).sl = m.sl ∧ (itM k m).fg = m.fg
  | 0 => ⟨rfl, rfl⟩
  | k + 1 => it_sl m k
theorem it_kw {m : Mo} (f : Fit m) : ∀ k j, j < m.sh.length → ((itM k m).wr.getD j []).length + Wm (itM k m) j = (m.wr.getD j []).length + Wm m j
  | 0, _, _ => rfl
  | k + 1, j, hj => by
    have := (beat_mu (it_fit f k).w (it_fit f k).q).2 j (by rw [it_len]; exact hj)
    exact this.trans (it_kw f k j hj)
def setF : Nat → Mo → Nat
  | 0, _ => 0
  | f + 1, m => if rdysM m = [] then 0 else setF f (beatM m) + 1
def setN (m : Mo) : Nat := setF (muM m) m
theorem setF_ok : ∀ (f : Nat) (m : Mo), Fit m → muM m ≤ f → rdysM (itM (setF f m) m) = [] ∧ ∀ j, j < setF f m → rdysM (itM j m) ≠ []
  | 0, m, ft, h => by
    have := (beat_mu ft.w ft.q).1
    refine ⟨List.eq_nil_of_length_eq_zero (by show (rdysM m).length = 0; omega), fun j hj => absurd hj (Nat.not_lt_zero _)⟩
  | f + 1, m, ft, h => by
    unfold setF
    by_cases z : rdysM m = []
    · rw [if_pos z]
      exact ⟨z, fun j hj => absurd hj (Nat.not_lt_zero _)⟩
    · rw [if_neg z]
      have := (beat_mu ft.w ft.q).1
      have lp := List.length_pos_iff.mpr z
      obtain ⟨h1, h2⟩ := setF_ok f (beatM m) (beat_fit ft) (by omega)
      refine ⟨by rw [← itM_left]; exact h1, fun j hj => ?_⟩
      cases j with
      | zero => exact z
      | succ j =>
        rw [← itM_left]
        exact h2 j (by omega)
theorem setN_ok {m : Mo} (f : Fit m) : rdysM (itM (setN m) m) = [] ∧ ∀ j, j < setN m → rdysM (itM j m) ≠ [] := setF_ok _ m f (Nat.le_refl _)
/-! ### beats of a line -/
structure MoLike (s : PS) (m : Mo) : Prop where
  sh : m.sh.length = s.n
  wr : m.wr.length = s.n
  sl : m.sl = (motP s).sl
  fg : m.fg = (motP s).fg
theorem like_motP {s : PS} (o : s.Ok) : MoLike s (motP s) := ⟨by show (alg s.up s.arms).length = _; rw [alg_len, o.arms], List.length_replicate, rfl, rfl⟩
theorem mot_come {s : PS} {m : Mo} (l : MoLike s m) : motP (comeP s m) = { m with wr := List.replicate s.n [] } := by
  have e1 : (motP (comeP s m)).sh = m.sh := alg_alg s.up m.sh
  have e2 : (motP (comeP s m)).q = m.q := if_pos rfl
  have e3 : (motP (comeP s m)).sl = m.sl := l.sl.symm
  have e4 : (motP (comeP s m)).fg = m.fg := l.fg.symm
  show (⟨(motP (comeP s m)).sh, (motP (comeP s m)).q, (motP (comeP s m)).sl, (motP (comeP s m)).fg, List.replicate s.n []⟩ : Mo) = _
  rw [e1, e2, e3, e4]
theorem getD_rev {α : Type} (xs : List α) (i : Nat) (d : α) : xs.reverse.getD i d = if i < xs.length then xs.getD (xs.length - 1 - i) d else d := by
  rw [List.getD_eq_getElem?_getD]
  by_cases h : i < xs.length
  · rw [List.getElem?_reverse h, if_pos h, List.getD_eq_getElem?_getD]
  · rw [List.getElem?_eq_none (by rw [List.length_reverse]; omega), if_neg h]
    rfl
theorem algL_app {u : Bool} {n : Nat} {xs ys zs : List (List Int)} (lx : xs.length = n) (ly : ys.length = n) (lz : zs.length = n) (h : ∀ j, j < n → zs.getD j [] = xs.getD j [] ++ ys.getD j []) (i : Nat) : (algL u zs).getD i [] = (algL u xs).getD i [] ++ (algL u ys).getD i [] := by
  have out : ∀ (ws : List (List Int)), ws.length = n → ¬ i < n → ws.getD i [] = [] := fun ws hw hi => by
    rw [List.getD_eq_getElem?_getD, List.getElem?_eq_none (by omega)]
    rfl
  unfold algL
  cases u
  · rw [if_neg (by decide), if_neg (by decide), if_neg (by decide), getD_rev, getD_rev, getD_rev, lx, ly, lz]
    by_cases hi : i < n
    · rw [if_pos hi, if_pos hi, if_pos hi]
      exact h _ (by omega)
    · rw [if_neg hi, if_neg hi, if_neg hi]
      rfl
  · rw [if_pos rfl, if_pos rfl, if_pos rfl]
    by_cases hi : i < n
    · exact h i hi
    · rw [out _ lx hi, out _ ly hi, out _ lz hi]
      rfl
theorem come_come {s : PS} {m m0 m2 : Mo} (l1 : m.wr.length = s.n) (l0 : m0.wr.length = s.n) (l2 : m2.wr.length = s.n) (h1 : m2.sh = m0.sh) (h2 : m2.q = m0.q) (h3 : ∀ j, j < s.n → m2.wr.getD j [] = m.wr.getD j [] ++ m0.wr.getD j []) : comeP (comeP s m) m0 = comeP s m2 := by
  have eq : (fun u => if u = s.up then m0.q else (if u = s.up then m.q else s.q u)) = fun u => if u = s.up then m2.q else s.q u := by
    funext u
    by_cases z : u = s.up
    · rw [if_pos z, if_pos z, h2]
    · rw [if_neg z, if_neg z, if_neg z]
  have eb : (fun u i => if u = s.up then (if u = s.up then s.bk u i ++ falseR ((algL s.up m.wr).getD i []) else s.bk u i) ++ falseR ((algL s.up m0.wr).getD i []) else (if u = s.up then s.bk u i ++ falseR ((algL s.up m.wr).getD i []) else s.bk u i)) = fun u i => if u = s.up then s.bk u i ++ falseR ((algL s.up m2.wr).getD i []) else s.bk u i := by
    funext u i
    by_cases z : u = s.up
    · rw [if_pos z, if_pos z, if_pos z, algL_app l1 l0 l2 h3 i, List.append_assoc]
      congr 1
      unfold falseR
      rw [List.map_append]
    · rw [if_neg z, if_neg z, if_neg z]
  show (⟨s.n, s.up, alg s.up m0.sh, s.sl, s.fg, fun u => if u = s.up then m0.q else (if u = s.up then m.q else s.q u), fun u i => if u = s.up then (if u = s.up then s.bk u i ++ falseR ((algL s.up m.wr).getD i []) else s.bk u i) ++ falseR ((algL s.up m0.wr).getD i []) else (if u = s.up then s.bk u i ++ falseR ((algL s.up m.wr).getD i []) else s.bk u i)⟩ : PS) = ⟨s.n, s.up, alg s.up m2.sh, s.sl, s.fg, fun u => if u = s.up then m2.q else s.q u, fun u i => if u = s.up then s.bk u i ++ falseR ((algL s.up m2.wr).getD i []) else s.bk u i⟩
  rw [eq, eb, h1]
theorem rep_nil (n j : Nat) : (List.replicate n ([] : List Int)).getD j [] = [] := by
  rw [List.getD_eq_getElem?_getD, List.getElem?_replicate]
  split <;> rfl
theorem come_id {s : PS} (o : s.Ok) : comeP s (motP s) = s := by
  have eq : (fun u => if u = s.up then s.q s.up else s.q u) = s.q := by
    funext u
    by_cases z : u = s.up
    · rw [if_pos z, z]
    · rw [if_neg z]
  have eb : (fun u i => if u = s.up then s.bk u i ++ falseR ((algL s.up (List.replicate s.n [])).getD i []) else s.bk u i) = s.bk := by
    funext u i
    have e : (algL s.up (List.replicate s.n ([] : List Int))).getD i [] = [] := by
      unfold algL
      cases s.up
      · rw [if_neg (by decide), List.reverse_replicate]
        exact rep_nil _ _
      · rw [if_pos rfl]
        exact rep_nil _ _
    rw [e]
    by_cases z : u = s.up
    · rw [if_pos z]
      exact List.append_nil _
    · rw [if_neg z]
  show (⟨s.n, s.up, alg s.up (alg s.up s.arms), s.sl, s.fg, fun u => if u = s.up then s.q s.up else s.q u, fun u i => if u = s.up then s.bk u i ++ falseR ((algL s.up (List.replicate s.n [])).getD i []) else s.bk u i⟩ : PS) = s
  rw [eq, eb, alg_alg]
theorem like_mvd {s : PS} {m : Mo} (l : MoLike s m) (P : Nat → Bool) : MoLike s (m.mvd P) := ⟨(mvd_len _ _).trans l.sh, (mvd_wlen _ _).trans l.wr, l.sl, l.fg⟩
theorem like_it {s : PS} {m : Mo} (l : MoLike s m) : ∀ k, MoLike s (itM k m)
  | 0 => l
  | k + 1 => like_mvd (like_it l k) _
def beatP (s : PS) : PS := comeP s (beatM (motP s))
def settleN (s : PS) : Nat := setN (motP s)
def stepP (s : PS) (k : Nat) : PS := comeP s (itM k (motP s))
def settleP (s : PS) : PS := stepP s (settleN s)
theorem come_beat {s : PS} {m : Mo} (l : MoLike s m) : beatP (comeP s m) = comeP s (beatM m) := by
  unfold beatP
  rw [mot_come l]
  refine come_come l.wr ?_ ?_ rfl rfl fun j hj => ?_
  · show (Mo.mvd _ _).wr.length = _
    rw [mvd_wlen]
    exact List.length_replicate
  · show (Mo.mvd _ _).wr.length = _
    rw [mvd_wlen]
    exact l.wr
  · have e1 : (beatM m).wr.getD j [] = if inI (rdysM m) j = true ∧ m.a j = 0 then m.wr.getD j [] ++ [cmM m j] else m.wr.getD j [] := getD_map_range _ _ _ _ (by rw [l.wr]; exact hj)
    have e2 : (beatM { m with wr := List.replicate s.n [] }).wr.getD j [] = if inI (rdysM m) j = true ∧ m.a j = 0 then (List.replicate s.n ([] : List Int)).getD j [] ++ [cmM m j] else (List.replicate s.n ([] : List Int)).getD j [] := getD_map_range _ _ _ _ (by rw [List.length_replicate]; exact hj)
    rw [e1, e2, rep_nil]
    by_cases c : inI (rdysM m) j = true ∧ m.a j = 0
    · rw [if_pos c, if_pos c]
      rfl
    · rw [if_neg c, if_neg c, List.append_nil]
theorem step_next {s : PS} (o : s.Ok) (k : Nat) : beatP (stepP s k) = stepP s (k + 1) := come_beat (like_it (like_motP o) k)
theorem step_rdys {s : PS} (o : s.Ok) (k : Nat) : rdysM (motP (stepP s k)) = rdysM (itM k (motP s)) := by
  unfold stepP
  rw [mot_come (like_it (like_motP o) k)]
  rfl
theorem srt_nil {xs : List Int} : srt xs = [] ↔ xs = [] := by
  constructor
  · intro h
    have := srt_len xs
    rw [h] at this
    exact List.eq_nil_of_length_eq_zero this.symm
  · intro h
    subst h
    exact List.mergeSort_nil
theorem ready_nil {s : PS} : readyP s = [] ↔ rdysM (motP s) = [] := by
  unfold readyP
  rw [srt_nil, List.map_eq_nil_iff]
theorem readyP_len {s : PS} (o : s.Ok) : (readyP s).length ≤ 12 := by
  have h1 := srt_len ((rdysM (motP s)).map (plI s.up s.n))
  have h2 := fil_len (rdyM (motP s)) (motP s).sh.length
  have h3 := (like_motP o).sh
  have h4 := o.hi
  unfold readyP
  rw [h1, List.length_map]
  show (fil _ _).length ≤ 12
  omega
theorem beat_none {s : PS} (o : s.Ok) (h : readyP s = []) : beatP s = s := by
  unfold beatP
  rw [beat_idle (ready_nil.mp h), come_id o]
theorem settle_none {s : PS} (o : s.Ok) (h : settleN s = 0) : settleP s = s := by
  unfold settleP
  rw [h]
  exact come_id o
/-! #### bounds -/
theorem fit_motP {s : PS} (o : s.Ok) (qp : ∀ z ∈ s.q s.up, (1 : Int) ≤ z) : Fit (motP s) := ⟨(like_motP o).wr.trans (like_motP o).sh.symm, fun z hz => by have := qp z hz; omega⟩
structure Gd (m : Mo) : Prop where
  sh : ∀ z ∈ m.sh, (0 : Int) ≤ z
  q : ∀ z ∈ m.q, (1 : Int) ≤ z
theorem Gd.a {m : Mo} (g : Gd m) (j : Nat) : 0 ≤ m.a j := by
  show 0 ≤ m.sh.getD j 0
  rw [List.getD_eq_getElem?_getD]
  cases e : m.sh[j]? with
  | none => exact Int.le_refl 0
  | some z => exact g.sh z (List.mem_of_getElem? e)
theorem mvd_gd {m : Mo} (g : Gd m) (P : Nat → Bool) : Gd (m.mvd P) := by
  refine ⟨fun z hz => ?_, fun z hz => ?_⟩
  · obtain ⟨j, hj, e⟩ := List.mem_map.mp hz
    subst e
    split
    · split
      · unfold cmM
        split
        · cases e : m.q with
          | nil => exact Int.le_refl 0
          | cons x r => have := g.q x (by rw [e]; exact List.mem_cons_self); show 0 ≤ x; omega
        · exact g.a _
      · exact Int.le_refl 0
    · exact g.a _
  · have hz : z ∈ (if P 0 = true ∧ m.a 0 = 0 then m.q.tail else m.q) := hz
    split at hz
    · exact g.q z (List.mem_of_mem_tail hz)
    · exact g.q z hz
theorem it_gd {m : Mo} (g : Gd m) : ∀ k, Gd (itM k m)
  | 0 => g
  | k + 1 => mvd_gd (it_gd g k) _
theorem gd_motP {s : PS} (ps : s.Pos) (qp : ∀ z ∈ s.q s.up, (1 : Int) ≤ z) : Gd (motP s) := ⟨fun z hz => by
  have hz : z ∈ alg s.up s.arms := hz
  unfold alg at hz
  split at hz
  · exact ps.arms z hz
  · exact ps.arms z (List.mem_reverse.mp hz), qp⟩
theorem it_few {s : PS} (o : s.Ok) (qp : ∀ z ∈ s.q s.up, (1 : Int) ≤ z) (k : Nat) : (itM k (motP s)).Ok s.n 72 := by
  have l := like_it (like_motP o) k
  refine ⟨l.sh, l.wr, fun w hw => ?_⟩
  obtain ⟨j, hj, e⟩ := List.getElem_of_mem hw
  have h := it_kw (fit_motP o qp) k j (by rw [(like_motP o).sh]; rw [l.wr] at hj; exact hj)
  have e1 : (itM k (motP s)).wr.getD j [] = w := by
    rw [List.getD_eq_getElem?_getD, List.getElem?_eq_getElem hj, e]
    rfl
  have e2 : (motP s).wr.getD j [] = [] := rep_nil _ _
  rw [e1, e2] at h
  have h2 := Wf_le (motP s).q.length (hM (motP s)) j
  have h3 := o.q s.up
  have h4 := o.hi
  rw [l.wr] at hj
  have h5 : Wm (motP s) j ≤ (s.q s.up).length + j := h2
  simp only [List.length_nil] at h
  omega
theorem mvd_suffix (m : Mo) (P : Nat → Bool) : ∃ k, k ≤ m.q.length ∧ (m.mvd P).q = m.q.drop k := by
  show ∃ k, k ≤ m.q.length ∧ (if P 0 = true ∧ m.a 0 = 0 then m.q.tail else m.q) = m.q.drop k
  by_cases c : P 0 = true ∧ m.a 0 = 0
  · rw [if_pos c]
    cases e : m.q with
    | nil => exact ⟨0, Nat.zero_le _, rfl⟩
    | cons x r => exact ⟨1, by simp, rfl⟩
  · rw [if_neg c]
    exact ⟨0, Nat.zero_le _, rfl⟩
theorem it_suffix (m : Mo) : ∀ j, ∃ k, k ≤ m.q.length ∧ (itM j m).q = m.q.drop k
  | 0 => ⟨0, Nat.zero_le _, rfl⟩
  | j + 1 => by
    obtain ⟨k, hk, e⟩ := it_suffix m j
    obtain ⟨k2, hk2, e2⟩ := mvd_suffix (itM j m) (inI (rdysM (itM j m)))
    rw [e, List.length_drop] at hk2
    refine ⟨k + k2, by omega, ?_⟩
    show ((itM j m).mvd _).q = _
    rw [e2, e, List.drop_drop]
theorem step_ok {s : PS} (o : s.Ok) (qp : ∀ z ∈ s.q s.up, (1 : Int) ≤ z) (k : Nat) : (stepP s k).Ok := by
  obtain ⟨j, hj, e⟩ := it_suffix (motP s) k
  refine comeP_ok o (it_few o qp k) ?_
  rw [e, List.length_drop]
  show (s.q s.up).length - j ≤ _
  omega
theorem falseR_len (l : List Int) : (falseR l).length = l.length := List.length_map ..
theorem step_bk {s : PS} (o : s.Ok) (qp : ∀ z ∈ s.q s.up, (1 : Int) ≤ z) (k : Nat) (u : Bool) (i : Nat) : ((stepP s k).bk u i).length ≤ (s.bk u i).length + 72 := by
  show (if u = s.up then s.bk u i ++ falseR ((algL s.up (itM k (motP s)).wr).getD i []) else s.bk u i).length ≤ _
  split
  · rw [List.length_append, falseR_len]
    have := few_alg (it_few o qp k) s.up i
    omega
  · omega
theorem step_pos {s : PS} (ps : s.Pos) (qp : ∀ z ∈ s.q s.up, (1 : Int) ≤ z) (k : Nat) : (stepP s k).Pos := ⟨fun z hz => by
  have g := it_gd (gd_motP ps qp) k
  have hz : z ∈ alg s.up (itM k (motP s)).sh := hz
  unfold alg at hz
  split at hz
  · exact g.sh z hz
  · exact g.sh z (List.mem_reverse.mp hz)⟩
theorem step_q {s : PS} (ps : s.Pos) (qp : ∀ u, ∀ z ∈ s.q u, (1 : Int) ≤ z) (k : Nat) : ∀ u, ∀ z ∈ (stepP s k).q u, (1 : Int) ≤ z := fun u z hz => by
  have hz : z ∈ (if u = s.up then (itM k (motP s)).q else s.q u) := hz
  split at hz
  · exact (it_gd (gd_motP ps (qp s.up)) k).q z hz
  · exact qp u z hz
theorem step_nl {s : PS} (h : ∀ u i, ∀ r ∈ s.bk u i, r.2 = false) (k : Nat) : ∀ u i, ∀ r ∈ (stepP s k).bk u i, r.2 = false := fun u i r hr => by
  have hr : r ∈ (if u = s.up then s.bk u i ++ falseR ((algL s.up (itM k (motP s)).wr).getD i []) else s.bk u i) := hr
  split at hr
  · rcases List.mem_append.mp hr with hr | hr
    · exact h u i r hr
    · obtain ⟨z, _, e⟩ := List.mem_map.mp hr
      rw [← e]
  · exact h u i r hr
theorem beat_step (s : PS) : beatP s = stepP s 1 := rfl
/-! ### whole numbers, some missing -/
def oI : Option Int → V
  | none => .non
  | some z => .int z
def dO : Option Int → PyData
  | none => .none
  | some z => .int z
def dOs (vs : List (Option Int)) : PyData := .list (vs.map dO)
theorem dp_oI {K : PySem.W.Frag} {H : Hp} : ∀ vs : List (Option Int), DpAll K H (vs.map oI) (vs.map dO)
  | [] => .nil
  | none :: r => .cons .non (dp_oI r)
  | some z :: r => .cons (.int z) (dp_oI r)
theorem dp_dOs {K : PySem.W.Frag} {H : Hp} {a : Addr} {vs : List (Option Int)} (h : SqL K H a (vs.map oI)) : Dp K H (.ref a) (dOs vs) := .lst h (dp_oI vs)
/-! ### stretches -/
def hasO (os : List (Option Int)) (p : Nat) : Bool := (os.getD p none).isSome
def valO (os : List (Option Int)) (p : Nat) : Int := (os.getD p none).getD 0
def legN (os : List (Option Int)) (i : Nat) : List Nat := (List.range i).filter (hasO os)
theorem legN_yes {os : List (Option Int)} {i : Nat} (h : hasO os i = true) : legN os (i + 1) = legN os i ++ [i] := by
  unfold legN
  rw [List.range_succ, List.filter_append]
  simp [h]
theorem legN_no {os : List (Option Int)} {i : Nat} (h : hasO os i = false) : legN os (i + 1) = legN os i := by
  unfold legN
  rw [List.range_succ, List.filter_append]
  simp [h]
theorem legN_len (os : List (Option Int)) (i : Nat) : (legN os i).length ≤ i := by
  unfold legN
  exact Nat.le_trans (List.length_filter_le _ _) (by rw [List.length_range]; exact Nat.le_refl _)
theorem legN_mem {os : List (Option Int)} {i p : Nat} (h : p ∈ legN os i) : p < i ∧ hasO os p = true := by
  unfold legN at h
  simp only [List.mem_filter, List.mem_range] at h
  exact h
theorem oI_at {os : List (Option Int)} {p : Nat} (h : p < os.length) : (os.map oI)[p]? = some (oI (os.getD p none)) := by
  rw [List.getElem?_map, List.getD_eq_getElem?_getD, List.getElem?_eq_getElem h]
  rfl
theorem oI_has {os : List (Option Int)} {p : Nat} (h : hasO os p = true) : oI (os.getD p none) = .int (valO os p) := by
  unfold hasO at h
  unfold valO
  cases e : os.getD p none with
  | none => rw [e] at h; cases h
  | some z => rfl
theorem oI_not {os : List (Option Int)} {p : Nat} (h : hasO os p = false) : oI (os.getD p none) = .non := by
  unfold hasO at h
  cases e : os.getD p none with
  | none => rfl
  | some z => rw [e] at h; cases h
def dLeg (os : List (Option Int)) (p : Nat) : PyData := .tuple [.int (p : Int), .int (valO os p)]
/-- the k-th legible place -/
def lgA (os : List (Option Int)) (k : Nat) : Nat := (legN os os.length).getD k 0
def unl (os : List (Option Int)) (k : Nat) : Bool := !decide (V.int (valO os (lgA os k)) = V.int (valO os (lgA os (k + 1))))
def strN (os : List (Option Int)) (i : Nat) : List Nat := (List.range i).filter (unl os)
def dStr (os : List (Option Int)) (k : Nat) : PyData := .tuple [.int (lgA os k : Int), .int (lgA os (k + 1) : Int), .int (valO os (lgA os k)), .int (valO os (lgA os (k + 1)))]
theorem strN_yes {os : List (Option Int)} {i : Nat} (h : unl os i = true) : strN os (i + 1) = strN os i ++ [i] := by
  unfold strN
  rw [List.range_succ, List.filter_append]
  simp [h]
theorem strN_no {os : List (Option Int)} {i : Nat} (h : unl os i = false) : strN os (i + 1) = strN os i := by
  unfold strN
  rw [List.range_succ, List.filter_append]
  simp [h]
theorem strN_len (os : List (Option Int)) (i : Nat) : (strN os i).length ≤ i := by
  unfold strN
  exact Nat.le_trans (List.length_filter_le _ _) (by rw [List.length_range]; exact Nat.le_refl _)
/-- how many pairs of neighbours there are -/
def prs (os : List (Option Int)) : Nat := (legN os os.length).length - 1
def dStrs (os : List (Option Int)) : List PyData := (strN os (prs os)).map (dStr os)
theorem nl_strs {os : List (Option Int)} {l : List Nat} : ∀ d ∈ l.map (dStr os), Nl d := by
  intro d hd
  obtain ⟨p, _, rfl⟩ := List.mem_map.mp hd
  exact .tup (by intro d hd; simp only [List.mem_cons, List.not_mem_nil, or_false] at hd; rcases hd with rfl | rfl | rfl | rfl <;> exact .int _)
theorem nl_legs {os : List (Option Int)} {l : List Nat} : ∀ d ∈ l.map (dLeg os), Nl d := by
  intro d hd
  obtain ⟨p, _, rfl⟩ := List.mem_map.mp hd
  exact .tup (by intro d hd; simp only [List.mem_cons, List.not_mem_nil, or_false] at hd; rcases hd with rfl | rfl <;> exact .int _)
theorem cut_tail (ws : List V) : cutV ws (some 1) none = ws.tail := by
  unfold cutV
  rw [HT.sIx_none]
  have e : HT.sIx ws.length 0 (some 1) = min 1 ws.length := HT.sIx_nat ws.length 0 1
  rw [e]
  cases ws with
  | nil => rfl
  | cons w r =>
    rw [show min 1 (w :: r).length = 1 by rw [List.length_cons]; omega]
    show ((w :: r).drop 1).take _ = r
    rw [List.drop_one, List.tail_cons]
    exact List.take_of_length_le (by rw [List.length_cons]; omega)
theorem lgA_at {os : List (Option Int)} {k : Nat} (h : k < (legN os os.length).length) : (legN os os.length)[k]? = some (lgA os k) := by
  unfold lgA
  rw [List.getD_eq_getElem?_getD, List.getElem?_eq_getElem h]
  rfl
theorem dp_pair {K : PySem.W.Frag} {H : Hp} {v : V} {x y : PyData} (h : Dp K H v (.tuple [x, y])) : ∃ (t : Addr) (a b : V), v = .ref t ∧ SqT K H t [a, b] ∧ Dp K H a x ∧ Dp K H b y := by
  cases h with
  | tup h t =>
    cases t with | cons h1 t =>
    cases t with | cons h2 t =>
    cases t
    exact ⟨_, _, _, rfl, h, h1, h2⟩
theorem dp_intV {K : PySem.W.Frag} {H : Hp} {v : V} {z : Int} (h : Dp K H v (.int z)) : v = .int z := by
  cases h
  rfl
def sp_p_stretches (K : PySem.W.Frag) : Sp := fun vs H Q _ => ∃ (a : Addr) (os : List (Option Int)), vs = [.ref a] ∧ SqL K H a (os.map oI) ∧ os.length ≤ 1000 ∧
  ∀ (p : Addr) (ws : List V) (H' : Hp), Kp H H' → H p = none → H' p = some (.lst ws) → DpAll K H' ws (dStrs os) → Q (.ref p) H'
theorem ok_p_stretches (T : Txt K mg) : FnOk P w K mg base CX0 1 T.f_p_stretches T.d_p_stretches ["values"] (sp_p_stretches K) := by
  refine T.F_p_stretches.ok sc_p_stretches (fun vs H Q E h => ?_) (fun cdv A outer s H vs Q E hr h => ?_)
  · obtain ⟨a, os, rfl, _⟩ := h
    rfl
  · obtain ⟨a, os, rfl, hS, hlen, k⟩ := h
    refine ⟨_, (pss_cons (ps_setLc (i := 1) (own := [("place", 2), ("sign", 3)]) (by rfl) sc_p_stretches.nd rfl rfl (sw_true rfl rfl rfl (by decide +kernel)) (pi_enum (by rfl) T.m_enumerate (pa_cons (pv 0) pa_nil)) (blkOk_by (own := [("place", 2), ("sign", 3)]) (N := ["values", "legible", "place", "sign", "found", "first", "written", "second", "other"]) (sc := defScope s_p_stretches) (by decide +kernel)) (fun _ _ _ _ _ => (pgK K rfl (pg_tup (n := 2) rfl (pgs_cons (pg_name (i := 2) sc_p_stretches.nd rfl (by first | exact Or.inl rfl | exact Or.inr rfl)) (pgs_cons (pg_name (i := 3) sc_p_stretches.nd rfl (by first | exact Or.inl rfl | exact Or.inr rfl)) pgs_nil))))) (fun _ _ _ _ _ => (pts_one (pt_cmpR op_notN (pv 3) pe_non (nomark _)))) (fun _ _ _ _ _ => (pe_tup (pa_cons (pv 2) (pa_cons (pv 3) pa_nil)))))
      (pss_cons (ps_set (i := 4) sc_p_stretches.nd rfl (by first | exact Or.inl rfl | exact Or.inr rfl) (pe_lst pa_nil))
      (pss_cons (ps_for PassesOwn.never rfl (pi_zip (by rfl) T.m_zip (pa_cons (pv 1) (pa_cons (pe_slice sl_list (pv 1) (po_some pe_int) po_none) pa_nil))) (pg_tup (n := 2) rfl (pgs_cons (pg_tup (n := 2) rfl (pgs_cons (pg_name (i := 5) sc_p_stretches.nd rfl (by first | exact Or.inl rfl | exact Or.inr rfl)) (pgs_cons (pg_name (i := 6) sc_p_stretches.nd rfl (by first | exact Or.inl rfl | exact Or.inr rfl)) pgs_nil))) (pgs_cons (pg_tup (n := 2) rfl (pgs_cons (pg_name (i := 7) sc_p_stretches.nd rfl (by first | exact Or.inl rfl | exact Or.inr rfl)) (pgs_cons (pg_name (i := 8) sc_p_stretches.nd rfl (by first | exact Or.inl rfl | exact Or.inr rfl)) pgs_nil))) pgs_nil)))
      (pss_one (ps_if (pt_cmpR op_ne (pv 6) (pv 8) (nomark _))
      (pss_one (ps_expr (pe_bm PySem.F.plainAttrs_list PySem.F.slot_list_append PySem.F.type_list_append mt_append (pv 4) (pa_cons (pe_tup (pa_cons (pv 5) (pa_cons (pv 7) (pa_cons (pv 6) (pa_cons (pv 8) pa_nil))))) pa_nil))))
      pss_nil)))
      (pss_one (ps_ret (pv 4)))))), ?_⟩
    refine ⟨_, rfl, a, _, rfl, hS, fun D hD => ?_⟩
    refine lc_it (walk_enum (K := K) (a := a) (xs := os.map oI)) (fun i H' => ∃ ws : List V, Kp H H' ∧ H' D = some (.lst ws) ∧ DpAll K H' ws ((legN os i).map (dLeg os))) ⟨[], Kp.new hD, upd_same, .nil⟩ (fun i H' _ ⟨_, kp, _⟩ => kp.sqL hS) ?_ ?_
    · rintro i x H' H'' hi ⟨ws, kp, hDl, hw⟩ ⟨t, i', v, rfl, nt, rfl, ei, ev⟩
      cases Option.some.inj ei
      rw [List.length_map] at hi
      have ev : (os.map oI)[i]? = some v := ev
      rw [oI_at hi] at ev
      cases Option.some.inj ev
      generalize h_H2 : upd H' t _ = H2
      have k_H2 : Kp H' H2 := by rw [← h_H2]; exact .new nt
      have q_H2 := (congrFun h_H2 t).symm.trans upd_same
      clear h_H2
      have hD2 := k_H2.same _ _ rfl hDl
      have kp2 := kp.trans k_H2
      have hw2 := k_H2.dpAll hw
      have hlw := DpAll.len hw2
      rw [List.length_map] at hlw
      have hll := legN_len os i
      refine ⟨t, _, rfl, .inl (.inl q_H2), rfl, _, _, rfl, _, _, rfl, rfl, rfl, ?_⟩
      cases hh : hasO os i with
      | false =>
        refine ⟨_, rfl, rfl, _, rfl, iteFo (by show (!decide (oI (os.getD i none) = V.non)) = false; rw [oI_not hh]; rfl) ?_⟩
        exact ⟨ws, kp2, hD2, by rw [legN_no hh]; exact hw2⟩
      | true =>
        refine ⟨_, rfl, rfl, _, rfl, iteTo (by show (!decide (oI (os.getD i none) = V.non)) = true; rw [oI_has hh]; rfl) ?_⟩
        refine ⟨_, rfl, _, rfl, szl (by show 2 ≤ 100000; decide), fun u nu => ?_⟩
        generalize h_H3 : upd H2 u _ = H3
        have k_H3 : Kp H2 H3 := by rw [← h_H3]; exact .new nu
        have q_H3 := (congrFun h_H3 u).symm.trans upd_same
        clear h_H3
        have hD3 := k_H3.same _ _ rfl hD2
        refine ⟨ws, hD3, szt (by omega), _, (kp2.trans k_H3).mut hD, upd_same, ?_⟩
        rw [legN_yes hh, List.map_append]
        refine DpAll.mut hD3 ?_ (DpAll.snoc (k_H3.dpAll hw2) (.tup (.inl (.inl q_H3)) (.cons (.int _) (.cons (by rw [oI_has hh]; exact .int _) .nil))))
        intro d hd
        rw [← List.map_append] at hd
        exact nl_legs d hd
    · rintro H1 ⟨ls, k1, hD1, hl1⟩
      rw [List.length_map] at hl1
      have hll := DpAll.len hl1
      rw [List.length_map] at hll
      have hlm := legN_len os os.length
      refine ⟨Nat.zero_le _, fun p4 n4 => ?_⟩
      generalize h_H2 : upd H1 p4 _ = H2
      have k_H2 : Kp H1 H2 := by rw [← h_H2]; exact .new n4
      have q_H2 := (congrFun h_H2 p4).symm.trans upd_same
      clear h_H2
      have hD2 := k_H2.same _ _ rfl hD1
      have f4 := k1.free _ n4
      have neD4 : D ≠ p4 := ne_of_none hD1 n4
      refine ⟨_, rfl, _, rfl, _, rfl, D, _, rfl, .inl (.inl hD2), fun p5 n5 => ?_⟩
      generalize h_H3 : upd H2 p5 _ = H3
      have k_H3 : Kp H2 H3 := by rw [← h_H3]; exact .new n5
      have q_H3 := (congrFun h_H3 p5).symm.trans upd_same
      clear h_H3
      rw [cut_tail] at q_H3
      have ne45 : p4 ≠ p5 := ne_of_none q_H2 n5
      have kp3 := (k1.trans k_H2).trans k_H3
      have hD3 := k_H3.same _ _ rfl hD2
      have hl3 := (k_H2.trans k_H3).dpAll hl1
      refine ⟨D, p5, ls, ls.tail, rfl, .inl (.inl hD3), .inl (.inl q_H3), ?_⟩
      refine for_it (walk_zip (K := K) (a := D) (b := p5) (xs := ls) (ys := ls.tail) (n := prs os) (by rw [List.length_tail]; unfold prs; omega)) (fun i σ H' => ∃ (ws : List V) (y1 y2 y3 y4 : Option V), σ = [some (.ref a), some (.ref D), none, none, some (.ref p4), y1, y2, y3, y4] ∧ Kp H H' ∧ H' D = some (.lst ls) ∧ H' p5 = some (.lst ls.tail) ∧ DpAll K H' ls ((legN os os.length).map (dLeg os)) ∧ H' p4 = some (.lst ws) ∧ DpAll K H' ws ((strN os i).map (dStr os)))
        ⟨[], none, none, none, none, rfl, kp3, hD3, q_H3, hl3, k_H3.same _ _ rfl q_H2, .nil⟩ (fun i σ H' _ ⟨_, _, _, _, _, _, _, h1, h2, _⟩ => ⟨.inl (.inl h1), .inl (.inl h2)⟩) ?_ ?_
      · rintro i x σ H' H'' hi ⟨ws, y1, y2, y3, y4, rfl, kp, hd, h5, hl, h4, hw⟩ ⟨t, u, v, rfl, nt, rfl, eu, ev⟩
        have hi1 : i < (legN os os.length).length := by unfold prs at hi; omega
        have hi2 : i + 1 < (legN os os.length).length := by unfold prs at hi; omega
        have g1 : ((legN os os.length).map (dLeg os))[i]? = some (dLeg os (lgA os i)) := by rw [List.getElem?_map, lgA_at hi1]; rfl
        have g2 : ((legN os os.length).map (dLeg os))[i + 1]? = some (dLeg os (lgA os (i + 1))) := by rw [List.getElem?_map, lgA_at hi2]; rfl
        obtain ⟨u', eu', du⟩ := DpAll.get hl g1
        have eu : ls[i]? = some u := eu
        rw [eu] at eu'
        cases Option.some.inj eu'
        obtain ⟨v', ev', dv⟩ := DpAll.get hl g2
        have ev : ls.tail[i]? = some v := ev
        rw [List.getElem?_tail] at ev
        rw [ev] at ev'
        cases Option.some.inj ev'
        obtain ⟨t1, a1, b1, rfl, s1, da1, db1⟩ := dp_pair du
        obtain ⟨t2, a2, b2, rfl, s2, da2, db2⟩ := dp_pair dv
        cases dp_intV da1
        cases dp_intV db1
        cases dp_intV da2
        cases dp_intV db2
        generalize h_H4 : upd H' t _ = H4
        have k_H4 : Kp H' H4 := by rw [← h_H4]; exact .new nt
        have q_H4 := (congrFun h_H4 t).symm.trans upd_same
        clear h_H4
        have kp4 := kp.trans k_H4
        have hlw := DpAll.len hw
        rw [List.length_map] at hlw
        have hsl := strN_len os i
        have r4 := k_H4.same _ _ rfl h4
        refine ⟨t, _, rfl, .inl (.inl q_H4), rfl, _, _, rfl, t1, _, rfl, k_H4.sqT s1, rfl, _, _, rfl, _, _, rfl, rfl, _, _, rfl, t2, _, rfl, k_H4.sqT s2, rfl, _, _, rfl, _, _, rfl, rfl, rfl, ?_⟩
        refine ⟨_, rfl, _, rfl, rfl, _, rfl, iteB (fun c => ?_) (fun c => ?_)⟩
        · have c : unl os i = true := c
          refine ⟨_, rfl, .inl ⟨rfl, _, SqL.of r4⟩, _, rfl, _, rfl, _, rfl, _, rfl, szl (by show 4 ≤ 100000; decide), fun u nu => ?_⟩
          generalize h_H5 : upd H4 u _ = H5
          have k_H5 : Kp H4 H5 := by rw [← h_H5]; exact .new nu
          have q_H5 := (congrFun h_H5 u).symm.trans upd_same
          clear h_H5
          have r5 := k_H5.same _ _ rfl r4
          have k25 := k_H4.trans k_H5
          refine ⟨p4, _, _, rfl, rfl, r5, szt (by omega), ?_⟩
          refine ⟨_, _, _, _, _, rfl, (kp4.trans k_H5).mut f4, by rw [upd_ne neD4]; exact k25.same _ _ rfl hd, by rw [upd_ne ne45.symm]; exact k25.same _ _ rfl h5, DpAll.mut r5 nl_legs (k25.dpAll hl), upd_same, ?_⟩
          rw [strN_yes c, List.map_append]
          refine DpAll.mut r5 ?_ (DpAll.snoc (k25.dpAll hw) (.tup (.inl (.inl q_H5)) (.cons (.int _) (.cons (.int _) (.cons (.int _) (.cons (.int _) .nil))))))
          intro d hd
          rw [← List.map_append] at hd
          exact nl_strs d hd
        · have c : unl os i = false := c
          exact ⟨_, _, _, _, _, rfl, kp4, k_H4.same _ _ rfl hd, k_H4.same _ _ rfl h5, k_H4.dpAll hl, r4, by rw [strN_no c]; exact k_H4.dpAll hw⟩
      · rintro σ H' ⟨ws, y1, y2, y3, y4, rfl, kp, hd, h5, hl, h4, hw⟩
        exact ⟨_, rfl, k p4 ws H' kp f4 h4 hw⟩
/-! ### halvings -/
def hvN (g : Int) : Nat := Builtin.Int.intBits (if 0 > g - 1 then 0 else g - 1)
theorem hv_eq {g : Int} {m : Nat} (h1 : g ≤ 2 ^ m) (h2 : m = 0 ∨ (2 : Int) ^ (m - 1) < g) : hvN g = m := by
  unfold hvN Builtin.Int.intBits
  by_cases c : 0 > g - 1
  · rw [if_pos c]
    have hm : m = 0 := by
      rcases h2 with z | z
      · exact z
      · have : (0 : Int) < 2 ^ (m - 1) := Int.pow_pos (by decide)
        omega
    rw [hm]
    rfl
  · rw [if_neg c]
    obtain ⟨n, hn⟩ : ∃ n : Nat, g - 1 = (n : Int) := ⟨(g - 1).toNat, by omega⟩
    rw [hn]
    cases n with
    | zero =>
      have hm : m = 0 := by
        rcases h2 with z | z
        · exact z
        · have : (0 : Int) < 2 ^ (m - 1) := Int.pow_pos (by decide)
          omega
      rw [hm]
      rfl
    | succ n =>
      rw [if_neg (by rw [beq_iff_eq]; omega), Int.natAbs_natCast]
      cases m with
      | zero =>
        have : (2 : Int) ^ 0 = 1 := rfl
        omega
      | succ m =>
        rcases h2 with z | z
        · cases z
        · rw [Nat.add_sub_cancel] at z
          have e1 : ((2 ^ m : Nat) : Int) = (2 : Int) ^ m := by rw [Int.natCast_pow]; rfl
          have e2 : ((2 ^ (m + 1) : Nat) : Int) = (2 : Int) ^ (m + 1) := by rw [Int.natCast_pow]; rfl
          rw [(Nat.log2_eq_iff (k := m) (Nat.succ_ne_zero n)).mpr ⟨by omega, by omega⟩]
def sp_p_halvings (K : PySem.W.Frag) : Sp := fun vs H Q _ => ∃ g : Int, vs = [.int g] ∧ Q (.int (hvN g : Int)) H
def gapI (os : List (Option Int)) (k : Nat) : Int := (lgA os (k + 1) : Int) - (lgA os k : Int)
def hvs (os : List (Option Int)) (l : List Nat) : List Int := l.map fun k => (hvN (gapI os k) : Int)
def wide (os : List (Option Int)) (l : List Nat) : List Int := (l.filter fun k => decide (gapI os k > 1)).map fun k => ((lgA os k : Int) + (lgA os (k + 1) : Int)) / 2
def nextV (l : List Int) : V := match l with | [] => .non | z :: _ => .int z
theorem dp_quad {K : PySem.W.Frag} {H : Hp} {x : V} {a b c d : Int} (h : Dp K H x (.tuple [.int a, .int b, .int c, .int d])) : ∃ t, x = .ref t ∧ SqT K H t [.int a, .int b, .int c, .int d] := by
  cases h with
  | tup s r =>
    cases r with
    | cons a1 r =>
      cases r with
      | cons a2 r =>
        cases r with
        | cons a3 r =>
          cases r with
          | cons a4 r =>
            cases r
            cases dp_intV a1
            cases dp_intV a2
            cases dp_intV a3
            cases dp_intV a4
            exact ⟨_, rfl, s⟩
theorem strs_at {K : PySem.W.Frag} {H : Hp} {os : List (Option Int)} {ws : List V} {i : Nat} {x : V} (h : DpAll K H ws (dStrs os)) (e : ws[i]? = some x) : ∃ k, (strN os (prs os))[i]? = some k ∧ Dp K H x (dStr os k) := by
  have hl := DpAll.len h
  unfold dStrs at h hl
  rw [List.length_map] at hl
  have hi : i < (strN os (prs os)).length := by
    have := (List.getElem?_eq_some_iff.mp e).1
    omega
  have g : ((strN os (prs os)).map (dStr os))[i]? = some (dStr os ((strN os (prs os))[i])) := by rw [List.getElem?_map, List.getElem?_eq_getElem hi]; rfl
  obtain ⟨x', e', d⟩ := DpAll.get h g
  rw [e] at e'
  cases Option.some.inj e'
  exact ⟨_, List.getElem?_eq_getElem hi, d⟩
def sp_p_askings (K : PySem.W.Frag) : Sp := fun vs H Q _ => ∃ (a : Addr) (os : List (Option Int)), vs = [.ref a] ∧ SqL K H a (os.map oI) ∧ os.length ≤ 1000 ∧ ∀ H', Kp H H' → Q (.int (hvs os (strN os (prs os))).sum) H'
theorem str_len (os : List (Option Int)) : (strN os (prs os)).length ≤ os.length := by
  have h1 := strN_len os (prs os)
  have h2 := legN_len os os.length
  unfold prs at h1 ⊢
  omega
def sp_p_to_ask (K : PySem.W.Frag) : Sp := fun vs H Q _ => ∃ (a : Addr) (os : List (Option Int)), vs = [.ref a] ∧ SqL K H a (os.map oI) ∧ os.length ≤ 1000 ∧ ∀ H', Kp H H' → Q (nextV (wide os (strN os (prs os)))) H'
theorem wide_split {os : List (Option Int)} {l : List Nat} {i k : Nat} (h : l[i]? = some k) (h0 : wide os (l.take i) = []) (hk : gapI os k > 1) : nextV (wide os l) = .int (((lgA os k : Int) + (lgA os (k + 1) : Int)) / 2) := by
  have hi := (List.getElem?_eq_some_iff.mp h).1
  have e : l = l.take i ++ (k :: l.drop (i + 1)) := by
    rw [← (List.getElem?_eq_some_iff.mp h).2, List.getElem_cons_drop, List.take_append_drop]
  unfold wide at h0 ⊢
  rw [e, List.filter_append, List.map_append, h0, List.filter_cons, if_pos (decide_eq_true hk)]
  rfl
theorem wide_no {os : List (Option Int)} {l : List Nat} {i k : Nat} (h : l[i]? = some k) (h0 : wide os (l.take i) = []) (hk : ¬ gapI os k > 1) : wide os (l.take (i + 1)) = [] := by
  unfold wide at h0 ⊢
  rw [take_snoc h, List.filter_append, List.map_append, h0, List.filter_cons, if_neg (by rw [decide_eq_true_iff]; exact hk)]
  rfl
/-! ### the rows that are written of one sign -/
def rowO (r : Int × Bool) : Option Int := if r.2 = true then none else some r.1
theorem rowO_V (r : Int × Bool) : (if r.2 = true then V.non else .int r.1) = oI (rowO r) := by
  unfold rowO
  split <;> rfl
/-- masts in the order of places -/
def mastsW (n : Nat) (u : Bool) : List Int := (List.range n).map fun p : Nat => plI u n (p : Int)
/-- rows of sign number k, by masts -/
def toldOf (bk : Nat → List (Int × Bool)) (k : Nat) (ms : List Int) : List (Option Int) := ms.flatMap fun m => if k < (bk m.toNat).length then [rowO ((bk m.toNat).getD k (0, false))] else []
def toldP (s : PS) (u : Bool) (k : Nat) : List (Option Int) := toldOf (s.bk u) k (mastsW s.n u)
/-- the first place -/
def firstM (n : Nat) (u : Bool) : Nat := (plI u n 0).toNat
theorem toldOf_snoc (bk : Nat → List (Int × Bool)) (k : Nat) (ms : List Int) (m : Int) : toldOf bk k (ms ++ [m]) = toldOf bk k ms ++ (if k < (bk m.toNat).length then [rowO ((bk m.toNat).getD k (0, false))] else []) := by
  unfold toldOf
  rw [List.flatMap_append]
  simp
theorem toldOf_len (bk : Nat → List (Int × Bool)) (k : Nat) : ∀ ms : List Int, (toldOf bk k ms).length ≤ ms.length
  | [] => Nat.le_refl _
  | m :: ms => by
    have := toldOf_len bk k ms
    show ((if k < (bk m.toNat).length then [rowO ((bk m.toNat).getD k (0, false))] else []) ++ toldOf bk k ms).length ≤ _
    rw [List.length_append, List.length_cons]
    split <;> simp <;> omega
theorem toldP_len (s : PS) (u : Bool) (k : Nat) : (toldP s u k).length ≤ s.n := by
  have := toldOf_len (s.bk u) k (mastsW s.n u)
  unfold mastsW at this
  rw [List.length_map, List.length_range] at this
  exact this
def sp_p_State_told_of (P : Program) (w : World) (K : PySem.W.Frag) : Sp := fun vs H Q E => ∃ (a : LA) (c : LC) (s : PS) (wy : Str) (k : Int), vs = [.ref a.s, .str wy, .int k] ∧ StateAt P w K H a c ∧ c.n = s.n ∧ c.row = s.row ∧ s.Ok ∧
  (isWay wy = false → ∀ H', Kp H H' → E (.ref (He.ga K "BadWay")) none H') ∧
  (isWay wy = true → ¬ (0 ≤ k ∧ k < ((s.bk (wayU wy) (firstM s.n (wayU wy))).length : Int)) → ∀ H', Kp H H' → E (.ref (He.ga K "NoRow")) none H') ∧
  (isWay wy = true → (0 ≤ k ∧ k < ((s.bk (wayU wy) (firstM s.n (wayU wy))).length : Int)) → ∀ (r : Addr) (H' : Hp), H r = none → Kp H H' → H' r = some (.lst ((toldP s (wayU wy) k.toNat).map oI)) → Q (.ref r) H')
theorem mastsW_alg (n : Nat) (u : Bool) : mastsW n u = alg u ((List.range n).map fun p => ((p : Nat) : Int)) := by
  unfold mastsW alg
  cases u
  · rw [if_neg (by decide)]
    refine List.ext_getElem? fun i => ?_
    by_cases h : i < n
    · rw [List.getElem?_map, List.getElem?_range h, List.getElem?_reverse (by simpa using h), List.getElem?_map, List.length_map, List.length_range, List.getElem?_range (by omega)]
      show some (plI false (n : Int) (i : Int)) = some (((n - 1 - i : Nat)) : Int)
      unfold plI
      rw [if_neg (by decide)]
      congr 1
      omega
    · rw [List.getElem?_eq_none (by simpa using h), List.getElem?_eq_none (by simpa using h)]
  · rw [if_pos rfl]
    refine List.map_congr_left fun p _ => ?_
    unfold plI
    rw [if_pos rfl]
theorem mastsW_in {n : Nat} {u : Bool} {m : Int} (h : m ∈ mastsW n u) : 0 ≤ m ∧ m < (n : Int) := by
  unfold mastsW at h
  obtain ⟨p, hp, rfl⟩ := List.mem_map.mp h
  have := List.mem_range.mp hp
  exact plI_in (by omega) (by omega)
theorem mastsW_0 {n : Nat} (u : Bool) (h : 1 ≤ n) : (mastsW n u)[0]? = some (firstM n u : Int) := by
  unfold mastsW firstM
  rw [List.getElem?_map, List.getElem?_range (by omega)]
  have := plI_in (u := u) (n := (n : Int)) (m := 0) (by omega) (by omega)
  show some (plI u (n : Int) ((0 : Nat) : Int)) = some _
  congr 1
  show plI u (n : Int) 0 = _
  omega
theorem ok_p_State_told_of (T : Txt K mg) : FnOk P w K mg base (L2.CX P w) 4 T.f_p_State_told_of T.d_p_State_told_of ["self", "way", "number"] (sp_p_State_told_of P w K) := by
  refine T.F_p_State_told_of.okX sc_p_State_told_of (fun vs H Q E h => ?_) (fun cdv A outer s H vs Q E hr h => ?_)
  · obtain ⟨a, c, s, wy, k, rfl, _⟩ := h
    rfl
  · obtain ⟨a, c, s, wy, k, rfl, hS, en, er, ok, qW, qR, q⟩ := h
    refine ⟨_, (pss_cons (ps_set (i := 3) sc_p_State_told_of.nd rfl (by first | exact Or.inl rfl | exact Or.inr rfl) (pe_call (ok_p_along T) (hr.mono (by decide)) rfl T.g_p_along T.F_p_along.kp T.b_p_along .nil (passes_call (takes_of rfl rfl rfl rfl) (fun _ _ _ _ z => z)) (pa_cons (pv 1) (pa_cons (pe_listRg rfl (by rfl) T.m_list (prg_1 (by rfl) T.m_range (pe_meth0 (pv 0) T.cl_State T.M_p_State_size (ok_p_State_size T) (hr.mono (by decide)) T.b_p_State_size .nil pass0))) pa_nil))))
      (pss_cons (ps_expr (pe_meth (pv 0) T.cl_State T.M_p_State_entry (ok_p_State_entry T) (hr.mono (by decide)) T.b_p_State_entry .nil (passes_call (takes_of rfl rfl rfl rfl) (fun _ _ _ _ z => z)) (pa_cons (pv 1) (pa_cons (pe_ix ix_list (pv 3) pe_int (fun _ _ => rfl)) (pa_cons (pv 2) pa_nil)))))
      (pss_cons (ps_set (i := 4) sc_p_State_told_of.nd rfl (by first | exact Or.inl rfl | exact Or.inr rfl) (pe_lst pa_nil))
      (pss_cons (ps_for (passes_of rfl) rfl (pi_list (pv 3)) (pg_name (i := 5) sc_p_State_told_of.nd rfl (by first | exact Or.inl rfl | exact Or.inr rfl))
      (pss_one (ps_if (pt_cmpR op_lt (pv 2) (pe_meth (pv 0) T.cl_State T.M_p_State_count_of (ok_p_State_count_of T) (hr.mono (by decide)) T.b_p_State_count_of .nil pass0 (pa_cons (pv 1) (pa_cons (pv 5) pa_nil))) (nomark _))
      (pss_cons (ps_asg (pe_meth (pv 0) T.cl_State T.M_p_State_entry (ok_p_State_entry T) (hr.mono (by decide)) T.b_p_State_entry .nil (passes_call (takes_of rfl rfl rfl rfl) (fun _ _ _ _ z => z)) (pa_cons (pv 1) (pa_cons (pv 5) (pa_cons (pv 2) pa_nil)))) (pg_tup (n := 2) rfl (pgs_cons (pg_name (i := 6) sc_p_State_told_of.nd rfl (by first | exact Or.inl rfl | exact Or.inr rfl)) (pgs_cons (pg_name (i := 7) sc_p_State_told_of.nd rfl (by first | exact Or.inl rfl | exact Or.inr rfl)) pgs_nil))))
      (pss_one (ps_expr (pe_bm PySem.F.plainAttrs_list PySem.F.slot_list_append PySem.F.type_list_append mt_append (pv 4) (pa_cons (pe_ifExp (pt_val (pv 7)) pe_non (pv 6)) pa_nil)))))
      pss_nil)))
      (pss_one (ps_ret (pv 4))))))), ?_⟩
    obtain ⟨dx, hs⟩ := hS.ob
    have hal : (c.row .arms).length = c.n := by
      rw [er, en]
      show (s.arms.map PyData.int).length = _
      rw [List.length_map]
      exact ok.arms
    have hn := ok.hi
    have hlo := ok.lo
    have nof : ∀ {m : Str}, ¬ m = "phrasebook" → ¬ m = "rows" → (fldS a.R a.B).lookup m = none := fun h1 h2 => fldS_no _ _ h1 h2
    have hrow : ∀ m, c.row (.b (wayU wy) m) = (s.bk (wayU wy) m).map rowD := fun m => by rw [er]; rfl
    refine ⟨_, rfl, _, rfl, a.s, dx, _, rfl, hs, nof (by decide +kernel) (by decide +kernel), a, c, rfl, hS, hal, _, rfl, RgOk.of_le (by decide) (by rw [en]; omega) (by decide) (by omega), fun g ng => ?_⟩
    generalize h_H1 : upd H g _ = H1
    have k_H1 : Kp H H1 := by rw [← h_H1]; exact .new ng
    have q_H1 := (congrFun h_H1 g).symm.trans upd_same
    clear h_H1
    rw [en] at q_H1
    have eg : rgV 0 (s.n : Int) = ((List.range s.n).map fun p => ((p : Nat) : Int)).map V.int := by
      unfold rgV
      rw [List.map_map]
      rw [show ((s.n : Int) - 0).toNat = s.n by omega]
      refine List.map_congr_left fun p _ => ?_
      show V.int (0 + (p : Int)) = V.int (p : Int)
      rw [Int.zero_add]
    rw [eg] at q_H1
    refine ⟨wy, g, _, rfl, SqL.of q_H1, by rw [List.length_map, List.length_map, List.length_range]; omega, fun hw p1 H2 k2 np1 hp1 => ?_, fun c H2 k2 => qW c H2 (k_H1.trans k2)⟩
    have ewy := wayU_N hw
    have hp1 : H2 p1 = some (.lst ((mastsW s.n (wayU wy)).map V.int)) := by
      have e1 := alg_up (wayU wy) (((List.range s.n).map fun p => ((p : Nat) : Int)).map V.int)
      rw [ewy] at e1
      rw [hp1, e1, alg_int, ← mastsW_alg]
    have k02 := k_H1.trans k2
    have hS2 := hS.kp k02
    have hm0 := mastsW_0 (wayU wy) (show 1 ≤ s.n by omega)
    have hin0 := mastsW_in (List.mem_of_getElem? hm0)
    have hg0 : atI ((mastsW s.n (wayU wy)).map V.int) 0 = some (.int (firstM s.n (wayU wy) : Int)) := by
      have := atI_nat (xs := (mastsW s.n (wayU wy)).map V.int) (j := 0) (v := .int (firstM s.n (wayU wy) : Int)) (by rw [List.getElem?_map, hm0]; rfl)
      exact this
    refine ⟨_, rfl, a.s, dx, _, rfl, k02.same _ _ rfl hs, nof (by decide +kernel) (by decide +kernel), _, rfl, _, rfl, p1, _, _, _, rfl, rfl, SqL.of hp1, hg0, _, rfl, a, c, wayU wy, firstM s.n (wayU wy), k, s.bk (wayU wy) (firstM s.n (wayU wy)), by rw [ewy]; rfl, hS2, by rw [en]; omega, hrow _, fun ck r2 H3 k3 _ => ?_, fun ck H3 k3 => qR hw ck H3 (k02.trans k3)⟩
    refine ⟨Nat.zero_le _, fun D nD => ?_⟩
    have k03 := k02.trans k3
    generalize h_H4 : upd H3 D _ = H4
    have k_H4 : Kp H3 H4 := by rw [← h_H4]; exact .new nD
    have q_H4 := (congrFun h_H4 D).symm.trans upd_same
    clear h_H4
    have ek : (k.toNat : Int) = k := Int.toNat_of_nonneg ck.1
    have hp4 := (k3.trans k_H4).same _ _ rfl hp1
    have neD : p1 ≠ D := ne_of_none (k3.same _ _ rfl hp1) nD
    have q := q hw ck
    have ekm : ∀ {m : Int}, m ∈ mastsW s.n (wayU wy) → (m.toNat : Int) = m ∧ m.toNat < c.n := fun h => by
      have := mastsW_in h
      omega
    have k0D : H D = none := k03.free _ nD
    refine ⟨_, rfl, p1, rfl, ⟨_, .inl (.inl hp4)⟩, for_list (K := K) (a := p1) (xs := (mastsW s.n (wayU wy)).map V.int) (fun i σ H' => ∃ (y1 y2 y3 : Option V), σ = [some (.ref a.s), some (.str wy), some (.int k), some (.ref p1), some (.ref D), y1, y2, y3] ∧ Kp H H' ∧ KpE [D] H4 H' ∧ H' D = some (.lst ((toldOf (s.bk (wayU wy)) k.toNat ((mastsW s.n (wayU wy)).take i)).map oI)))
      ⟨none, none, none, rfl, k03.trans k_H4, .of (.refl _), q_H4⟩ (fun i σ H' _ ⟨_, _, _, _, _, ke, _⟩ => .inl (.inl (ke.same _ _ rfl (fun m => neD (List.mem_singleton.mp m)) hp4))) ?_ ?_⟩
    · rintro i v σ H' hi ⟨y1, y2, y3, rfl, kp, ke, hF'⟩
      obtain ⟨m, hm, rfl, emi⟩ := mem_ints hi
      obtain ⟨em, hmn⟩ := ekm hm
      have hsn : toldOf (s.bk (wayU wy)) k.toNat ((mastsW s.n (wayU wy)).take (i + 1)) = toldOf (s.bk (wayU wy)) k.toNat ((mastsW s.n (wayU wy)).take i) ++ (if k.toNat < (s.bk (wayU wy) m.toNat).length then [rowO ((s.bk (wayU wy) m.toNat).getD k.toNat (0, false))] else []) := by
        rw [take_snoc emi, toldOf_snoc]
      have hfl : (toldOf (s.bk (wayU wy)) k.toNat ((mastsW s.n (wayU wy)).take i)).length ≤ 12 := by
        have h1 := toldOf_len (s.bk (wayU wy)) k.toNat ((mastsW s.n (wayU wy)).take i)
        have h2 : (mastsW s.n (wayU wy)).length = s.n := by unfold mastsW; rw [List.length_map, List.length_range]
        rw [List.length_take] at h1
        omega
      refine ⟨_, rfl, _, rfl, a.s, dx, _, rfl, kp.same _ _ rfl hs, nof (by decide +kernel) (by decide +kernel), _, rfl, _, rfl, a, c, wayU wy, m.toNat, _, by rw [ewy, em]; rfl, hS.kp kp, hmn, hrow _, fun H5 k5 => ?_⟩
      rw [List.length_map]
      refine ⟨_, _, rfl, rfl, _, rfl, iteD (fun cl => ?_) (fun cl => ?_)⟩
      · rw [if_pos (by omega)] at hsn
        have kp5 := kp.trans k5
        refine ⟨_, rfl, a.s, dx, _, rfl, kp5.same _ _ rfl hs, nof (by decide +kernel) (by decide +kernel), _, rfl, _, rfl, _, rfl, a, c, wayU wy, m.toNat, k, s.bk (wayU wy) m.toNat, by rw [ewy, em]; rfl, hS.kp kp5, hmn, hrow _, fun _ r6 H6 k6 hr6 => ?_, fun nc => absurd ⟨ck.1, cl⟩ nc⟩
        refine ⟨r6, _, rfl, hr6, rfl, _, _, rfl, _, _, rfl, rfl, ?_⟩
        have k46 := k5.trans k6
        refine ⟨_, rfl, .inl ⟨rfl, _, .inl (.inl (k46.same _ _ rfl hF'))⟩, ?_⟩
        have hF6 := k46.same _ _ rfl hF'
        have fin : ∀ v, v = oI (rowO ((s.bk (wayU wy) m.toNat).getD k.toNat (0, false))) → upd H6 D (.lst ((toldOf (s.bk (wayU wy)) k.toNat ((mastsW s.n (wayU wy)).take i)).map oI ++ [v])) D = some (.lst ((toldOf (s.bk (wayU wy)) k.toNat ((mastsW s.n (wayU wy)).take (i + 1))).map oI)) := by
          rintro v rfl
          rw [upd_same, hsn, List.map_append]
          rfl
        have ke6 : ∀ v : V, KpE [D] H4 (upd H6 D (.lst ((toldOf (s.bk (wayU wy)) k.toNat ((mastsW s.n (wayU wy)).take i)).map oI ++ [v]))) := fun v => (ke.trans (KpE.of k46)).trans (KpE.put hF6 rfl List.mem_cons_self)
        have lz : ((toldOf (s.bk (wayU wy)) k.toNat ((mastsW s.n (wayU wy)).take i)).map oI).length < sizeLine := szt (by rw [List.length_map]; omega)
        rcases Bool.eq_false_or_eq_true ((s.bk (wayU wy) m.toNat).getD k.toNat (0, false)).2 with eb | eb
        · have eo : V.non = oI (rowO ((s.bk (wayU wy) m.toNat).getD k.toNat (0, false))) := by unfold rowO; rw [if_pos eb]; rfl
          rw [eb]
          exact ⟨_, rfl, _, rfl, iteTo rfl ⟨D, _, _, rfl, rfl, hF6, lz, _, _, _, rfl, (kp5.trans k6).mut k0D, ke6 _, fin _ eo⟩⟩
        · have eo : V.int ((s.bk (wayU wy) m.toNat).getD k.toNat (0, false)).1 = oI (rowO ((s.bk (wayU wy) m.toNat).getD k.toNat (0, false))) := by unfold rowO; rw [if_neg (by rw [eb]; decide)]; rfl
          rw [eb]
          exact ⟨_, rfl, _, rfl, iteFo rfl ⟨_, rfl, D, _, _, rfl, rfl, hF6, lz, _, _, _, rfl, (kp5.trans k6).mut k0D, ke6 _, fin _ eo⟩⟩
      · rw [if_neg (by omega), List.append_nil] at hsn
        exact ⟨_, _, _, rfl, kp.trans k5, ke.trans (KpE.of k5), by rw [hsn]; exact k5.same _ _ rfl hF'⟩
    · rintro σ H' ⟨y1, y2, y3, rfl, kp, ke, hF'⟩
      rw [List.length_map, List.take_length] at hF'
      exact ⟨_, rfl, q D H' k0D kp hF'⟩
/-! ### rows lost, books burnt, keepers asked -/
def PS.setbk (s : PS) (u : Bool) (m : Nat) (rs : List (Int × Bool)) : PS := { s with bk := fun v j => if v = u ∧ j = m then rs else s.bk v j }
theorem setbk_row (s : PS) (u : Bool) (m : Nat) (rs : List (Int × Bool)) (y : RK) : (s.setbk u m rs).row y = if y = .b u m then rs.map rowD else s.row y := by
  cases y with
  | b v j =>
    show (if v = u ∧ j = m then rs else s.bk v j).map rowD = _
    by_cases z : v = u ∧ j = m
    · rw [if_pos z, if_pos (by rw [z.1, z.2])]
    · rw [if_neg z, if_neg (fun e => z (by injection e with e1 e2; exact ⟨e1, e2⟩))]
      rfl
  | _ => rw [if_neg (by intro z; cases z)]; rfl
theorem setbk_ok {s : PS} (o : s.Ok) (u : Bool) (m : Nat) (rs : List (Int × Bool)) : (s.setbk u m rs).Ok := ⟨o.lo, o.hi, o.arms, o.sl, o.fg, o.q⟩
theorem rowD_nl (r : Int × Bool) : Nl (rowD r) := .tup fun d hd => by
  simp only [List.mem_cons, List.not_mem_nil, or_false] at hd
  rcases hd with rfl | rfl
  · exact .int _
  · exact .bl _
def inM (s : PS) (m : Int) : Bool := decide (0 ≤ m ∧ m < (s.n : Int))
theorem inM_yes {s : PS} {m : Int} : inM s m = true ↔ 0 ≤ m ∧ m < (s.n : Int) := decide_eq_true_iff
theorem inM_no {s : PS} {m : Int} : inM s m = false ↔ ¬ (0 ≤ m ∧ m < (s.n : Int)) := decide_eq_false_iff_not
def endM (s : PS) (m : Int) : Bool := decide (m = 0 ∨ m = (s.n : Int) - 1)
def rowN (s : PS) (wy : Str) (m : Int) : List (Int × Bool) := s.bk (wayU wy) m.toNat
def inK (s : PS) (wy : Str) (m k : Int) : Bool := decide (0 ≤ k ∧ k < ((rowN s wy m).length : Int))
theorem inK_yes {s : PS} {wy : Str} {m k : Int} : inK s wy m k = true ↔ 0 ≤ k ∧ k < ((rowN s wy m).length : Int) := decide_eq_true_iff
theorem inK_no {s : PS} {wy : Str} {m k : Int} : inK s wy m k = false ↔ ¬ (0 ≤ k ∧ k < ((rowN s wy m).length : Int)) := decide_eq_false_iff_not
def rowK (s : PS) (wy : Str) (m k : Int) : Int × Bool := (rowN s wy m).getD k.toNat (0, false)
def burnV (s : PS) (m : Int) : Option Str := if inM s m = false then some "NoMast" else if endM s m = true then some "NoBook" else none
def loseV (s : PS) (wy : Str) (m k : Int) : Option Str := if isWay wy = false then some "BadWay" else if inM s m = false then some "NoMast" else if endM s m = true then some "NoBook" else if inK s wy m k = false then some "NoRow" else if (rowK s wy m k).2 = true then some "Lost" else none
def askV (s : PS) (wy : Str) (m k : Int) : Option Str := if isWay wy = false then some "BadWay" else if inM s m = false then some "NoMast" else if inK s wy m k = false then some "NoRow" else if (rowK s wy m k).2 = false then some "Legible" else none
def deedB (nm wy : Str) (m k : Int) : PyData := .tuple [.str nm, .str wy, .int m, .int k]
theorem deedB_nl (nm wy : Str) (m k : Int) : Nl (deedB nm wy m k) := .tup fun d hd => by
  simp only [List.mem_cons, List.not_mem_nil, or_false] at hd
  rcases hd with rfl | rfl | rfl | rfl
  · exact .str _
  · exact .str _
  · exact .int _
  · exact .int _
def bookCh (s : PS) (wy : Str) (m k : Int) (b : Bool) : List Ch := [.row (.b (wayU wy) m.toNat) k.toNat [rowD ((rowK s wy m k).1, !b)] [rowD ((rowK s wy m k).1, b)]]
def PS.booked (s : PS) (wy : Str) (m k : Int) (b : Bool) : PS := s.setbk (wayU wy) m.toNat ((rowN s wy m).set k.toNat ((rowK s wy m k).1, b))
def bookL (x : LS) (a' : LA) (nm wy : Str) (m k : Int) (b : Bool) : LS := ⟨a', x.s.booked wy m k b, x.ws, x.past ++ [(deedB nm wy m k, bookCh x.s wy m k b)], []⟩
theorem booked_row (s : PS) {wy : Str} {m k : Int} (b : Bool) (hk : inK s wy m k = true) (y : RK) : (s.booked wy m k b).row y = if y = .b (wayU wy) m.toNat then (s.row (.b (wayU wy) m.toNat)).take k.toNat ++ [rowD ((rowK s wy m k).1, b)] ++ (s.row (.b (wayU wy) m.toNat)).drop (k.toNat + 1) else s.row y := by
  unfold PS.booked
  rw [setbk_row]
  have h := inK_yes.mp hk
  rw [set_map rowD _ _ _ (by omega)]
  rfl
def sp_p_State_check_book (P : Program) (w : World) (K : PySem.W.Frag) : Sp := fun vs H Q E => ∃ (a : LA) (c : LC) (m : Int), vs = [.ref a.s, .int m] ∧ StateAt P w K H a c ∧ (c.row .arms).length = c.n ∧
  (¬ (0 ≤ m ∧ m < (c.n : Int)) → ∀ H', Kp H H' → E (.ref (He.ga K "NoMast")) none H') ∧
  (0 ≤ m ∧ m < (c.n : Int) → (m = 0 ∨ m = (c.n : Int) - 1) → ∀ H', Kp H H' → E (.ref (He.ga K "NoBook")) none H') ∧
  (0 ≤ m ∧ m < (c.n : Int) → ¬ (m = 0 ∨ m = (c.n : Int) - 1) → ∀ H', Kp H H' → Q .non H')
theorem ok_p_State_check_book (T : Txt K mg) : FnOk P w K mg base (L2.CX P w) 4 T.f_p_State_check_book T.d_p_State_check_book ["self", "mast"] (sp_p_State_check_book P w K) := by
  refine T.F_p_State_check_book.okX sc_p_State_check_book (fun vs H Q E h => ?_) (fun cdv A outer s H vs Q E hr h => ?_)
  · obtain ⟨a, c, m, rfl, _⟩ := h
    rfl
  · obtain ⟨a, c, m, rfl, hS, hl, q1, q2, q⟩ := h
    refine ⟨_, (pss_cons (ps_expr (pe_meth (pv 0) T.cl_State T.M_p_State_check_mast (ok_p_State_check_mast T) (hr.mono (by decide)) T.b_p_State_check_mast .nil (passes_call (takes_of rfl rfl rfl rfl) (fun _ _ _ _ z => z)) (pa_cons (pv 1) pa_nil)))
      (pss_one (ps_if (pt_cmpR op_in_seq (pv 1) (pe_tup (pa_cons pe_int (pa_cons (pe_op op_sub (pe_meth0 (pv 0) T.cl_State T.M_p_State_size (ok_p_State_size T) (hr.mono (by decide)) T.b_p_State_size .nil pass0) pe_int) pa_nil))) rfl)
      (pss_one (ps_raise rfl (takes_of rfl rfl rfl rfl) (pmk_own PySem.F.excBase_ValueError T.x_NoBook T.g_NoBook T.k_NoBook (raises_own T.b_NoBook T.t_NoBook) rfl)))
      pss_nil))), ?_⟩
    obtain ⟨dx, hs⟩ := hS.ob
    refine ⟨_, rfl, a.s, dx, _, rfl, hs, fldS_no _ _ (by decide +kernel) (by decide +kernel), _, rfl, a, c, m, rfl, hS, hl, fun c1 => ?_, fun c1 => q1 c1 H (.refl _)⟩
    refine ⟨_, rfl, _, rfl, a.s, dx, _, rfl, hs, fldS_no _ _ (by decide +kernel) (by decide +kernel), a, c, rfl, hS, hl, _, _, rfl, rfl, szl (by show 2 ≤ 100000; decide), fun t nt => ?_⟩
    generalize h_H1 : upd H t _ = H1
    have k_H1 : Kp H H1 := by rw [← h_H1]; exact .new nt
    have q_H1 := (congrFun h_H1 t).symm.trans upd_same
    clear h_H1
    refine ⟨t, _, rfl, .inr (.inl (.inl q_H1)), rfl, rfl, _, rfl, iteB (fun c2 => ?_) (fun c2 => ?_)⟩
    · have c2 : inV (.int m) ([0, (c.n : Int) - 1].map V.int) = true := c2
      rw [inV_ints, decide_eq_true_iff] at c2
      simp only [List.mem_cons, List.not_mem_nil, or_false] at c2
      exact q2 c1 c2 H1 k_H1
    · have c2 : inV (.int m) ([0, (c.n : Int) - 1].map V.int) = false := c2
      rw [inV_ints, decide_eq_false_iff_not] at c2
      simp only [List.mem_cons, List.not_mem_nil, or_false] at c2
      exact q c1 c2 H1 k_H1
theorem bk_fits {x : LS} (ok : x.s.Ok) {wy : Str} {m k : Int} (b : Bool) (h : inM x.s m = true) (hk : inK x.s wy m k = true) (hB : ∀ u i, (x.s.bk u i).length ≤ 9000) : FitsC x.c (bookCh x.s wy m k b) := by
  have h := inM_yes.mp h
  have hk := inK_yes.mp hk
  have hb := hB (wayU wy) m.toNat
  unfold rowN at hk
  refine ⟨⟨key_b _ (by show m.toNat < x.s.n; omega), ?_, ?_⟩, trivial⟩
  · show k.toNat + 1 ≤ ((x.s.bk (wayU wy) m.toNat).map rowD).length
    rw [List.length_map]
    omega
  · show ((x.s.bk (wayU wy) m.toNat).map rowD).length + 1 ≤ 10000
    rw [List.length_map]
    omega
theorem bk_ch {K : PySem.W.Frag} {H : Hp} {s : PS} {wy : Str} {m k : Int} {b : Bool} {t4 t t1 t2 r1 r2 : Addr} (hw : isWay wy = true) (h0 : 0 ≤ m) (hk0 : 0 ≤ k) (h4 : H t4 = some (.tup [.ref t, .int k, .ref t1, .ref t2])) (ht : H t = some (.tup [.str "book", .str wy, .int m])) (h1 : H t1 = some (.tup [.ref r1])) (h2 : H t2 = some (.tup [.ref r2]))
    (g1 : H r1 = some (.tup [.int (rowK s wy m k).1, .bl (!b)])) (g2 : H r2 = some (.tup [.int (rowK s wy m k).1, .bl b])) : ChsAt K H [.ref t4] (bookCh s wy m k b) := by
  have ek : (k.toNat : Int) = k := Int.toNat_of_nonneg hk0
  have em : (m.toNat : Int) = m := Int.toNat_of_nonneg h0
  refine ⟨⟨⟨fun d hd => ?_, fun d hd => ?_⟩, .ref t, .int k, .ref t1, .ref t2, ⟨t4, rfl, .inl (.inl h4)⟩, ⟨t, rfl, ?_⟩, by rw [ek], ⟨[.ref r1], ⟨t1, rfl, .inl (.inl h1)⟩, .cons (.tup (.inl (.inl g1)) (.cons (.int _) (.cons (.bl _) .nil))) .nil⟩, [.ref r2], ⟨t2, rfl, .inl (.inl h2)⟩, .cons (.tup (.inl (.inl g2)) (.cons (.int _) (.cons (.bl _) .nil))) .nil⟩, trivial⟩
  · rw [List.mem_singleton.mp hd]; exact rowD_nl _
  · rw [List.mem_singleton.mp hd]; exact rowD_nl _
  · rw [ht]
    show some (HO.tup [V.str "book", V.str wy, V.int m]) = some (HO.tup [V.str "book", V.str (wayN (wayU wy)), V.int (m.toNat : Int)])
    rw [wayU_N hw, em]
def sp_p_Line_lose (T : Txt K mg) (P : Program) (w : World) : Sp := fun vs H Q E => ∃ (L : Addr) (x : LS) (wy : Str) (m k : Int), vs = [.ref L, .str wy, .int m, .int k] ∧ LineP P w K H L x ∧ x.past.length < 9000 ∧ (∀ u i, (x.s.bk u i).length ≤ 9000) ∧ GxR.TabG H T.P_tab ∧
  (∀ e, loseV x.s wy m k = some e → ∀ H', Kp H H' → E (.ref (He.ga K e)) none H') ∧
  (loseV x.s wy m k = none → ∀ a' H', Went P w K H H' L x (bookL x a' "lose" wy m k true) → Q .non H')
theorem ok_p_Line_lose (T : Txt K mg) (TB : GxR.TabB base mg T.c_tab T.P_tab) : FnOk P w K mg base (L2.CX P w) 10 T.f_p_Line_lose T.d_p_Line_lose ["self", "way", "mast", "number"] (sp_p_Line_lose T P w) := by
  refine T.F_p_Line_lose.okX sc_p_Line_lose (fun vs H Q E h => ?_) (fun cdv A outer s H vs Q E hr h => ?_)
  · obtain ⟨L, x, wy, m, k, rfl, _⟩ := h
    rfl
  · obtain ⟨L, x, wy, m, k, rfl, hL, hpa, hB, hT, qE, q⟩ := h
    refine ⟨_, (pss_cons (ps_expr (pe_call (ok_p_check_way T) (hr.mono (by decide)) rfl T.g_p_check_way T.F_p_check_way.kp T.b_p_check_way .nil (passes_call (takes_of rfl rfl rfl rfl) (fun _ _ _ _ z => z)) (pa_cons (pv 1) pa_nil)))
      (pss_cons (ps_expr (pe_meth (pe_fld (pv 0) rfl) T.cl_State T.M_p_State_check_book (ok_p_State_check_book T) (hr.mono (by decide)) T.b_p_State_check_book .nil (passes_call (takes_of rfl rfl rfl rfl) (fun _ _ _ _ z => z)) (pa_cons (pv 2) pa_nil)))
      (pss_cons (ps_asg (pe_meth (pe_fld (pv 0) rfl) T.cl_State T.M_p_State_entry (ok_p_State_entry T) (hr.mono (by decide)) T.b_p_State_entry .nil (passes_call (takes_of rfl rfl rfl rfl) (fun _ _ _ _ z => z)) (pa_cons (pv 1) (pa_cons (pv 2) (pa_cons (pv 3) pa_nil)))) (pg_tup (n := 2) rfl (pgs_cons (pg_name (i := 4) sc_p_Line_lose.nd rfl (by first | exact Or.inl rfl | exact Or.inr rfl)) (pgs_cons (pg_name (i := 5) sc_p_Line_lose.nd rfl (by first | exact Or.inl rfl | exact Or.inr rfl)) pgs_nil))))
      (pss_cons (ps_if (pt_val (pv 5))
      (pss_one (ps_raise rfl (takes_of rfl rfl rfl rfl) (pmk_own PySem.F.excBase_ValueError T.x_Lost T.g_Lost T.k_Lost (raises_own T.b_Lost T.t_Lost) rfl)))
      pss_nil)
      (pss_one (ps_expr (pe_meth (pv 0) T.cl_Line T.M_p_Line_do (ok_p_Line_do T TB) (hr.mono (by decide)) T.b_p_Line_do .nil (passes_call (takes_of rfl rfl rfl rfl) (fun _ _ _ _ z => z)) (pa_cons (pe_tup (pa_cons pe_str (pa_cons (pv 1) (pa_cons (pv 2) (pa_cons (pv 3) pa_nil))))) (pa_cons (pe_lst (pa_cons (pe_tup (pa_cons (pe_call (ok_p_book_of T) (hr.mono (by decide)) rfl T.g_p_book_of T.F_p_book_of.kp T.b_p_book_of .nil pass0 (pa_cons (pv 1) (pa_cons (pv 2) pa_nil))) (pa_cons (pv 3) (pa_cons (pe_tup (pa_cons (pe_tup (pa_cons (pv 4) (pa_cons pe_bl pa_nil))) pa_nil)) (pa_cons (pe_tup (pa_cons (pe_tup (pa_cons (pv 4) (pa_cons pe_bl pa_nil))) pa_nil)) pa_nil))))) pa_nil)) pa_nil))))))))), ?_⟩
    obtain ⟨dx, hl⟩ := hL.at_.ob
    obtain ⟨dxs, hs⟩ := hL.at_.st.ob
    have lno : ∀ {nm : Str}, ¬ nm = "future" → ¬ nm = "past" → ¬ nm = "state" → (fldL x.a.s x.a.p x.a.f).lookup nm = none := fun h1 h2 h3 => fldL_no _ _ _ h1 h2 h3
    have ok := hL.ok
    refine ⟨_, rfl, wy, rfl, fun hw H1 k1 => ?_, fun c H1 k1 => qE "BadWay" (if_pos c) H1 k1⟩
    have v1 : loseV x.s wy m k = if inM x.s m = false then some ("NoMast" : Str) else if endM x.s m = true then some ("NoBook" : Str) else if inK x.s wy m k = false then some ("NoRow" : Str) else if (rowK x.s wy m k).2 = true then some ("Lost" : Str) else none := if_neg (by rw [hw]; decide)
    refine ⟨_, rfl, L, _, dx, _, _, rfl, k1.same _ _ rfl hl, T.cl_Line, T.n_Line_state, fldL_state _ _ _, x.a.s, dxs, _, rfl, k1.same _ _ rfl hs, fldS_no _ _ (by decide +kernel) (by decide +kernel), _, rfl, x.a, x.c, m, rfl, (hL.kp k1).at_.st, arms_len ok, fun c H2 k2 => qE "NoMast" (by rw [v1, if_pos (inM_no.mpr c)]) H2 (k1.trans k2), fun c c2 H2 k2 => qE "NoBook" (by rw [v1, if_neg (by rw [inM_yes.mpr c]; decide), if_pos (show endM x.s m = true from decide_eq_true c2)]) H2 (k1.trans k2), fun c c2 H2 k2 => ?_⟩
    have cI : inM x.s m = true := inM_yes.mpr c
    have c : 0 ≤ m ∧ m < (x.s.n : Int) := c
    rw [if_neg (by rw [cI]; decide), if_neg (by show ¬ endM x.s m = true; unfold endM; rw [decide_eq_true_iff]; exact c2)] at v1
    have k02 := k1.trans k2
    have em : (m.toNat : Int) = m := Int.toNat_of_nonneg c.1
    refine ⟨_, rfl, L, _, dx, _, _, rfl, k02.same _ _ rfl hl, T.cl_Line, T.n_Line_state, fldL_state _ _ _, x.a.s, dxs, _, rfl, k02.same _ _ rfl hs, fldS_no _ _ (by decide +kernel) (by decide +kernel), _, rfl, _, rfl, _, rfl, x.a, x.c, wayU wy, m.toNat, k, x.s.bk (wayU wy) m.toNat, by rw [wayU_N hw, em]; rfl, (hL.kp k02).at_.st, by show m.toNat < x.s.n; omega, rfl, fun ck r H3 k3 hr3 => ?_, fun ck H3 k3 => qE "NoRow" (by rw [v1, if_pos (inK_no.mpr ck)]) H3 (k02.trans k3)⟩
    have cK : inK x.s wy m k = true := inK_yes.mpr ck
    rw [if_neg (by rw [cK]; decide)] at v1
    refine ⟨r, _, rfl, hr3, rfl, _, _, rfl, _, _, rfl, rfl, ?_⟩
    have k03 := k02.trans k3
    by_cases cl : (rowK x.s wy m k).2 = true
    · have cl' : ((x.s.bk (wayU wy) m.toNat).getD k.toNat (0, false)).2 = true := cl
      rw [cl']
      exact ⟨_, rfl, _, rfl, iteTo rfl (qE "Lost" (by rw [v1, if_pos cl]) H3 k03)⟩
    have cl' : ((x.s.bk (wayU wy) m.toNat).getD k.toNat (0, false)).2 = false := Bool.eq_false_iff.mpr cl
    rw [if_neg cl] at v1
    rw [cl']
    refine ⟨_, rfl, _, rfl, iteFo rfl ?_⟩
    have hk0 : 0 ≤ k := ck.1
    refine ⟨_, rfl, L, dx, _, rfl, k03.same _ _ rfl hl, lno (by decide +kernel) (by decide +kernel) (by decide +kernel), _, rfl, _, rfl, _, rfl, szl (by show 4 ≤ 100000; decide), fun D nD => ?_⟩
    generalize h_H4 : upd H3 D _ = H4
    have k_H4 : Kp H3 H4 := by rw [← h_H4]; exact .new nD
    have q_H4 := (congrFun h_H4 D).symm.trans upd_same
    clear h_H4
    refine ⟨_, rfl, _, rfl, wy, m, rfl, fun t H5 nt k5 ht => ?_⟩
    refine ⟨_, rfl, _, rfl, szl (by show 2 ≤ 100000; decide), fun r1 nr1 => ?_⟩
    generalize h_H6 : upd H5 r1 _ = H6
    have k_H6 : Kp H5 H6 := by rw [← h_H6]; exact .new nr1
    have q_H6 := (congrFun h_H6 r1).symm.trans upd_same
    clear h_H6
    refine ⟨szl (by show 1 ≤ 100000; decide), fun t1 nt1 => ?_⟩
    generalize h_H7 : upd H6 t1 _ = H7
    have k_H7 : Kp H6 H7 := by rw [← h_H7]; exact .new nt1
    have q_H7 := (congrFun h_H7 t1).symm.trans upd_same
    clear h_H7
    refine ⟨_, rfl, szl (by show 2 ≤ 100000; decide), fun r2 nr2 => ?_⟩
    generalize h_H8 : upd H7 r2 _ = H8
    have k_H8 : Kp H7 H8 := by rw [← h_H8]; exact .new nr2
    have q_H8 := (congrFun h_H8 r2).symm.trans upd_same
    clear h_H8
    refine ⟨szl (by show 1 ≤ 100000; decide), fun t2 nt2 => ?_⟩
    generalize h_H9 : upd H8 t2 _ = H9
    have k_H9 : Kp H8 H9 := by rw [← h_H9]; exact .new nt2
    have q_H9 := (congrFun h_H9 t2).symm.trans upd_same
    clear h_H9
    refine ⟨szl (by show 4 ≤ 100000; decide), fun t4 nt4 => ?_⟩
    generalize h_H10 : upd H9 t4 _ = H10
    have k_H10 : Kp H9 H10 := by rw [← h_H10]; exact .new nt4
    have q_H10 := (congrFun h_H10 t4).symm.trans upd_same
    clear h_H10
    refine ⟨szl (by show 1 ≤ 100000; decide), fun cL ncL => ?_⟩
    generalize h_H11 : upd H10 cL _ = H11
    have k_H11 : Kp H10 H11 := by rw [← h_H11]; exact .new ncL
    have q_H11 := (congrFun h_H11 cL).symm.trans upd_same
    clear h_H11
    have k911 := k_H10.trans k_H11
    have k811 := k_H9.trans k911
    have k711 := k_H8.trans k811
    have k611 := k_H7.trans k711
    have k511 := k_H6.trans k611
    have k411 := k5.trans k511
    have k410 := (k5.trans k_H6).trans (((k_H7.trans k_H8).trans k_H9).trans k_H10)
    have kB := (k03.trans k_H4).trans k410
    have kA := (k03.trans k_H4).trans k411
    have hch : ChsAt K H11 [.ref t4] (bookCh x.s wy m k true) := bk_ch hw c.1 hk0 (k_H11.same _ _ rfl q_H10) (k511.same _ _ rfl ht) (k711.same _ _ rfl q_H7) (k911.same _ _ rfl q_H9) (k611.same _ _ rfl q_H6) (k811.same _ _ rfl q_H8)
    have fcl : cL ∉ footL L x.a x.s.n := SqL.not_foot (hL.kp kB).at_ ncL
    have hfit := bk_fits ok true cI cK hB
    refine ⟨L, x.a, x.c, .ref D, deedB "lose" wy m k, cL, [.ref t4], bookCh x.s wy m k true, rfl, (hL.kp kA).at_, .tup (.inl (.inl (k411.same _ _ rfl q_H4))) (.cons (.str _) (.cons (.str _) (.cons (.int _) (.cons (.int _) .nil)))), deedB_nl _ _ _ _, .inl (.inl q_H11), fcl, hch, hpa, (by show 1 < 9000; decide), kA.tab _ hT, fun _ a' H' g => ?_, fun nf => absurd hfit nf⟩
    exact q v1 a' H' (Went.pre kA (Went.of g (did_row (s' := x.s.booked wy m k true) rfl (booked_row x.s true cK)) (setbk_ok ok _ _ _)))
def sp_p_Line_ask (T : Txt K mg) (P : Program) (w : World) : Sp := fun vs H Q E => ∃ (L : Addr) (x : LS) (wy : Str) (m k : Int), vs = [.ref L, .str wy, .int m, .int k] ∧ LineP P w K H L x ∧ x.past.length < 9000 ∧ (∀ u i, (x.s.bk u i).length ≤ 9000) ∧ GxR.TabG H T.P_tab ∧
  (∀ e, askV x.s wy m k = some e → ∀ H', Kp H H' → E (.ref (He.ga K e)) none H') ∧
  (askV x.s wy m k = none → ∀ a' H', Went P w K H H' L x (bookL x a' "ask" wy m k false) → Q (.int (rowK x.s wy m k).1) H')
def PS.burnt (s : PS) (m : Nat) : PS := { s with bk := fun v j => if j = m then (s.bk v j).map (fun r => (r.1, true)) else s.bk v j }
theorem burnt_ok {s : PS} (o : s.Ok) (m : Nat) : (s.burnt m).Ok := ⟨o.lo, o.hi, o.arms, o.sl, o.fg, o.q⟩
def burn1 (s : PS) (m : Nat) (u : Bool) : Ch := .row (.b u m) 0 ((s.bk u m).map rowD) (((s.bk u m).map fun r => (r.1, true)).map rowD)
def burnCh (s : PS) (m : Int) : List Ch := [burn1 s m.toNat true, burn1 s m.toNat false]
def burntL (x : LS) (a' : LA) (m : Int) : LS := ⟨a', x.s.burnt m.toNat, x.ws, x.past ++ [(deed1 "burn" m, burnCh x.s m)], []⟩
theorem burn_off (x : LS) (m : Int) : (x.c.app (burn1 x.s m.toNat true)).row (.b false m.toNat) = (x.s.bk false m.toNat).map rowD := by
  show (if RK.b false m.toNat = RK.b true m.toNat then ((x.s.row (.b true m.toNat)).take 0 ++ ((x.s.bk true m.toNat).map fun r => (r.1, true)).map rowD ++ (x.s.row (.b true m.toNat)).drop (0 + ((x.s.bk true m.toNat).map rowD).length)) else x.s.row (.b false m.toNat)) = _
  rw [if_neg (by intro h; injection h with h _; cases h)]
  rfl
theorem burn_fits {x : LS} {m : Int} (h : 0 ≤ m ∧ m < (x.s.n : Int)) (hB : ∀ u i, (x.s.bk u i).length ≤ 5000) : FitsC x.c (burnCh x.s m) := by
  have h1 := hB true m.toNat
  have h2 := hB false m.toNat
  refine ⟨⟨key_b _ (by show m.toNat < x.s.n; omega), ?_, ?_⟩, ⟨key_b _ (by rw [app_n]; show m.toNat < x.s.n; omega), ?_, ?_⟩, trivial⟩
  · show 0 + ((x.s.bk true m.toNat).map rowD).length ≤ ((x.s.bk true m.toNat).map rowD).length
    omega
  · show ((x.s.bk true m.toNat).map rowD).length + (((x.s.bk true m.toNat).map fun r => (r.1, true)).map rowD).length ≤ 10000
    simp only [List.length_map]
    omega
  · rw [burn_off]
    show 0 + ((x.s.bk false m.toNat).map rowD).length ≤ ((x.s.bk false m.toNat).map rowD).length
    omega
  · rw [burn_off]
    show ((x.s.bk false m.toNat).map rowD).length + (((x.s.bk false m.toNat).map fun r => (r.1, true)).map rowD).length ≤ 10000
    simp only [List.length_map]
    omega
theorem burn_did {x : LS} {dd : PyData} (m : Int) : x.c.did dd (burnCh x.s m) = ⟨(x.s.burnt m.toNat).n, (x.s.burnt m.toNat).row, x.ws, x.past ++ [(dd, burnCh x.s m)], []⟩ := by
  have e : ((x.c.app (burn1 x.s m.toNat true)).app (burn1 x.s m.toNat false)).row = (x.s.burnt m.toNat).row := by
    funext y
    show (if y = .b false m.toNat then _ else if y = .b true m.toNat then _ else x.s.row y) = _
    by_cases z : y = .b false m.toNat
    · rw [if_pos z, z]
      show (((x.c.app (burn1 x.s m.toNat true)).row (.b false m.toNat)).take 0 ++ ((x.s.bk false m.toNat).map fun r => (r.1, true)).map rowD ++ ((x.c.app (burn1 x.s m.toNat true)).row (.b false m.toNat)).drop (0 + ((x.s.bk false m.toNat).map rowD).length)) = ((if m.toNat = m.toNat then (x.s.bk false m.toNat).map (fun r => (r.1, true)) else x.s.bk false m.toNat).map rowD)
      have e2 : (x.c.app (burn1 x.s m.toNat true)).row (.b false m.toNat) = (x.s.bk false m.toNat).map rowD := burn_off x m
      rw [e2, if_pos rfl, Nat.zero_add, List.drop_length, List.take_zero, List.append_nil, List.nil_append]
    · rw [if_neg z]
      by_cases z2 : y = .b true m.toNat
      · rw [if_pos z2, z2]
        show ((x.s.bk true m.toNat).map rowD).take 0 ++ ((x.s.bk true m.toNat).map fun r => (r.1, true)).map rowD ++ ((x.s.bk true m.toNat).map rowD).drop (0 + ((x.s.bk true m.toNat).map rowD).length) = ((if m.toNat = m.toNat then (x.s.bk true m.toNat).map (fun r => (r.1, true)) else x.s.bk true m.toNat).map rowD)
        rw [if_pos rfl, Nat.zero_add, List.drop_length, List.take_zero, List.append_nil, List.nil_append]
      · rw [if_neg z2]
        cases y with
        | b v j =>
          show (x.s.bk v j).map rowD = (if j = m.toNat then (x.s.bk v j).map (fun r => (r.1, true)) else x.s.bk v j).map rowD
          rw [if_neg (fun h => by subst h; cases v; exact z rfl; exact z2 rfl)]
        | _ => rfl
  show (⟨x.s.n, ((x.c.app (burn1 x.s m.toNat true)).app (burn1 x.s m.toNat false)).row, x.ws, _, []⟩ : LC) = _
  rw [e]
  rfl
def sp_p_Line_burn (T : Txt K mg) (P : Program) (w : World) : Sp := fun vs H Q E => ∃ (L : Addr) (x : LS) (m : Int), vs = [.ref L, .int m] ∧ LineP P w K H L x ∧ x.past.length < 9000 ∧ (∀ u i, (x.s.bk u i).length ≤ 5000) ∧ GxR.TabG H T.P_tab ∧
  (∀ e, burnV x.s m = some e → ∀ H', Kp H H' → E (.ref (He.ga K e)) none H') ∧
  (burnV x.s m = none → ∀ a' H', Went P w K H H' L x (burntL x a' m) → Q .non H')
/-! ### slips of a line -/
def strI (os : List (Option Int)) : List Nat := strN os (prs os)
def slipR (s : PS) (u : Bool) (os : List (Option Int)) (k : Nat) : PyData := .tuple [.int (plI u s.n (lgA os k : Int)), .int (plI u s.n (lgA os (k + 1) : Int)), .int (valO os (lgA os k)), .int (valO os (lgA os (k + 1)))]
def slipsP (s : PS) (u : Bool) (k : Nat) : List PyData := (strI (toldP s u k)).map (slipR s u (toldP s u k))
theorem slipR_nl (s : PS) (u : Bool) (os : List (Option Int)) (k : Nat) : Nl (slipR s u os k) := .tup fun d hd => by
  simp only [List.mem_cons, List.not_mem_nil, or_false] at hd
  rcases hd with rfl | rfl | rfl | rfl <;> exact .int _
/-- a look at a sign of some number -/
def sp_lookN (f : Bool → PS → Nat → (V → Hp → Prop) → Hp → Prop) (P : Program) (w : World) (K : PySem.W.Frag) : Sp := fun vs H Q E => ∃ (L : Addr) (x : LS) (wy : Str) (k : Int), vs = [.ref L, .str wy, .int k] ∧ LineP P w K H L x ∧
  (isWay wy = false → ∀ H', Kp H H' → E (.ref (He.ga K "BadWay")) none H') ∧
  (isWay wy = true → ¬ (0 ≤ k ∧ k < ((x.s.bk (wayU wy) (firstM x.s.n (wayU wy))).length : Int)) → ∀ H', Kp H H' → E (.ref (He.ga K "NoRow")) none H') ∧
  (isWay wy = true → (0 ≤ k ∧ k < ((x.s.bk (wayU wy) (firstM x.s.n (wayU wy))).length : Int)) → f (wayU wy) x.s k.toNat Q H)
def sp_p_Line_slips (P : Program) (w : World) (K : PySem.W.Frag) : Sp := sp_lookN (fun u s k Q H => ∀ (r : Addr) (xs : List V) (H' : Hp), H r = none → Kp H H' → H' r = some (.lst xs) → DpAll K H' xs (slipsP s u k) → Q (.ref r) H') P w K
def sp_p_Line_askings (P : Program) (w : World) (K : PySem.W.Frag) : Sp := sp_lookN (fun u s k Q H => ∀ H', Kp H H' → Q (.int (hvs (toldP s u k) (strI (toldP s u k))).sum) H') P w K
def toaskP (s : PS) (u : Bool) (k : Nat) : V := match wide (toldP s u k) (strI (toldP s u k)) with
  | [] => .non
  | z :: _ => .int (plI u s.n z)
def sp_p_Line_to_ask (P : Program) (w : World) (K : PySem.W.Frag) : Sp := sp_lookN (fun u s k Q H => ∀ H', Kp H H' → Q (toaskP s u k) H') P w K
theorem lg_in {os : List (Option Int)} {k : Nat} {n : Nat} (hn : 1 ≤ n) (hl : os.length ≤ n) : 0 ≤ (lgA os k : Int) ∧ (lgA os k : Int) < (n : Int) := by
  refine ⟨by omega, ?_⟩
  have : lgA os k < os.length ∨ lgA os k = 0 := by
    unfold lgA
    rw [List.getD_eq_getElem?_getD]
    cases e : (legN os os.length)[k]? with
    | none => exact .inr rfl
    | some z =>
      left
      have := List.mem_of_getElem? e
      unfold legN at this
      exact List.mem_range.mp (List.mem_filter.mp this).1
  omega
theorem ok_p_Line_slips (T : Txt K mg) : FnOk P w K mg base (L2.CX P w) 5 T.f_p_Line_slips T.d_p_Line_slips ["self", "way", "number"] (sp_p_Line_slips P w K) := by
  refine T.F_p_Line_slips.okX sc_p_Line_slips (fun vs H Q E h => ?_) (fun cdv A outer s H vs Q E hr h => ?_)
  · obtain ⟨L, x, wy, k, rfl, _⟩ := h
    rfl
  · obtain ⟨L, x, wy, k, rfl, hL, qW, qR, q⟩ := h
    refine ⟨_, (pss_cons (ps_set (i := 3) sc_p_Line_slips.nd rfl (by first | exact Or.inl rfl | exact Or.inr rfl) (pe_lst pa_nil))
      (pss_cons (ps_for (passes_of rfl) rfl (pi_list (pe_call (ok_p_stretches T) (hr.mono (by decide)) rfl T.g_p_stretches T.F_p_stretches.kp T.b_p_stretches .nil pass0 (pa_cons (pe_meth (pe_fld (pv 0) rfl) T.cl_State T.M_p_State_told_of (ok_p_State_told_of T) (hr.mono (by decide)) T.b_p_State_told_of .nil (passes_call (takes_of rfl rfl rfl rfl) (fun _ _ _ _ z => z)) (pa_cons (pv 1) (pa_cons (pv 2) pa_nil))) pa_nil))) (pg_tup (n := 4) rfl (pgs_cons (pg_name (i := 4) sc_p_Line_slips.nd rfl (by first | exact Or.inl rfl | exact Or.inr rfl)) (pgs_cons (pg_name (i := 5) sc_p_Line_slips.nd rfl (by first | exact Or.inl rfl | exact Or.inr rfl)) (pgs_cons (pg_name (i := 6) sc_p_Line_slips.nd rfl (by first | exact Or.inl rfl | exact Or.inr rfl)) (pgs_cons (pg_name (i := 7) sc_p_Line_slips.nd rfl (by first | exact Or.inl rfl | exact Or.inr rfl)) pgs_nil)))))
      (pss_cons (ps_set (i := 8) sc_p_Line_slips.nd rfl (by first | exact Or.inl rfl | exact Or.inr rfl) (pe_meth0 (pv 0) T.cl_Line T.M_p_Line_masts (ok_p_Line_masts T) (hr.mono (by decide)) T.b_p_Line_masts .nil pass0))
      (pss_one (ps_expr (pe_bm PySem.F.plainAttrs_list PySem.F.slot_list_append PySem.F.type_list_append mt_append (pv 3) (pa_cons (pe_tup (pa_cons (pe_call (ok_p_mast_at T) (hr.mono (by decide)) rfl T.g_p_mast_at T.F_p_mast_at.kp T.b_p_mast_at .nil (passes_call (takes_of rfl rfl rfl rfl) (fun _ _ _ _ z => z)) (pa_cons (pv 1) (pa_cons (pv 8) (pa_cons (pv 4) pa_nil)))) (pa_cons (pe_call (ok_p_mast_at T) (hr.mono (by decide)) rfl T.g_p_mast_at T.F_p_mast_at.kp T.b_p_mast_at .nil (passes_call (takes_of rfl rfl rfl rfl) (fun _ _ _ _ z => z)) (pa_cons (pv 1) (pa_cons (pv 8) (pa_cons (pv 5) pa_nil)))) (pa_cons (pv 6) (pa_cons (pv 7) pa_nil))))) pa_nil))))))
      (pss_one (ps_ret (pv 3))))), ?_⟩
    obtain ⟨dx, hl⟩ := hL.at_.ob
    obtain ⟨dxs, hs⟩ := hL.at_.st.ob
    have hn := hL.ok.hi
    have hlo := hL.ok.lo
    refine ⟨Nat.zero_le _, fun F nF => ?_⟩
    generalize h_H1 : upd H F _ = H1
    have k_H1 : Kp H H1 := by rw [← h_H1]; exact .new nF
    have q_H1 := (congrFun h_H1 F).symm.trans upd_same
    clear h_H1
    refine ⟨_, rfl, L, _, dx, _, _, rfl, k_H1.same _ _ rfl hl, T.cl_Line, T.n_Line_state, fldL_state _ _ _, x.a.s, dxs, _, rfl, k_H1.same _ _ rfl hs, fldS_no _ _ (by decide +kernel) (by decide +kernel), _, rfl, _, rfl, x.a, x.c, x.s, wy, k, rfl, hL.at_.st.kp k_H1, rfl, rfl, hL.ok, fun c H2 k2 => qW c H2 (k_H1.trans k2), fun c c2 H2 k2 => qR c c2 H2 (k_H1.trans k2), fun hw hk r H2 nr k2 hr2 => ?_⟩
    have tl := toldP_len x.s (wayU wy) k.toNat
    have q := q hw hk
    refine ⟨r, toldP x.s (wayU wy) k.toNat, rfl, SqL.of hr2, by omega, fun p ws H3 k3 np hp hws => ?_⟩
    have lno : ∀ {nm : Str}, ¬ nm = "future" → ¬ nm = "past" → ¬ nm = "state" → (fldL x.a.s x.a.p x.a.f).lookup nm = none := fun h1 h2 h3 => fldL_no _ _ _ h1 h2 h3
    have k13 := k2.trans k3
    have k03 := k_H1.trans k13
    have hFp : p ≠ F := fun z => by rw [z, k2.same _ _ rfl q_H1] at np; cases np
    have hwl := DpAll.len hws
    unfold dStrs at hwl
    rw [List.length_map] at hwl
    have sl : (strI (toldP x.s (wayU wy) k.toNat)).length ≤ (toldP x.s (wayU wy) k.toNat).length := str_len (toldP x.s (wayU wy) k.toNat)
    refine ⟨p, rfl, ⟨_, .inl (.inl hp)⟩, for_list (K := K) (a := p) (xs := ws) (fun i σ H' => ∃ (y1 y2 y3 y4 y5 : Option V) (fs : List V), σ = [some (.ref L), some (.str wy), some (.int k), some (.ref F), y1, y2, y3, y4, y5] ∧ Kp H H' ∧ KpE [F] H3 H' ∧ H' F = some (.lst fs) ∧ DpAll K H' fs (((strI (toldP x.s (wayU wy) k.toNat)).take i).map (slipR x.s (wayU wy) (toldP x.s (wayU wy) k.toNat))))
      ⟨none, none, none, none, none, [], rfl, k03, .of (.refl _), k13.same _ _ rfl q_H1, .nil⟩ (fun i σ H' _ ⟨_, _, _, _, _, _, _, _, ke, _⟩ => .inl (.inl (ke.same _ _ rfl (fun m => hFp (List.mem_singleton.mp m)) hp))) ?_ ?_⟩
    · rintro i v σ H' hi ⟨y1, y2, y3, y4, y5, fs, rfl, kp, ke, hF', hd⟩
      obtain ⟨j, hj, dj⟩ := strs_at hws hi
      obtain ⟨t, rfl, st⟩ := dp_quad dj
      have st' : SqT K H' t [.int (lgA (toldP x.s (wayU wy) k.toNat) j : Int), .int (lgA (toldP x.s (wayU wy) k.toNat) (j + 1) : Int), .int (valO (toldP x.s (wayU wy) k.toNat) (lgA (toldP x.s (wayU wy) k.toNat) j)), .int (valO (toldP x.s (wayU wy) k.toNat) (lgA (toldP x.s (wayU wy) k.toNat) (j + 1)))] := (TupK.kpE ke (loose1 ((k13.same _ _ rfl q_H1)) trivial)).sqT st
      have hfl := DpAll.len hd
      rw [List.length_map, List.length_take] at hfl
      have g1 := lg_in (os := toldP x.s (wayU wy) k.toNat) (k := j) (n := x.s.n) (by omega) tl
      have g2 := lg_in (os := toldP x.s (wayU wy) k.toNat) (k := j + 1) (n := x.s.n) (by omega) tl
      refine ⟨t, _, rfl, st', rfl, _, _, rfl, _, _, rfl, _, _, rfl, _, _, rfl, rfl, ?_⟩
      refine ⟨_, rfl, L, dx, _, rfl, kp.same _ _ rfl hl, lno (by decide +kernel) (by decide +kernel) (by decide +kernel), L, x, rfl, hL.kp kp, ?_⟩
      refine ⟨_, rfl, .inl ⟨rfl, _, .inl (.inl hF')⟩, ?_⟩
      refine ⟨_, rfl, _, rfl, _, rfl, wy, _, _, wayU wy, rfl, fun h => (wayU_N h).symm, g1.1, g1.2, fun _ H4 k4 => ?_, fun c => by rw [hw] at c; cases c⟩
      refine ⟨_, rfl, _, rfl, _, rfl, wy, _, _, wayU wy, rfl, fun h => (wayU_N h).symm, g2.1, g2.2, fun _ H5 k5 => ?_, fun c => by rw [hw] at c; cases c⟩
      refine ⟨_, rfl, _, rfl, szl (by show 4 ≤ 100000; decide), fun t6 n6 => ?_⟩
      generalize h_H6 : upd H5 t6 _ = H6
      have k_H6 : Kp H5 H6 := by rw [← h_H6]; exact .new n6
      have q_H6 := (congrFun h_H6 t6).symm.trans upd_same
      clear h_H6
      have k46 := (k4.trans k5).trans k_H6
      have hF6 := k46.same _ _ rfl hF'
      refine ⟨F, _, _, rfl, rfl, hF6, szt (by omega), ?_⟩
      refine ⟨_, _, _, _, _, _, rfl, (kp.trans k46).mut nF, (ke.trans (KpE.of k46)).trans (KpE.put hF6 rfl List.mem_cons_self), upd_same, ?_⟩
      rw [take_snoc (show (strI (toldP x.s (wayU wy) k.toNat))[i]? = some j from hj), List.map_append]
      refine DpAll.mut hF6 ?_ (DpAll.snoc (k46.dpAll hd) (.tup (.inl (.inl q_H6)) (.cons (.int _) (.cons (.int _) (.cons (.int _) (.cons (.int _) .nil))))))
      intro d hd'
      rcases List.mem_append.mp hd' with z | z
      · obtain ⟨e, _, rfl⟩ := List.mem_map.mp z
        exact slipR_nl _ _ _ _
      · rw [List.mem_singleton.mp z]
        exact slipR_nl x.s (wayU wy) (toldP x.s (wayU wy) k.toNat) j
    · rintro σ H' ⟨y1, y2, y3, y4, y5, fs, rfl, kp, ke, hF', hd⟩
      rw [hwl, show (strN (toldP x.s (wayU wy) k.toNat) (prs (toldP x.s (wayU wy) k.toNat))).length = (strI (toldP x.s (wayU wy) k.toNat)).length from rfl, List.take_length] at hd
      exact ⟨_, rfl, q F fs H' nF kp hF' hd⟩
/-! ### a line through its deeds -/
structure Rn (P : Program) (w : World) (K : PySem.W.Frag) (G H : Hp) (L : Addr) (x : LS) : Prop where
  kp : Kp G H
  ln : LineP P w K H L x
  fr : ∀ b ∈ x.foot L, G b = none
theorem Rn.to {P : Program} {w : World} {K : PySem.W.Frag} {G H H' : Hp} {L : Addr} {x : LS} (r : Rn P w K G H L x) (k : Kp H H') : Rn P w K G H' L x := ⟨r.kp.trans k, r.ln.kp k, r.fr⟩
theorem Rn.step {P : Program} {w : World} {K : PySem.W.Frag} {G H H' : Hp} {L : Addr} {x x' : LS} (r : Rn P w K G H L x) (g : Went P w K H H' L x x') : Rn P w K G H' L x' :=
  ⟨KpE.kp r.kp g.e r.fr, g.at_, fun b hb => (g.ft b hb).elim (r.fr b) fun z => r.kp.free _ z⟩
theorem Rn.new {P : Program} {w : World} {K : PySem.W.Frag} {G H : Hp} {L dx : Addr} {a0 : LA} {n : Nat} (nL : G L = none) (ndx : G dx = none) (nn : L ≠ dx) (hF : ∀ b ∈ footL L a0 n, b = L ∨ (upd (upd G dx (.own L)) L (.ins (He.ga K "Line") dx [])) b = none) (k : Kp G H) (l : LineP P w K H L (newL a0 n)) : Rn P w K G H L (newL a0 n) :=
  ⟨k, l, fun b hb => by
    rcases hF b hb with rfl | z
    · exact nL
    · exact ((Kp.new ndx).trans (.new (by rw [upd_ne nn]; exact nL))).free _ z⟩
/-! ### in any order of acts -/
theorem rdy_sky {m : Mo} {p : Nat} : rdyM m p = true ↔ ¬ inL p m.sl = true ∧ ¬ (0 < p ∧ inL ((p : Int) - 1) m.fg = true) ∧ ¬ (p + 1 < m.sh.length ∧ inL p m.fg = true) ∧ Loc m p := by
  constructor
  · intro h
    have h2 := rdyB_iff.mp h
    exact ⟨h2.1, h2.2.1, h2.2.2.2.2.1, rdy_loc h⟩
  · rintro ⟨a, b, c, l⟩
    refine rdyB_iff.mpr ⟨a, b, ?_, ?_, c, ?_, ?_⟩
    · rintro (⟨r, z, e⟩ | ⟨r, z, y⟩)
      · have := l.up0 (rs_iff.mp r) z
        cases hq : m.q with
        | nil => exact this hq
        | cons _ _ => rw [hq] at e; cases e
      · exact l.upB (rs_iff.mp r) z (rs_iff.mp y)
    · rintro ⟨r, z, y⟩
      exact (rs_no.mp y) (l.dnB (rs_no.mp r) z)
    · rintro ⟨z, r, y⟩
      exact (rs_no.mp y) (l.upA (rs_iff.mp r) z)
    · rintro ⟨z, r, y⟩
      exact l.dnA (rs_no.mp r) z (rs_iff.mp y)
theorem rdy_mvd {m : Mo} {P : Nat → Bool} {p : Nat} (hp : P p = false) (hb : 0 < p → P (p - 1) = false) (ha : P (p + 1) = false) (h : rdyM m p = true) : rdyM (m.mvd P) p = true := by
  obtain ⟨a, b, c, l⟩ := rdy_sky.mp h
  exact rdy_sky.mpr ⟨a, b, by rw [mvd_len]; exact c, mvd_loc hp hb ha l⟩
def onlyP (p : Nat) : Nat → Bool := fun j => decide (j = p)
theorem move_one {m : Mo} {p : Nat} (hl : p < m.sh.length) (hw : m.wr.length = m.sh.length) : m.move p = m.mvd (onlyP p) := by
  have h := move_mvd (m := m) (P := fun _ => false) (p := p) rfl (fun _ => rfl) hl hw
  rw [mvd_none m _ (fun _ => rfl)] at h
  rw [h]
  rfl
theorem move_fit {m : Mo} {p : Nat} (f : Fit m) (hl : p < m.sh.length) : Fit (m.move p) := by
  rw [move_one hl f.w]
  exact ⟨by rw [mvd_len, mvd_wlen]; exact f.w, mvd_qm f.q _⟩
theorem move_len (m : Mo) (p : Nat) : (m.move p).sh.length = m.sh.length := by
  unfold Mo.move
  split
  · exact List.length_set ..
  · exact List.length_set ..
theorem far_of {m : Mo} {p q : Nat} (hp : rdyM m p = true) (hq : rdyM m q = true) (lp : p < m.sh.length) (lq : q < m.sh.length) : q + 1 ≠ p ∧ p + 1 ≠ q :=
  ⟨fun e => by subst e; exact rdy_far hq hp lp, fun e => by subst e; exact rdy_far hp hq lq⟩
theorem diamond {m : Mo} {p q : Nat} (f : Fit m) (hp : rdyM m p = true) (hq : rdyM m q = true) (lp : p < m.sh.length) (lq : q < m.sh.length) (n : p ≠ q) : rdyM (m.move p) q = true ∧ (m.move p).move q = (m.move q).move p := by
  obtain ⟨n1, n2⟩ := far_of hp hq lp lq
  have o1 : onlyP p q = false := decide_eq_false (fun e => n e.symm)
  have o2 : 0 < q → onlyP p (q - 1) = false := fun z => decide_eq_false (by omega)
  have o3 : onlyP p (q + 1) = false := decide_eq_false (by omega)
  have r1 : onlyP q p = false := decide_eq_false n
  have r2 : 0 < p → onlyP q (p - 1) = false := fun z => decide_eq_false (by omega)
  refine ⟨by rw [move_one lp f.w]; exact rdy_mvd o1 o2 o3 hq, ?_⟩
  rw [move_one lp f.w, move_one lq f.w, move_mvd o1 o2 lq f.w, move_mvd r1 r2 lp f.w]
  congr 1
  funext j
  exact Bool.or_comm ..
inductive Red : Nat → Mo → Mo → Prop
  | nil (m : Mo) : Red 0 m m
  | cons {k : Nat} {m t : Mo} (p : Nat) (hl : p < m.sh.length) (hr : rdyM m p = true) (h : Red k (m.move p) t) : Red (k + 1) m t
theorem Red.app : ∀ {k l : Nat} {m a t : Mo}, Red k m a → Red l a t → Red (k + l) m t
  | _, l, _, _, t, .nil m, h => by rw [Nat.zero_add]; exact h
  | _, l, _, _, t, .cons (k := k) p hl hr h1, h => by
    rw [show k + 1 + l = (k + l) + 1 by omega]
    exact .cons p hl hr (h1.app h)
theorem Red.snoc {k : Nat} {m a : Mo} (h : Red k m a) {p : Nat} (hl : p < a.sh.length) (hr : rdyM a p = true) : Red (k + 1) m (a.move p) := h.app (.cons p hl hr (.nil _))
theorem Red.keep : ∀ {k : Nat} {m t : Mo}, Red k m t → Fit m → Fit t ∧ t.sh.length = m.sh.length ∧ t.sl = m.sl ∧ t.fg = m.fg
  | _, _, _, .nil m, f => ⟨f, rfl, rfl, rfl⟩
  | _, _, _, .cons (m := m) p hl hr h, f => by
    obtain ⟨h1, h2, h3, h4⟩ := h.keep (move_fit f hl)
    refine ⟨h1, h2.trans (move_len m p), h3.trans ?_, h4.trans ?_⟩
    · unfold Mo.move; split <;> rfl
    · unfold Mo.move; split <;> rfl
theorem no_rdy {m : Mo} (h : rdysM m = []) {p : Nat} (hl : p < m.sh.length) : rdyM m p = true → False := fun hr => by
  have : ((p : Nat) : Int) ∈ rdysM m := rdys_iff.mpr ⟨p, rfl, hl, hr⟩
  rw [h] at this
  exact absurd this List.not_mem_nil
theorem Red.strip : ∀ {k : Nat} {m t : Mo}, Red k m t → Fit m → rdysM t = [] → ∀ p, p < m.sh.length → rdyM m p = true → ∃ k', k = k' + 1 ∧ Red k' (m.move p) t
  | _, _, _, .nil m, _, ht, p, hl, hr => (no_rdy ht hl hr).elim
  | _, _, _, .cons (k := k) (m := m) q lq rq h, f, ht, p, hl, hr => by
    by_cases e : q = p
    · subst e
      exact ⟨k, rfl, h⟩
    · obtain ⟨d1, d2⟩ := diamond f rq hr lq hl e
      obtain ⟨d3, _⟩ := diamond f hr rq hl lq (fun z => e z.symm)
      obtain ⟨k', ek, h'⟩ := h.strip (move_fit f lq) ht p (by rw [move_len]; exact hl) d1
      refine ⟨k' + 1, by omega, .cons q (by rw [move_len]; exact lq) d3 ?_⟩
      rw [← d2]
      exact h'
theorem Red.uniq : ∀ {k l : Nat} {m t t' : Mo}, Red k m t → Red l m t' → Fit m → rdysM t = [] → rdysM t' = [] → t = t'
  | _, _, _, _, _, .nil m, .nil _, _, _, _ => rfl
  | _, _, _, _, _, .nil m, .cons p hl hr h, _, ht, _ => (no_rdy ht hl hr).elim
  | _, _, _, _, _, .cons p hl hr h, h2, f, ht, ht' => by
    obtain ⟨k', _, h3⟩ := h2.strip f ht' p hl hr
    exact h.uniq h3 (move_fit f hl) ht ht'
theorem red_part {m : Mo} (hw : m.wr.length = m.sh.length) : ∀ i, i ≤ (rdysM m).length → Red i m (m.mvd (inI ((rdysM m).take i)))
  | 0, _ => by
    have e : m.mvd (inI ((rdysM m).take 0)) = m := mvd_none _ _ fun j => decide_eq_false (by simp)
    rw [e]
    exact .nil _
  | i + 1, hi => by
    have h := red_part hw i (by omega)
    have hg : (rdysM m)[i]? = some ((rdysM m)[i]'(by omega)) := List.getElem?_eq_getElem (by omega)
    obtain ⟨p, ep, hl, hr⟩ := rdys_get hg
    rw [ep] at hg
    have t := turn_at hg
    rw [← turn_move hg hw]
    exact h.snoc (by rw [mvd_len]; exact hl) (rdy_mvd t.off t.offB t.offA hr)
theorem red_beat {m : Mo} (hw : m.wr.length = m.sh.length) : Red (rdysM m).length m (beatM m) := by
  have h := red_part hw (rdysM m).length (Nat.le_refl _)
  rw [List.take_length] at h
  exact h
theorem red_it {m : Mo} (f : Fit m) : ∀ k, ∃ j, Red j m (itM k m)
  | 0 => ⟨0, .nil _⟩
  | k + 1 => by
    obtain ⟨j, h⟩ := red_it f k
    exact ⟨_, h.app (red_beat (it_fit f k).w)⟩
theorem Red.mu : ∀ {k : Nat} {m t : Mo}, Red k m t → Fit m → muM t + k = muM m ∧ ∀ j, j < m.sh.length → (t.wr.getD j []).length + Wm t j = (m.wr.getD j []).length + Wm m j
  | _, _, _, .nil m, _ => ⟨rfl, fun _ _ => rfl⟩
  | _, _, _, .cons (m := m) p hl hr h, f => by
    obtain ⟨h1, h2⟩ := h.mu (move_fit f hl)
    obtain ⟨h3, h4⟩ := mu_move hl f.w (rdy_loc hr) f.q
    refine ⟨by omega, fun j hj => ?_⟩
    rw [h2 j (by rw [move_len]; exact hj)]
    exact h4 j hj
/-! #### how many acts at most -/
theorem Wf_two (q : Nat) (h : Nat → Bool) : ∀ p, Wf q h p ≤ q + (p + 1) / 2 ∧ (h p = true → Wf q h p ≤ q + p / 2)
  | 0 => ⟨Nat.le_refl _, fun _ => Nat.le_refl _⟩
  | p + 1 => by
    obtain ⟨h1, h2⟩ := Wf_two q h p
    have e : Wf q h (p + 1) = Wf q h p + (if (h p && !h (p + 1)) = true then 1 else 0) := rfl
    rw [e]
    cases a : h p <;> cases b : h (p + 1)
    · simp only [Bool.false_and, Bool.false_eq_true, if_false]
      exact ⟨by omega, fun z => by cases z⟩
    · simp only [Bool.false_and, Bool.false_eq_true, if_false]
      exact ⟨by omega, fun _ => by omega⟩
    · have := h2 a
      simp only [Bool.true_and, Bool.not_false, if_true]
      exact ⟨by omega, fun z => by cases z⟩
    · have := h2 a
      simp only [Bool.not_true, Bool.and_false, Bool.false_eq_true, if_false]
      exact ⟨by omega, fun _ => by omega⟩
def halfs : Nat → Nat
  | 0 => 0
  | k + 1 => halfs k + (k + 1) / 2
theorem SW_half {q : Nat} {h : Nat → Bool} : ∀ k, SW (Wf q h) k ≤ k * q + halfs k
  | 0 => Nat.zero_le _
  | k + 1 => by
    have := SW_half (q := q) (h := h) k
    have := (Wf_two q h k).1
    show SW (Wf q h) k + Wf q h k ≤ (k + 1) * q + (halfs k + (k + 1) / 2)
    rw [Nat.succ_mul]
    omega
theorem SH_le (h : Nat → Bool) : ∀ k, SH h k ≤ k
  | 0 => Nat.le_refl _
  | k + 1 => by
    have := SH_le h k
    show SH h k + (if h k = true then 1 else 0) ≤ k + 1
    split <;> omega
theorem mu_few {m : Mo} (hn : m.sh.length ≤ 12) (hq : m.q.length ≤ 12) : muM m ≤ 372 := by
  have h1 := SW_half (q := m.q.length) (h := hM m) m.sh.length
  have h2 := SH_le (hM m) m.sh.length
  have h3 : ∀ k, k ≤ 12 → halfs k ≤ 36 := by decide
  have h4 := h3 _ hn
  have h5 : m.sh.length * m.q.length ≤ 12 * 12 := Nat.mul_le_mul hn hq
  show 2 * SW (Wf m.q.length (hM m)) m.sh.length + SH (hM m) m.sh.length ≤ 372
  omega
/-! #### acts at a line -/
theorem act_come {s : PS} {m : Mo} (l : MoLike s m) {i : Int} (hp : plN s i < s.n) : actP (comeP s m) i = comeP s (m.move (plN s i)) := by
  have e0 : plN (comeP s m) i = plN s i := rfl
  unfold actP
  rw [e0, mot_come l]
  have lm : ∀ m' : Mo, (m'.move (plN s i)).wr.length = m'.wr.length := fun m' => by
    unfold Mo.move
    split
    · exact List.length_set ..
    · rfl
  generalize plN s i = p at hp lm
  have ec : ∀ (c : Int), ({ m with wr := List.replicate s.n [] } : Mo).move p = (if m.sh.getD p 0 = 0 then ({ m with wr := List.replicate s.n [] } : Mo).rise p (cmM m p) (cmM m p) else { ({ m with wr := List.replicate s.n [] } : Mo) with sh := m.sh.set p 0 }) := fun _ => rfl
  refine come_come l.wr ?_ ?_ ?_ ?_ fun j hj => ?_
  · rw [lm]; exact List.length_replicate
  · rw [lm]; exact l.wr
  · rw [ec 0]
    unfold Mo.move
    split <;> rfl
  · rw [ec 0]
    unfold Mo.move
    split <;> rfl
  · rw [ec 0]
    unfold Mo.move
    have gs : ∀ (ws : List (List Int)) (x : List Int), (ws.set p x).getD j [] = if p = j ∧ p < ws.length then x else ws.getD j [] := fun ws x => by
      rw [List.getD_eq_getElem?_getD, List.getElem?_set]
      by_cases z : p = j
      · subst z
        rw [if_pos rfl]
        by_cases y : p < ws.length
        · rw [if_pos y, if_pos ⟨rfl, y⟩]
          rfl
        · rw [if_neg y, if_neg (fun z => y z.2), List.getD_eq_getElem?_getD, List.getElem?_eq_none (by omega)]
      · rw [if_neg z, if_neg (fun y => z y.1), List.getD_eq_getElem?_getD]
    by_cases c : m.sh.getD p 0 = 0
    · rw [if_pos c, if_pos c]
      show (m.wr.set p (m.wr.getD p [] ++ [cmM m p])).getD j [] = m.wr.getD j [] ++ ((List.replicate s.n ([] : List Int)).set p ((List.replicate s.n ([] : List Int)).getD p [] ++ [cmM m p])).getD j []
      rw [gs, gs, rep_nil, rep_nil, l.wr, List.length_replicate]
      by_cases z : p = j
      · rw [if_pos ⟨z, hp⟩, if_pos ⟨z, hp⟩, ← z]
        rfl
      · rw [if_neg (fun y => z y.1), if_neg (fun y => z y.1), List.append_nil]
    · rw [if_neg c, if_neg c]
      show m.wr.getD j [] = m.wr.getD j [] ++ (List.replicate s.n ([] : List Int)).getD j []
      rw [rep_nil, List.append_nil]
/-- a line some acts on -/
def Acts (s0 : PS) (k : Nat) (s : PS) : Prop := ∃ m, Red k (motP s0) m ∧ s = comeP s0 m
theorem Red.like {s0 : PS} (o : s0.Ok) (f : Fit (motP s0)) {k : Nat} {m : Mo} (h : Red k (motP s0) m) : MoLike s0 m := by
  obtain ⟨h1, h2, h3, h4⟩ := h.keep f
  have l := like_motP o
  exact ⟨h2.trans l.sh, h1.w.trans (h2.trans l.sh), h3, h4⟩
theorem Acts.ready {s0 s : PS} (o : s0.Ok) (f : Fit (motP s0)) {m : Mo} {k : Nat} (h : Red k (motP s0) m) : readyP (comeP s0 m) = srt ((rdysM m).map (plI s0.up s0.n)) := by
  unfold readyP
  rw [mot_come (h.like o f)]
  rfl
theorem Acts.step {s0 s : PS} (o : s0.Ok) (f : Fit (motP s0)) {k : Nat} (h : Acts s0 k s) {i : Int} (hi : i ∈ readyP s) : (0 ≤ i ∧ i < (s.n : Int)) ∧ rdyP s i = true ∧ Acts s0 (k + 1) (actP s i) := by
  obtain ⟨m, hr, rfl⟩ := h
  have l := hr.like o f
  rw [Acts.ready o f hr (s := s0), srt_mem] at hi
  obtain ⟨z, hz, rfl⟩ := List.mem_map.mp hi
  obtain ⟨p, rfl, hp, rp⟩ := rdys_iff.mp hz
  have hp' : p < s0.n := by rw [l.sh] at hp; exact hp
  have b := plI_in (u := s0.up) (n := (s0.n : Int)) (m := (p : Int)) (by omega) (by omega)
  have e : plN s0 (plI s0.up s0.n (p : Int)) = p := by
    unfold plN
    rw [plI_plI]
    exact Int.toNat_natCast p
  refine ⟨b, decide_eq_true ?_, m.move p, hr.snoc hp rp, ?_⟩
  · rw [mot_come l]
    show plI s0.up s0.n (plI s0.up s0.n (p : Int)) ∈ rdysM m
    rw [plI_plI]
    exact hz
  · rw [act_come l (by rw [e]; exact hp'), e]
theorem Acts.few {s0 s : PS} (o : s0.Ok) (f : Fit (motP s0)) (hq : (s0.q s0.up).length ≤ 12) {k : Nat} (h : Acts s0 k s) : k ≤ 372 := by
  obtain ⟨m, hr, _⟩ := h
  have h1 := (hr.mu f).1
  have h2 := mu_few (m := motP s0) (by rw [(like_motP o).sh]; exact o.hi) hq
  omega
theorem Acts.settled {s0 s : PS} (o : s0.Ok) (f : Fit (motP s0)) {k : Nat} (h : Acts s0 k s) (e : readyP s = []) : s = settleP s0 := by
  obtain ⟨m, hr, rfl⟩ := h
  rw [Acts.ready o f hr (s := s0), srt_nil, List.map_eq_nil_iff] at e
  obtain ⟨j, hj⟩ := red_it f (setN (motP s0))
  have := hr.uniq hj f e (setN_ok f).1
  rw [this]
  rfl
theorem Acts.ok {s0 s : PS} (o : s0.Ok) (f : Fit (motP s0)) {k : Nat} (h : Acts s0 k s) (u : Bool) (i : Nat) : (s.bk u i).length ≤ (s0.bk u i).length + 72 := by
  obtain ⟨m, hr, rfl⟩ := h
  have l := hr.like o f
  show (if u = s0.up then s0.bk u i ++ falseR ((algL s0.up m.wr).getD i []) else s0.bk u i).length ≤ _
  split
  · rw [List.length_append, falseR_len]
    have few : m.Ok s0.n 72 := by
      refine ⟨l.sh, l.wr, fun w hw => ?_⟩
      obtain ⟨j, hj, e⟩ := List.getElem_of_mem hw
      have h := (hr.mu f).2 j (by rw [(like_motP o).sh]; rw [l.wr] at hj; exact hj)
      have e1 : m.wr.getD j [] = w := by
        rw [List.getD_eq_getElem?_getD, List.getElem?_eq_getElem hj, e]
        rfl
      have e2 : (motP s0).wr.getD j [] = [] := rep_nil _ _
      rw [e1, e2] at h
      have h2 := Wf_le (motP s0).q.length (hM (motP s0)) j
      have h3 := o.q s0.up
      have h4 := o.hi
      rw [l.wr] at hj
      have h5 : Wm (motP s0) j ≤ (s0.q s0.up).length + j := h2
      simp only [List.length_nil] at h
      omega
    have := few_alg few s0.up i
    omega
  · omega
/-! #### signs come in turn -/
/-- the places of the way have written so many signs that what each has and what is still under way to it make one number -/
def Even (s : PS) : Prop := ∃ N, ∀ p, p < s.n → (s.bk s.up (plI s.up s.n (p : Int)).toNat).length + Wf 0 (hM (motP s)) p = N
theorem Wf_q (q : Nat) (h : Nat → Bool) : ∀ p, Wf q h p = q + Wf 0 h p
  | 0 => rfl
  | p + 1 => by
    have := Wf_q q h p
    show Wf q h p + _ = q + (Wf 0 h p + _)
    omega
theorem Wf_up (q : Nat) (h : Nat → Bool) {a : Nat} : ∀ {b : Nat}, a ≤ b → Wf q h a ≤ Wf q h b
  | 0, e => by rw [Nat.le_zero.mp e]; exact Nat.le_refl _
  | b + 1, e => by
    rcases Nat.lt_or_ge a (b + 1) with c | c
    · exact Nat.le_trans (Wf_up q h (Nat.le_of_lt_succ c)) (Nat.le_add_right _ _)
    · rw [Nat.le_antisymm e c]; exact Nat.le_refl _
theorem algL_at {u : Bool} {n : Nat} {ws : List (List Int)} (hw : ws.length = n) {p : Nat} (hp : p < n) : (algL u ws).getD (plI u n (p : Int)).toNat [] = ws.getD p [] := by
  unfold algL plI
  cases u
  · rw [if_neg (by decide), if_neg (by decide), getD_rev, if_pos (by omega)]
    congr 1
    omega
  · rw [if_pos rfl, if_pos rfl, Int.toNat_natCast]
theorem Even.acts {s0 s : PS} (o : s0.Ok) (f : Fit (motP s0)) (e : Even s0) {k : Nat} (h : Acts s0 k s) : Even s := by
  obtain ⟨N, hN⟩ := e
  obtain ⟨m, hr, rfl⟩ := h
  have l := hr.like o f
  have l0 := like_motP o
  have hm := mot_come l
  have key : ∀ p, p < s0.n → ((comeP s0 m).bk s0.up (plI s0.up s0.n (p : Int)).toNat).length + (m.q.length + Wf 0 (hM m) p) = N + (s0.q s0.up).length := fun p hp => by
    have h1 := (hr.mu f).2 p (by rw [l0.sh]; exact hp)
    have h2 : (motP s0).wr.getD p [] = [] := rep_nil _ _
    rw [h2] at h1
    have h3 : Wm m p = m.q.length + Wf 0 (hM m) p := Wf_q _ _ _
    have h4 : Wm (motP s0) p = (s0.q s0.up).length + Wf 0 (hM (motP s0)) p := Wf_q _ _ _
    have h5 := hN p hp
    show (if s0.up = s0.up then s0.bk s0.up (plI s0.up s0.n (p : Int)).toNat ++ falseR ((algL s0.up m.wr).getD (plI s0.up s0.n (p : Int)).toNat []) else _).length + _ = _
    rw [if_pos rfl, List.length_append, falseR_len, algL_at l.wr hp]
    simp only [List.length_nil] at h1
    omega
  have hz : 0 < s0.n := by have := o.lo; omega
  refine ⟨N + (s0.q s0.up).length - m.q.length, fun p hp => ?_⟩
  have k1 := key p hp
  have e : hM (motP (comeP s0 m)) = hM m := by rw [hm]; rfl
  rw [e]
  show ((comeP s0 m).bk s0.up (plI s0.up s0.n (p : Int)).toNat).length + Wf 0 (hM m) p = _
  omega
theorem Even.came {s : PS} (e : Even s) {p : Nat} (hp : p < s.n) : (s.bk s.up (plI s.up s.n ((s.n - 1 : Nat) : Int)).toNat).length ≤ (s.bk s.up (plI s.up s.n (p : Int)).toNat).length := by
  obtain ⟨N, hN⟩ := e
  have h1 := hN p hp
  have h2 := hN (s.n - 1) (by omega)
  have h3 := Wf_up 0 (hM (motP s)) (a := p) (b := s.n - 1) (by omega)
  omega
/-! ### signs shown with slips -/
theorem rise_mu {m : Mo} {p : Nat} {seen shows : Int} (hl : p < m.sh.length) (hw : m.wr.length = m.sh.length) (L : Loc m p) (c : m.a p = 0) (hs : shows ≠ 0) : muM (m.rise p seen shows) + 1 = muM m ∧ ∀ j, j < m.sh.length → ((m.rise p seen shows).wr.getD j []).length + Wm (m.rise p seen shows) j = (m.wr.getD j []).length + Wm m j := by
  have h0 : hM m p = false := decide_eq_false (fun y => y c)
  have ha' : ∀ j, (m.rise p seen shows).a j = if j = p then shows else m.a j := fun j => a_set hl
  have h1 : hM (m.rise p seen shows) p = true := by unfold hM; rw [ha', if_pos rfl]; exact decide_eq_true hs
  have he : ∀ j, j ≠ p → hM (m.rise p seen shows) j = hM m j := fun j hj => by unfold hM; rw [ha', if_neg hj]
  have ll : (m.rise p seen shows).sh.length = m.sh.length := List.length_set ..
  have eW : ∀ j, j < m.sh.length → Wm (m.rise p seen shows) j + (if j = p then 1 else 0) = Wm m j := by
    refine Wf_raise he h0 h1 (fun z => ?_) (fun z => ?_) (fun z => decide_eq_true (L.upB c z)) (fun z => decide_eq_false (fun y => y (L.upA c z)))
    · show (if p = 0 then m.q.tail else m.q).length + 1 = m.q.length
      rw [if_pos z]
      have := List.length_pos_iff.mpr (L.up0 c z)
      rw [List.length_tail]
      omega
    · show (if p = 0 then m.q.tail else m.q).length = m.q.length
      rw [if_neg (by omega)]
  refine ⟨?_, fun j hj => ?_⟩
  · have s1 := SW_raise eW m.sh.length (Nat.le_refl _)
    have s2 := SH_on he h0 h1 m.sh.length
    rw [if_pos hl] at s1 s2
    unfold muM
    rw [ll]
    omega
  · have e := eW j hj
    have ew : ((m.rise p seen shows).wr.getD j []).length = (m.wr.getD j []).length + (if j = p then 1 else 0) := by
      show ((m.wr.set p (m.wr.getD p [] ++ [seen])).getD j []).length = _
      rw [List.getD_eq_getElem?_getD, List.getElem?_set]
      by_cases z : p = j
      · subst z
        rw [if_pos rfl, if_pos (by omega), if_pos rfl]
        show (m.wr.getD p [] ++ [seen]).length = _
        rw [List.length_append]
        rfl
      · rw [if_neg z, if_neg (fun y => z y.symm), List.getD_eq_getElem?_getD]
        rfl
    rw [ew]
    omega
def cN (M : Mo) (p : Nat) : Nat := (M.wr.getD p []).length
def tkM (M : Mo) (p k : Nat) : Int := (M.wr.getD p []).getD k 0
abbrev Sl5 := Nat × Nat × Int × Int × Int
structure Pl (n : Nat) (sg : List Int) (M : Mo) (sh cm : Nat → Nat → Int) (T : List Sl5) : Prop where
  len : M.sh.length = n
  wl : M.wr.length = n
  sl : M.sl = []
  fg : M.fg = []
  q : M.q = sg.drop (cN M 0)
  q0 : cN M 0 ≤ sg.length
  arm : ∀ p, p < n → M.a p ≠ 0 → 1 ≤ cN M p ∧ M.a p = sh p (cN M p - 1)
  com : ∀ p, p + 1 < n → ∀ k, k < cN M (p + 1) → cm (p + 1) k = sh p k
  com0 : ∀ k, k < cN M 0 → tkM M 0 k = cm 0 k ∧ cm 0 k = sg.getD k 0
  ev : ∃ N, ∀ j, j < n → cN M j + Wm M j = N
  tr : ∀ p k, p < n → k < cN M p → (tkM M p k ≠ cm p k ∨ sh p k ≠ tkM M p k) → (p, k, cm p k, tkM M p k, sh p k) ∈ T
  ok : ∀ z ∈ M.sh, z = 0 ∨ (1 ≤ z ∧ z ≤ 94)
theorem Wm_up (M : Mo) {a b : Nat} (h : a ≤ b) : Wm M a ≤ Wm M b := Wf_up _ _ h
theorem Pl.down {n : Nat} {sg : List Int} {M : Mo} {sh cm : Nat → Nat → Int} {T : List Sl5} (h : Pl n sg M sh cm T) {a b : Nat} (hab : a ≤ b) (hb : b < n) : cN M b ≤ cN M a := by
  obtain ⟨N, hN⟩ := h.ev
  have h1 := hN a (by omega)
  have h2 := hN b hb
  have h3 := Wm_up M hab
  omega
def updF (f : Nat → Nat → Int) (p k : Nat) (v : Int) : Nat → Nat → Int := fun p' k' => if p' = p ∧ k' = k then v else f p' k'
theorem updF_at (f : Nat → Nat → Int) (p k : Nat) (v : Int) : updF f p k v p k = v := if_pos ⟨rfl, rfl⟩
theorem updF_ne {f : Nat → Nat → Int} {p k p' k' : Nat} {v : Int} (h : ¬ (p' = p ∧ k' = k)) : updF f p k v p' k' = f p' k' := if_neg h
theorem rise_wr {M : Mo} {p : Nat} {a b : Int} (hp : p < M.wr.length) (j : Nat) : (M.rise p a b).wr.getD j [] = if j = p then M.wr.getD p [] ++ [a] else M.wr.getD j [] := by
  show (M.wr.set p (M.wr.getD p [] ++ [a])).getD j [] = _
  rw [List.getD_eq_getElem?_getD, List.getElem?_set]
  by_cases z : p = j
  · subst z
    rw [if_pos rfl, if_pos hp, if_pos rfl]
    rfl
  · rw [if_neg z, if_neg (fun y => z y.symm), List.getD_eq_getElem?_getD]
theorem rise_cN {M : Mo} {p : Nat} {a b : Int} (hp : p < M.wr.length) (j : Nat) : cN (M.rise p a b) j = cN M j + (if j = p then 1 else 0) := by
  unfold cN
  rw [rise_wr hp]
  split
  · rename_i z
    rw [List.length_append, z]
    rfl
  · rfl
theorem rise_tk {M : Mo} {p : Nat} {a b : Int} (hp : p < M.wr.length) (j k : Nat) : tkM (M.rise p a b) j k = if j = p ∧ k = cN M p then a else tkM M j k := by
  unfold tkM
  rw [rise_wr hp]
  by_cases z : j = p
  · rw [if_pos z]
    subst z
    by_cases y : k = cN M j
    · rw [if_pos ⟨rfl, y⟩, List.getD_eq_getElem?_getD, List.getElem?_append_right (by rw [y]; exact Nat.le_refl _), y]
      unfold cN
      simp
    · rw [if_neg (fun x => y x.2)]
      have y : k ≠ (M.wr.getD j []).length := y
      generalize M.wr.getD j [] = xs at y ⊢
      rw [List.getD_eq_getElem?_getD, List.getD_eq_getElem?_getD]
      by_cases x : k < xs.length
      · rw [List.getElem?_append_left x]
      · rw [List.getElem?_eq_none (by rw [List.length_append]; show xs.length + 1 ≤ k; omega), List.getElem?_eq_none (by omega)]
  · rw [if_neg z, if_neg (fun x => z x.1)]
def slT (p k : Nat) (c a b : Int) : List Sl5 := if a ≠ c ∨ b ≠ a then [(p, k, c, a, b)] else []
theorem Pl.rise {n : Nat} {sg : List Int} {M : Mo} {sh cm : Nat → Nat → Int} {T : List Sl5} (h : Pl n sg M sh cm T) {p : Nat} {a b : Int} (hl : p < n) (rd : rdyM M p = true) (c : M.a p = 0) (hb : 1 ≤ b ∧ b ≤ 94) (h0 : p = 0 → a = cmM M p) :
    Pl n sg (M.rise p a b) (updF sh p (cN M p) b) (updF cm p (cN M p) (cmM M p)) (T ++ slT p (cN M p) (cmM M p) a b) := by
  have L := rdy_loc rd
  have hp : p < M.wr.length := by rw [h.wl]; exact hl
  have hpl : p < M.sh.length := by rw [h.len]; exact hl
  have mu := (rise_mu (seen := a) (shows := b) hpl (h.wl.trans h.len.symm) L c (by omega)).2
  have ha : ∀ j, (M.rise p a b).a j = if j = p then b else M.a j := fun j => a_set hpl
  have hc := fun j => rise_cN (a := a) (b := b) hp j
  have ht := fun j k => rise_tk (a := a) (b := b) hp j k
  have q0 : p = 0 → M.q ≠ [] := L.up0 c
  -- what comes
  have come : 0 < p → cN M (p - 1) = cN M p + 1 ∧ cmM M p = sh (p - 1) (cN M p) := fun z => by
    have hs : M.a (p - 1) ≠ 0 := L.upB c z
    obtain ⟨a1, a2⟩ := h.arm (p - 1) (by omega) hs
    obtain ⟨N, hN⟩ := h.ev
    have e1 := hN (p - 1) (by omega)
    have e2 := hN p hl
    have e3 : Wm M p = Wm M (p - 1) + 1 := by
      have : Wm M (p - 1 + 1) = Wm M (p - 1) + (if (hM M (p - 1) && !hM M (p - 1 + 1)) = true then 1 else 0) := rfl
      rw [show p - 1 + 1 = p by omega] at this
      rw [this, if_pos]
      rw [show hM M (p - 1) = true from decide_eq_true hs, show hM M p = false from decide_eq_false (fun y => y c)]
      rfl
    have e4 : cN M (p - 1) = cN M p + 1 := by omega
    refine ⟨e4, ?_⟩
    unfold cmM
    rw [if_neg (by omega)]
    show M.a (p - 1) = _
    rw [a2, e4]
    rfl
  refine ⟨(List.length_set ..).trans h.len, (List.length_set ..).trans h.wl, h.sl, h.fg, ?_, ?_, fun j hj hja => ?_, fun j hj k hk => ?_, fun k hk => ?_, ?_, fun j k hj hk hd => ?_, fun z hz => ?_⟩
  · show (if p = 0 then M.q.tail else M.q) = sg.drop (cN (M.rise p a b) 0)
    rw [hc]
    by_cases z : p = 0
    · rw [if_pos z, if_pos z.symm, h.q, List.tail_drop]
    · rw [if_neg z, if_neg (fun y => z y.symm), h.q]
      rfl
  · rw [hc]
    by_cases z : p = 0
    · rw [if_pos z.symm]
      have hq := h.q
      have := q0 z
      rw [hq] at this
      have : ¬ sg.length ≤ cN M 0 := fun y => this (List.drop_eq_nil_iff.mpr y)
      omega
    · rw [if_neg (fun y => z y.symm)]
      exact h.q0
  · rw [ha] at hja ⊢
    rw [hc]
    by_cases z : j = p
    · subst z
      rw [if_pos rfl, if_pos rfl]
      refine ⟨by omega, ?_⟩
      rw [show cN M j + 1 - 1 = cN M j by omega, updF_at]
    · rw [if_neg z] at hja ⊢
      rw [if_neg z]
      obtain ⟨b1, b2⟩ := h.arm j hj hja
      refine ⟨b1, ?_⟩
      rw [Nat.add_zero, updF_ne (fun y => z y.1)]
      exact b2
  · rw [hc] at hk
    by_cases z : j + 1 = p
    · rw [if_pos z] at hk
      by_cases y : k = cN M p
      · obtain ⟨e1, e2⟩ := come (by omega)
        rw [z, y, updF_at, e2, updF_ne (fun x => by omega), show p - 1 = j by omega]
      · rw [updF_ne (fun x => y x.2), updF_ne (fun x => by omega)]
        refine h.com j hj k ?_
        rw [z] at hk ⊢
        omega
    · rw [if_neg z, Nat.add_zero] at hk
      rw [updF_ne (fun x => z x.1)]
      by_cases y : j = p
      · subst y
        have : cN M (j + 1) ≤ cN M j := h.down (Nat.le_succ j) hj
        rw [updF_ne (fun x => by omega)]
        exact h.com j hj k hk
      · rw [updF_ne (fun x => y x.1)]
        exact h.com j hj k hk
  · rw [hc] at hk
    rw [ht]
    by_cases z : p = 0
    · subst z
      rw [if_pos rfl] at hk
      by_cases y : k = cN M 0
      · rw [if_pos ⟨rfl, y⟩, y, updF_at]
        refine ⟨h0 rfl, ?_⟩
        unfold cmM
        rw [if_pos rfl, h.q]
        have hn := q0 rfl
        rw [h.q] at hn
        have : cN M 0 < sg.length := by
          apply Classical.byContradiction
          intro w
          exact hn (List.drop_eq_nil_iff.mpr (by omega))
        rw [List.getD_eq_getElem?_getD, List.headD_eq_head?_getD, List.head?_drop]
      · rw [if_neg (fun x => y x.2), updF_ne (fun x => y x.2)]
        exact h.com0 k (by omega)
    · rw [if_neg (fun x => z x.symm), Nat.add_zero] at hk
      rw [if_neg (fun x => z x.1.symm), updF_ne (fun x => z x.1.symm)]
      exact h.com0 k hk
  · obtain ⟨N, hN⟩ := h.ev
    refine ⟨N, fun j hj => ?_⟩
    have := mu j (by rw [h.len]; exact hj)
    have := hN j hj
    unfold cN at *
    omega
  · rw [hc] at hk
    rw [ht] at hd ⊢
    by_cases y : j = p ∧ k = cN M p
    · obtain ⟨rfl, rfl⟩ := y
      rw [if_pos ⟨rfl, rfl⟩, updF_at, updF_at] at hd ⊢
      refine List.mem_append.mpr (.inr ?_)
      unfold slT
      rw [if_pos hd]
      exact List.mem_singleton.mpr rfl
    · rw [if_neg y, updF_ne y, updF_ne y] at hd ⊢
      refine List.mem_append.mpr (.inl (h.tr j k hj ?_ hd))
      by_cases z : j = p
      · rw [if_pos z] at hk
        subst z
        have : k ≠ cN M j := fun x => y ⟨rfl, x⟩
        omega
      · rw [if_neg z] at hk
        omega
  · rcases List.mem_or_eq_of_mem_set hz with hz | hz
    · exact h.ok z hz
    · rw [hz]; exact .inr hb
theorem Pl.lower {n : Nat} {sg : List Int} {M : Mo} {sh cm : Nat → Nat → Int} {T : List Sl5} (h : Pl n sg M sh cm T) (qm : QM M) {p : Nat} (hl : p < n) (rd : rdyM M p = true) (c : M.a p ≠ 0) : Pl n sg (M.move p) sh cm T := by
  have L := rdy_loc rd
  have hpl : p < M.sh.length := by rw [h.len]; exact hl
  have mu := (mu_move hpl (h.wl.trans h.len.symm) L qm).2
  have em : M.move p = { M with sh := M.sh.set p 0 } := if_neg c
  have ha : ∀ j, (M.move p).a j = if j = p then 0 else M.a j := fun j => by rw [em]; exact a_set hpl
  have hc : ∀ j, cN (M.move p) j = cN M j := fun j => by rw [em]; rfl
  have ht : ∀ j k, tkM (M.move p) j k = tkM M j k := fun j k => by rw [em]; rfl
  refine ⟨(move_len M p).trans h.len, by rw [em]; exact h.wl, by rw [em]; exact h.sl, by rw [em]; exact h.fg, by rw [hc, em]; exact h.q, by rw [hc]; exact h.q0, fun j hj hja => ?_, fun j hj k hk => h.com j hj k (by rw [hc] at hk; exact hk), fun k hk => by rw [ht]; exact h.com0 k (by rw [hc] at hk; exact hk), ?_, fun j k hj hk hd => ?_, fun z hz => ?_⟩
  · rw [ha] at hja ⊢
    by_cases z : j = p
    · rw [if_pos z] at hja
      exact absurd rfl hja
    · rw [if_neg z] at hja ⊢
      rw [hc]
      exact h.arm j hj hja
  · obtain ⟨N, hN⟩ := h.ev
    refine ⟨N, fun j hj => ?_⟩
    have := mu j (by rw [h.len]; exact hj)
    have := hN j hj
    unfold cN at *
    omega
  · rw [hc] at hk
    rw [ht] at hd ⊢
    exact h.tr j k hj hk hd
  · rw [em] at hz
    rcases List.mem_or_eq_of_mem_set hz with hz | hz
    · exact h.ok z hz
    · exact .inl hz
/-! #### nobody is ready -/
theorem last_of {f : Nat → Prop} [DecidablePred f] : ∀ k, (∃ j, j < k ∧ f j) → ∃ j, j < k ∧ f j ∧ ∀ i, j < i → i < k → ¬ f i
  | 0, h => by obtain ⟨j, hj, _⟩ := h; exact absurd hj (Nat.not_lt_zero _)
  | k + 1, h => by
    by_cases c : f k
    · exact ⟨k, Nat.lt_succ_self k, c, fun i h1 h2 => by omega⟩
    · obtain ⟨j, hj, hf⟩ := h
      have : j < k := by
        rcases Nat.lt_or_ge j k with x | x
        · exact x
        · exact absurd (by rw [show k = j by omega]; exact hf) c
      obtain ⟨j', h1, h2, h3⟩ := last_of k ⟨j, this, hf⟩
      refine ⟨j', by omega, h2, fun i a b => ?_⟩
      by_cases d : i = k
      · rw [d]; exact c
      · exact h3 i a (by omega)
theorem run_of {f : Nat → Prop} [DecidablePred f] : ∀ j, f j → ∃ i, i ≤ j ∧ (∀ t, i ≤ t → t ≤ j → f t) ∧ (0 < i → ¬ f (i - 1))
  | 0, h => ⟨0, Nat.le_refl 0, fun t _ b => by rw [Nat.le_zero.mp b]; exact h, fun c => absurd c (Nat.lt_irrefl 0)⟩
  | j + 1, h => by
    by_cases c : f j
    · obtain ⟨i, h1, h2, h3⟩ := run_of j c
      refine ⟨i, by omega, fun t a b => ?_, h3⟩
      by_cases d : t = j + 1
      · rw [d]; exact h
      · exact h2 t a (by omega)
    · exact ⟨j + 1, Nat.le_refl _, fun t a b => by rw [show t = j + 1 by omega]; exact h, fun _ => c⟩
theorem inL_nil (p : Int) : ¬ inL p ([] : List Int) = true := by
  intro h
  cases h
theorem came_all {M : Mo} (hn : 2 ≤ M.sh.length) (sl : M.sl = []) (fg : M.fg = []) (h : rdysM M = []) : (∀ p, p < M.sh.length → M.a p = 0) ∧ M.q = [] := by
  have no : ∀ p, p < M.sh.length → ¬ Loc M p := fun p hp l => by
    refine no_rdy h hp (rdy_sky.mpr ⟨by rw [sl]; exact inL_nil _, fun c => ?_, fun c => ?_, l⟩)
    · rw [fg] at c; exact inL_nil _ c.2
    · rw [fg] at c; exact inL_nil _ c.2
  have all : ∀ p, p < M.sh.length → M.a p = 0 := by
    apply Classical.byContradiction
    intro hc
    have hc : ∃ p, p < M.sh.length ∧ M.a p ≠ 0 := by
      apply Classical.byContradiction
      intro hd
      exact hc fun p hp => Classical.byContradiction fun y => hd ⟨p, hp, y⟩
    obtain ⟨j, hj, hja, hjb⟩ := last_of (f := fun p => M.a p ≠ 0) M.sh.length hc
    have hjb : ∀ i, j < i → i < M.sh.length → M.a i = 0 := fun i a b => Classical.byContradiction (hjb i a b)
    by_cases c : j + 1 < M.sh.length
    · have z := hjb (j + 1) (by omega) c
      exact no (j + 1) c ⟨fun _ y => by omega, fun _ _ => hja, fun _ y => hjb (j + 2) (by omega) y, fun y => absurd z y, fun y => absurd z y⟩
    · obtain ⟨i, h1, h2, h3⟩ := run_of (f := fun p => M.a p ≠ 0) j hja
      have hi := h2 i (Nat.le_refl _) h1
      refine no i (by omega) ⟨fun y => absurd y hi, fun y => absurd y hi, fun y => absurd y hi, fun _ y => Classical.byContradiction (h3 y), fun _ y => h2 (i + 1) (by omega) (by omega)⟩
  refine ⟨all, ?_⟩
  apply Classical.byContradiction
  intro hq
  have z := all 0 (by omega)
  exact no 0 (by omega) ⟨fun _ _ => hq, fun _ y => absurd y (Nat.lt_irrefl 0), fun _ y => all 1 y, fun y => absurd z y, fun y => absurd z y⟩
theorem Pl.done {n : Nat} {sg : List Int} {M : Mo} {sh cm : Nat → Nat → Int} {T : List Sl5} (h : Pl n sg M sh cm T) (hn : 2 ≤ n) (r : rdysM M = []) : ∀ p, p < n → cN M p = sg.length := fun p hp => by
  obtain ⟨ha, hq⟩ := came_all (by rw [h.len]; exact hn) h.sl h.fg r
  rw [h.len] at ha
  have c0 : cN M 0 = sg.length := by
    have := h.q
    rw [hq] at this
    have := List.drop_eq_nil_iff.mp this.symm
    have := h.q0
    omega
  obtain ⟨N, hN⟩ := h.ev
  have hw : ∀ j, j < n → Wm M j = 0 := fun j => by
    induction j with
    | zero => intro _; show M.q.length = 0; rw [hq]; rfl
    | succ j ih =>
      intro hj
      show Wm M j + (if (hM M j && !hM M (j + 1)) = true then 1 else 0) = 0
      rw [ih (by omega), show hM M j = false from decide_eq_false (fun y => y (ha j (by omega)))]
      rfl
  have h1 := hN 0 (by omega)
  have h2 := hN p hp
  have h3 := hw 0 (by omega)
  have h4 := hw p hp
  omega
theorem Pl.chain {n : Nat} {sg : List Int} {M : Mo} {sh cm : Nat → Nat → Int} {T : List Sl5} (h : Pl n sg M sh cm T) {k p1 : Nat} : ∀ p2, p1 < p2 → p2 < n → k < cN M p2 → tkM M p1 k ≠ tkM M p2 k →
    ∃ e ∈ T, e.2.1 = k ∧ ((p1 ≤ e.1 ∧ e.1 < p2 ∧ e.2.2.2.2 ≠ e.2.2.2.1) ∨ (p1 < e.1 ∧ e.1 ≤ p2 ∧ e.2.2.2.1 ≠ e.2.2.1))
  | 0, h1, _, _, _ => absurd h1 (Nat.not_lt_zero _)
  | p + 1, h1, h2, hk, hd => by
    have hk' : k < cN M p := Nat.lt_of_lt_of_le hk (h.down (b := p + 1) (Nat.le_succ p) h2)
    by_cases c : tkM M p k = tkM M (p + 1) k
    · rw [← c] at hd
      have lt : p1 < p := by
        rcases Nat.lt_or_ge p1 p with x | x
        · exact x
        · exact absurd (by rw [show p1 = p by omega]) hd
      obtain ⟨e, he, ek, hh⟩ := h.chain p lt (by omega) hk' hd
      refine ⟨e, he, ek, hh.imp (fun ⟨a, b, d⟩ => ⟨a, by omega, d⟩) (fun ⟨a, b, d⟩ => ⟨a, by omega, d⟩)⟩
    · by_cases d : sh p k = tkM M p k
      · have ec := h.com p h2 k hk
        have : tkM M (p + 1) k ≠ cm (p + 1) k := fun y => c (by rw [y, ec, d])
        exact ⟨_, h.tr (p + 1) k h2 hk (.inl this), rfl, .inr ⟨by show p1 < p + 1; omega, Nat.le_refl _, this⟩⟩
      · exact ⟨_, h.tr p k (by omega) hk' (.inr d), rfl, .inl ⟨by show p1 ≤ p; omega, Nat.lt_succ_self p, d⟩⟩
/-! ### signs and slips that the law draws -/
theorem cut_len5 {ns : List Int} {a : Nat} {z : Int} (h0 : (a : Int) ≤ z) (h1 : z ≤ (ns.length : Int)) : ∃ ms : List Int, cutV (ns.map V.int) (some (a : Int)) (some z) = ms.map V.int ∧ (∀ m ∈ ms, m ∈ ns) ∧ (ms.length : Int) = z - a := by
  obtain ⟨j, rfl⟩ : ∃ j : Nat, z = (j : Int) := ⟨z.toNat, by omega⟩
  obtain ⟨ms, em, hm, _⟩ := cutV_map (lo := some (a : Int)) (hi := some (j : Int)) (ns := ns)
  refine ⟨ms, em, hm, ?_⟩
  have e := congrArg List.length em
  rw [List.length_map] at e
  unfold cutV at e
  rw [List.length_take, List.length_drop, List.length_map, HT.sIx_nat, HT.sIx_nat] at e
  omega
def Sls (H : Hp) (D : Addr) (i : Nat) : Prop := ∃ kvs : List (List Key × V), H D = some (.dT kvs) ∧ kvs.length ≤ i ∧ ∀ k v, valV kvs k = some v → ∃ (b : Addr) (t s z : Int), v = .ref b ∧ H b = some (.tup [.int t, .int s, .int z]) ∧ (1 ≤ t ∧ t ≤ 94) ∧ (1 ≤ s ∧ s ≤ 94)
theorem Sls.kp {H H' : Hp} {D : Addr} {i : Nat} (h : Sls H D i) (k : Kp H H') : Sls H' D i := by
  obtain ⟨kvs, h1, h2, h3⟩ := h
  refine ⟨kvs, k.same _ _ rfl h1, h2, fun x v e => ?_⟩
  obtain ⟨b, t, s, z, e1, e2, e3, e4⟩ := h3 x v e
  exact ⟨b, t, s, z, e1, k.same _ _ rfl e2, e3, e4⟩
theorem Sls.put {H : Hp} {D b : Addr} {i : Nat} {kvs : List (List Key × V)} {k : List Key} {t s z : Int} (h1 : H D = some (.dT kvs)) (h2 : kvs.length ≤ i) (h3 : ∀ k v, valV kvs k = some v → ∃ (b : Addr) (t s z : Int), v = .ref b ∧ H b = some (.tup [.int t, .int s, .int z]) ∧ (1 ≤ t ∧ t ≤ 94) ∧ (1 ≤ s ∧ s ≤ 94))
    (hb : H b = some (.tup [.int t, .int s, .int z])) (ht : 1 ≤ t ∧ t ≤ 94) (hs : 1 ≤ s ∧ s ≤ 94) : Sls (upd H D (.dT (putK kvs k (.ref b)))) D (i + 1) := by
  have off : ∀ {y : Addr} {vs : List V}, H y = some (.tup vs) → upd H D (.dT (putK kvs k (.ref b))) y = some (.tup vs) := fun {y vs} h => by
    rw [upd_ne (fun e => by rw [e, h1] at h; cases h)]
    exact h
  refine ⟨_, upd_same, Nat.le_trans (length_putK kvs k (.ref b)) (by omega), fun x v e => ?_⟩
  rw [valV_put] at e
  by_cases c : x = k
  · rw [if_pos c] at e
    cases e
    exact ⟨b, t, s, z, rfl, off hb, ht, hs⟩
  · rw [if_neg c] at e
    obtain ⟨b', t', s', z', e1, e2, e3, e4⟩ := h3 x v e
    exact ⟨b', t', s', z', e1, off e2, e3, e4⟩
structure Ran5 (H : Hp) (n : Nat) (sg : List Int) (S D : Addr) : Prop where
  sl : H S = some (.lst (sg.map V.int))
  ne : sg ≠ []
  few : sg.length ≤ 5
  sg : ∀ z ∈ sg, 1 ≤ z ∧ z ≤ 94
  ss : Sls H D 4
  lo : 2 ≤ n
  hi : n ≤ 12
theorem Ran5.kp {H H' : Hp} {n : Nat} {sg : List Int} {S D : Addr} (h : Ran5 H n sg S D) (k : Kp H H') : Ran5 H' n sg S D := ⟨k.same _ _ rfl h.sl, h.ne, h.few, h.sg, h.ss.kp k, h.lo, h.hi⟩
def sp_l_run (K : PySem.W.Frag) : Sp := fun vs H Q _ => ∃ (a : Addr) (ns : List Int), vs = [.ref a] ∧ SqL K H a (ns.map V.int) ∧ ns.length ≤ 63 ∧
  ∀ (r S D : Addr) (n : Nat) (u : Bool) (sg : List Int) (H' : Hp), Kp H H' → H' r = some (.tup [.int (n : Int), .str (wayN u), .ref S, .ref D]) → Ran5 H' n sg S D → Q (.ref r) H'
theorem ok_l_run (T : Txt K mg) : FnOk P w K mg base CX0 5 T.f_l_run T.d_l_run ["_law_script"] (sp_l_run K) := by
  refine T.F_l_run.ok sc_l_run (fun vs H Q E h => ?_) (fun cdv A outer s H vs Q E hr h => ?_)
  · obtain ⟨a, ns, rfl, _⟩ := h
    rfl
  · obtain ⟨sa, ns, rfl, hS, hl, q⟩ := h
    have hu := hu_of hr
    refine ⟨_, (Evl.pss_cut (ps_set (i := 1) sc_l_run.nd rfl (by first | exact Or.inl rfl | exact Or.inr rfl) (pe_op op_add pe_int (pe_op op_mod (pe_call (ok_l_cell T) (hr.mono (by decide)) rfl T.g_l_cell T.F_l_cell.kp T.b_l_cell .nil pass0 (pa_cons (pv 0) (pa_cons pe_int pa_nil))) pe_int)))
      (pss_cons (ps_set (i := 2) sc_l_run.nd rfl (by first | exact Or.inl rfl | exact Or.inr rfl) (pe_call (ok_l_row T) (hr.mono (by decide)) rfl T.g_l_row T.F_l_row.kp T.b_l_row .nil pass0 (pa_cons (pe_call (ok_l_cell T) (hr.mono (by decide)) rfl T.g_l_cell T.F_l_cell.kp T.b_l_cell .nil pass0 (pa_cons (pv 0) (pa_cons pe_int pa_nil))) (pa_cons pe_int (pa_cons pe_int pa_nil)))))
      (Evl.pss_cut (ps_set (i := 3) sc_l_run.nd rfl (by first | exact Or.inl rfl | exact Or.inr rfl) (pe_ix ix_tup (pe_tup (pa_cons pe_str (pa_cons pe_str pa_nil))) (pe_op op_mod (pe_ix ix_list (pv 2) pe_int (fun _ _ => rfl)) pe_int) (fun _ _ => rfl)))
      (pss_cons (ps_setLc (i := 4) (own := [("_law_num", 5)]) (g := gName 5) (tt := tYes) (by rfl) sc_l_run.nd rfl rfl (sw_true rfl rfl rfl (by decide +kernel)) (pi_list (pe_slice sl_list (pv 2) (po_some pe_int) (po_some (pe_op op_add pe_int (pe_op op_mod (pe_ix ix_list (pv 2) pe_int (fun _ _ => rfl)) pe_int))))) (blkOk_by (own := [("_law_num", 5)]) (N := ["_law_script", "_law_masts", "_law_nums", "_law_way", "_law_signs", "_law_num", "_law_slips", "_law_k", "_law_place", "_law_number"]) (sc := defScope s_l_run) (by decide +kernel)) (fun _ _ _ _ _ => (pg_name (i := 5) sc_l_run.nd rfl (by first | exact Or.inl rfl | exact Or.inr rfl))) (fun _ _ _ _ _ => pts_nil) (fun _ _ _ _ _ => (pe_op op_add pe_int (pe_op op_mod (pv 5) pe_int))))
      (pss_cons (ps_set (i := 6) sc_l_run.nd rfl (by first | exact Or.inl rfl | exact Or.inr rfl) pe_dnewT)
      (pss_cons (ps_for PassesOwn.never rfl (pi_range1 (by rfl) T.m_range (pa_cons (pe_op op_add pe_int (pe_op op_mod (pe_ix ix_list (pv 2) pe_int (fun _ _ => rfl)) pe_int)) pa_nil)) (pg_name (i := 7) sc_l_run.nd rfl (by first | exact Or.inl rfl | exact Or.inr rfl))
      (pss_cons (ps_set (i := 8) sc_l_run.nd rfl (by first | exact Or.inl rfl | exact Or.inr rfl) (pe_op op_mod (pe_ix ix_list (pv 2) (pe_op op_add pe_int (pv 7)) (fun _ _ => rfl)) (pv 1)))
      (pss_cons (ps_set (i := 9) sc_l_run.nd rfl (by first | exact Or.inl rfl | exact Or.inr rfl) (pe_op op_mod (pe_ix ix_list (pv 2) (pe_op op_add pe_int (pv 7)) (fun _ _ => rfl)) (pe_callB call_len_seq (by rfl) T.m_len PySem.boot_len (pa_cons (pv 4) pa_nil))))
      (pss_one (ps_dput hu (pv 6) (pe_tup (pa_cons (pv 8) (pa_cons (pv 9) pa_nil))) (pe_tup (pa_cons (pe_op op_add pe_int (pe_op op_mod (pe_ix ix_list (pv 2) (pe_op op_add pe_int (pv 7)) (fun _ _ => rfl)) pe_int)) (pa_cons (pe_op op_add pe_int (pe_op op_mod (pe_ix ix_list (pv 2) (pe_op op_add pe_int (pv 7)) (fun _ _ => rfl)) pe_int)) (pa_cons (pe_op op_mod (pe_ix ix_list (pv 2) (pe_op op_add pe_int (pv 7)) (fun _ _ => rfl)) pe_int) pa_nil)))) rfl)))))
      (pss_one (ps_ret (pe_tup (pa_cons (pv 1) (pa_cons (pv 3) (pa_cons (pv 4) (pa_cons (pv 6) pa_nil))))))))))))), ?_⟩
    refine ⟨fun σ' H' => ∃ n : Nat, σ' = [some (.ref sa), some (.int (n : Int)), none, none, none, none, none, none, none, none] ∧ H' = H ∧ 2 ≤ n ∧ n ≤ 12, ?_, ?_⟩
    · have h0 := Int.emod_nonneg (cellV ns 0) (b := 11) (by decide)
      have h1 := Int.emod_lt_of_pos (cellV ns 0) (b := 11) (by decide)
      refine ⟨_, rfl, sa, ns, 0, rfl, hS, by decide, _, _, rfl, rfl, (by show (0 : Int) < 11; decide), _, _, rfl, rfl, (2 + cellV ns 0 % 11).toNat, ?_, rfl, by omega, by omega⟩
      rw [Int.toNat_of_nonneg (by omega)]
      rfl
    rintro σ' H' ⟨n, rfl, rfl, hn1, hn2⟩
    refine ⟨_, rfl, sa, ns, 1, rfl, hS, by decide, _, _, _, rfl, by decide, by decide, by decide, by decide, fun nums p H1 np k1 hp ⟨hl5, hb5⟩ => ?_⟩
    have l0 : 0 < nums.length := by omega
    have l1 : 1 < nums.length := by omega
    have l2 : 2 < nums.length := by omega
    have b0 := Int.emod_nonneg nums[0] (b := 2) (by decide)
    have b1 := Int.emod_lt_of_pos nums[0] (b := 2) (by decide)
    refine ⟨fun σ' G => ∃ (u : Bool), σ' = [some (.ref sa), some (.int (n : Int)), some (.ref p), some (.str (wayN u)), none, none, none, none, none, none] ∧ Kp H1 G, ?_, ?_⟩
    · refine ⟨szl (by show 2 ≤ 100000; decide), fun t1 nt1 => ?_⟩
      generalize h_A1 : upd H1 t1 _ = A1
      have k_A1 : Kp H1 A1 := by rw [← h_A1]; exact .new nt1
      have q_A1 := (congrFun h_A1 t1).symm.trans upd_same
      clear h_A1
      have ew : ∃ u : Bool, atI [V.str "up", V.str "down"] (nums[0] % 2) = some (.str (wayN u)) := by
        rcases (show nums[0] % 2 = 0 ∨ nums[0] % 2 = 1 by omega) with e | e
        · exact ⟨true, by rw [e]; rfl⟩
        · exact ⟨false, by rw [e]; rfl⟩
      obtain ⟨u, ew⟩ := ew
      exact ⟨_, rfl, p, _, _, _, rfl, rfl, .inl (.inl (k_A1.same _ _ rfl hp)), at_int (j := 0) l0, _, _, rfl, rfl, (by show (0 : Int) < 2; decide), t1, _, _, _, rfl, rfl, .inl (.inl q_A1), ew, u, rfl, k_A1⟩
    rintro σ' G3 ⟨u, rfl, kG⟩
    have qp := kG.same _ _ rfl hp
    have c0 := Int.emod_nonneg nums[1] (b := 5) (by decide)
    have c1 := Int.emod_lt_of_pos nums[1] (b := 5) (by decide)
    obtain ⟨ms, em, hm, hml⟩ := cut_len5 (ns := nums) (a := 10) (z := 11 + nums[1] % 5) (by omega) (by omega)
    refine ⟨_, rfl, _, rfl, _, rfl, p, _, _, _, rfl, rfl, .inl (.inl qp), at_int (j := 1) l1, _, _, rfl, rfl, (by show (0 : Int) < 5; decide), _, _, rfl, rfl, _, rfl, p, _, rfl, .inl (.inl qp), fun p4 np4 => ?_⟩
    generalize h_G4 : upd G3 p4 _ = G4
    have k_G4 : Kp G3 G4 := by rw [← h_G4]; exact .new np4
    have q_G4 := (congrFun h_G4 p4).symm.trans upd_same
    clear h_G4
    have q3 : G4 p4 = some (.lst (ms.map V.int)) := by rw [← em]; exact q_G4
    clear q_G4
    refine ⟨p4, rfl, ⟨_, .inl (.inl q3)⟩, fun L3 hL3 => ?_⟩
    refine lc_list (K := K) (a := p4) (xs := ms.map V.int) (fun i H' => Kp G4 H' ∧ ∃ ss : List Int, H' L3 = some (.lst (ss.map V.int)) ∧ ss.length = i ∧ ∀ z ∈ ss, 1 ≤ z ∧ z ≤ 94) ⟨Kp.new hL3, [], upd_same, rfl, fun z h => absurd h List.not_mem_nil⟩ (fun i H' _ ⟨kp, _⟩ => kp.sqL (.inl (.inl q3))) (fun i x H' hi ⟨kp, ss, hs, hn, hg⟩ => ?_) (fun G5 ⟨kp, ss, hs, hn, hg⟩ => ?_)
    · have hil : i < ms.length := by
        have z := (List.getElem?_eq_some_iff.mp hi).1
        rw [List.length_map] at z
        exact z
      obtain ⟨z, _, rfl, _⟩ := mem_ints hi
      refine ⟨rfl, _, rfl, _, _, rfl, rfl, (by show (0 : Int) < 94; decide), _, _, rfl, rfl, _, hs, szt (by rw [List.length_map]; omega), kp.mut hL3, ss ++ [1 + z % 94], ?_, by rw [List.length_append, hn]; rfl, fun w hw => ?_⟩
      · rw [upd_same, List.map_append]
        rfl
      · rcases List.mem_append.mp hw with hw | hw
        · exact hg w hw
        · rw [List.mem_singleton.mp hw]
          omega
    rw [List.length_map] at hn
    have k35 := k_G4.trans kp
    have sn0 : ss ≠ [] := fun e => by rw [e] at hn; simp only [List.length_nil] at hn; omega
    have sn1 : 0 < ss.length := List.length_pos_iff.mpr sn0
    intro D nD
    generalize h_G6 : upd G5 D _ = G6
    have k_G6 : Kp G5 G6 := by rw [← h_G6]; exact .new nD
    have q_G6 := (congrFun h_G6 D).symm.trans upd_same
    clear h_G6
    have k06 : Kp H' G6 := ((k1.trans kG).trans k35).trans k_G6
    have nD0 : H' D = none := ((k1.trans kG).trans k35).free _ nD
    have d0 := Int.emod_nonneg nums[2] (b := 4) (by decide)
    have d1 := Int.emod_lt_of_pos nums[2] (b := 4) (by decide)
    have hp6 := (k35.trans k_G6).same _ _ rfl qp
    have hs6 := k_G6.same _ _ rfl hs
    refine ⟨_, rfl, p, _, _, _, rfl, rfl, .inl (.inl hp6), at_int (j := 2) l2, _, _, rfl, rfl, (by show (0 : Int) < 4; decide), _, _, rfl, rfl, 1 + nums[2] % 4, rfl, by omega, by omega, ?_⟩
    refine for_range (lo := 0) (n := (1 + nums[2] % 4).toNat) (fun j σ G => ∃ y7 y8 y9 : Option V, σ = [some (.ref sa), some (.int (n : Int)), some (.ref p), some (.str (wayN u)), some (.ref L3), none, some (.ref D), y7, y8, y9] ∧ Kp H' G ∧ G p = some (.lst (nums.map V.int)) ∧ G L3 = some (.lst (ss.map V.int)) ∧ Sls G D j) ⟨none, none, none, rfl, k06, hp6, hs6, [], q_G6, Nat.le_refl _, fun k v e => by cases e⟩ ?_ ?_
    · rintro j σ G hj ⟨y7, y8, y9, rfl, k, hp, hs, kvs, e1, e2, e3⟩
      rw [Int.zero_add]
      have jl : j < 4 := by omega
      have ix : ∀ c : Nat, c + j < nums.length → ∃ v : Int, atI (nums.map V.int) ((c : Int) + (j : Int)) = some (.int v) := fun c hc => ⟨nums[c + j], by
        have := at_int (ns := nums) (j := c + j) hc
        rw [← this]
        congr 1⟩
      obtain ⟨v20, a20⟩ := ix 20 (by omega)
      obtain ⟨v24, a24⟩ := ix 24 (by omega)
      obtain ⟨v28, a28⟩ := ix 28 (by omega)
      obtain ⟨v32, a32⟩ := ix 32 (by omega)
      obtain ⟨v36, a36⟩ := ix 36 (by omega)
      refine ⟨_, rfl, _, rfl, _, _, rfl, rfl, p, _, _, _, rfl, rfl, .inl (.inl hp), a20, _, rfl, _, _, rfl, rfl, (by show (0 : Int) < (n : Int); omega), ?_⟩
      refine ⟨_, rfl, _, rfl, _, _, rfl, rfl, p, _, _, _, rfl, rfl, .inl (.inl hp), a24, _, rfl, L3, _, rfl, .inl (.inl (.inl hs)), _, _, rfl, rfl, (by show (0 : Int) < (((ss.map V.int).length : Nat) : Int); rw [List.length_map]; omega), ?_⟩
      refine ⟨_, rfl, _, rfl, _, _, rfl, rfl, p, _, _, _, rfl, rfl, .inl (.inl hp), a28, _, _, rfl, rfl, (by show (0 : Int) < 94; decide), _, _, rfl, rfl, ?_⟩
      refine ⟨_, rfl, _, rfl, _, _, rfl, rfl, p, _, _, _, rfl, rfl, .inl (.inl hp), a32, _, _, rfl, rfl, (by show (0 : Int) < 94; decide), _, _, rfl, rfl, ?_⟩
      refine ⟨_, rfl, _, rfl, _, _, rfl, rfl, p, _, _, _, rfl, rfl, .inl (.inl hp), a36, _, _, rfl, rfl, (by show (0 : Int) < 3; decide), szl (by show 3 ≤ 100000; decide), fun t nt => ?_⟩
      generalize h_G7 : upd G t _ = G7
      have k_G7 : Kp G G7 := by rw [← h_G7]; exact .new nt
      have q_G7 := (congrFun h_G7 t).symm.trans upd_same
      clear h_G7
      refine ⟨_, rfl, _, rfl, _, rfl, szl (by show 2 ≤ 100000; decide), fun kt nkt => ?_⟩
      generalize h_G8 : upd G7 kt _ = G8
      have k_G8 : Kp G7 G8 := by rw [← h_G8]; exact .new nkt
      have q_G8 := (congrFun h_G8 kt).symm.trans upd_same
      clear h_G8
      have k78 := k_G7.trans k_G8
      have e1' := k78.same _ _ rfl e1
      have hp8 := k78.same _ _ rfl hp
      have hs8 := k78.same _ _ rfl hs
      refine ⟨D, _, rfl, DPut.t (k := [Sum.inl _, Sum.inl _]) e1' q_G8 (szt (by omega)), ?_⟩
      refine ⟨_, _, _, rfl, (k.trans k78).mut nD0, ?_, ?_, ?_⟩
      · rw [upd_ne (fun e => by rw [e, e1'] at hp8; cases hp8)]
        exact hp8
      · rw [upd_ne (fun e => by rw [e, e1'] at hs8; cases hs8)]
        exact hs8
      · refine Sls.put e1' e2 (fun x v e => ?_) (k_G8.same _ _ rfl q_G7) (by omega) (by omega)
        obtain ⟨b', t', s', z', f1, f2, f3, f4⟩ := e3 x v e
        exact ⟨b', t', s', z', f1, k78.same _ _ rfl f2, f3, f4⟩
    rintro σ G ⟨y7, y8, y9, rfl, k, hp, hs, hss⟩
    refine ⟨_, rfl, _, rfl, _, rfl, _, rfl, szl (by show 4 ≤ 100000; decide), fun r nr => ?_⟩
    generalize h_G8 : upd G r _ = G8
    have k_G8 : Kp G G8 := by rw [← h_G8]; exact .new nr
    have q_G8 := (congrFun h_G8 r).symm.trans upd_same
    clear h_G8
    refine q r L3 D n u ss G8 (k.trans k_G8) q_G8 ⟨k_G8.same _ _ rfl hs, sn0, by omega, hg, ?_, hn1, hn2⟩
    obtain ⟨kvs, f1, f2, f3⟩ := hss.kp k_G8
    exact ⟨kvs, f1, by omega, f3⟩
/-! ### the law's own play: states -/
theorem rise_come {s : PS} {m : Mo} (l : MoLike s m) {i a b : Int} (hp : plN s i < s.n) : slipP (comeP s m) i a b = comeP s (m.rise (plN s i) a b) := by
  have e0 : plN (comeP s m) i = plN s i := rfl
  unfold slipP
  rw [e0, mot_come l]
  generalize plN s i = p at hp
  refine come_come l.wr ((List.length_set ..).trans List.length_replicate) ((List.length_set ..).trans l.wr) rfl rfl fun j hj => ?_
  have h1 := rise_wr (M := m) (p := p) (a := a) (b := b) (by rw [l.wr]; exact hp) j
  have h2 := rise_wr (M := ({ m with wr := List.replicate s.n [] } : Mo)) (p := p) (a := a) (b := b) (by show p < (List.replicate s.n ([] : List Int)).length; rw [List.length_replicate]; exact hp) j
  rw [h1, h2]
  show _ = _ ++ (if j = p then (List.replicate s.n ([] : List Int)).getD p [] ++ [a] else (List.replicate s.n ([] : List Int)).getD j [])
  rw [rep_nil, rep_nil]
  by_cases z : j = p
  · rw [if_pos z, if_pos z, z]
    rfl
  · rw [if_neg z, if_neg z, List.append_nil]
theorem ready35 {s : PS} {M : Mo} (l : MoLike s M) {m : Int} (h : m ∈ readyP (comeP s M)) : ∃ p : Nat, p < s.n ∧ m = plI s.up s.n (p : Int) ∧ rdyM M p = true ∧ rdyP (comeP s M) m = true ∧ plN s m = p ∧ 0 ≤ m ∧ m < (s.n : Int) := by
  have e0 : readyP (comeP s M) = srt ((rdysM M).map (plI s.up s.n)) := by
    unfold readyP
    rw [mot_come l]
    rfl
  rw [e0, srt_mem] at h
  obtain ⟨z, hz, rfl⟩ := List.mem_map.mp h
  obtain ⟨p, rfl, hp, rp⟩ := rdys_iff.mp hz
  have hp' : p < s.n := by rw [l.sh] at hp; exact hp
  have b := plI_in (u := s.up) (n := (s.n : Int)) (m := (p : Int)) (by omega) (by omega)
  refine ⟨p, hp', rfl, rp, decide_eq_true ?_, ?_, b⟩
  · rw [mot_come l]
    show plI s.up s.n (plI s.up s.n (p : Int)) ∈ rdysM M
    rw [plI_plI]
    exact hz
  · unfold plN
    rw [plI_plI]
    exact Int.toNat_natCast p
theorem ready0_35 {s : PS} {M : Mo} (l : MoLike s M) (h : readyP (comeP s M) = []) : rdysM M = [] := by
  have e0 : readyP (comeP s M) = srt ((rdysM M).map (plI s.up s.n)) := by
    unfold readyP
    rw [mot_come l]
    rfl
  rw [e0, srt_nil, List.map_eq_nil_iff] at h
  exact h
theorem alg_at35 {u : Bool} {n : Nat} {sh : List Int} (hw : sh.length = n) {p : Nat} (hp : p < n) : (alg u sh).getD (plI u n (p : Int)).toNat 0 = sh.getD p 0 := by
  unfold alg plI
  cases u
  · rw [if_neg (by decide), if_neg (by decide), getD_rev, if_pos (by omega)]
    congr 1
    omega
  · rw [if_pos rfl, if_pos rfl, Int.toNat_natCast]
def s35 (n : Nat) (u : Bool) (sg : List Int) : PS := insQ { newP n with up := u } u 0 sg
theorem s35_q (n : Nat) (u : Bool) (sg : List Int) : (s35 n u sg).q u = sg := by
  show (if u = u then ([] ++ sg ++ []) else []) = sg
  rw [if_pos rfl, List.append_nil]
  rfl
theorem marks_no (k : Nat) : marks (List.replicate k false) = [] := by
  refine List.eq_nil_iff_forall_not_mem.mpr fun z hz => ?_
  obtain ⟨p, _, _, h⟩ := fil_mem.mp hz
  rw [List.getD_eq_getElem?_getD, List.getElem?_replicate] at h
  split at h <;> cases h
theorem s35_a (n : Nat) (u : Bool) (sg : List Int) (j : Nat) : (motP (s35 n u sg)).a j = 0 := by
  show (alg u (List.replicate n (0 : Int))).getD j 0 = 0
  have : alg u (List.replicate n (0 : Int)) = List.replicate n 0 := by
    unfold alg
    split
    · rfl
    · exact List.reverse_replicate
  rw [this, List.getD_eq_getElem?_getD, List.getElem?_replicate]
  split <;> rfl
theorem s35_ok {n : Nat} {u : Bool} {sg : List Int} (h1 : 2 ≤ n) (h2 : n ≤ 12) (h3 : sg.length ≤ 5) : (s35 n u sg).Ok := by
  have o := newP_ok h1 h2
  refine ⟨h1, h2, o.arms, o.sl, o.fg, fun v => ?_⟩
  show (if v = u then ([] ++ sg ++ []) else []).length ≤ 60
  split
  · rw [List.append_nil, List.nil_append]; omega
  · exact Nat.zero_le _
theorem pl0_35 {n : Nat} {u : Bool} {sg : List Int} (h1 : 2 ≤ n) (h2 : n ≤ 12) (h3 : sg.length ≤ 5) : Pl n sg (motP (s35 n u sg)) (fun _ _ => 0) (fun _ _ => 0) [] := by
  have l := like_motP (s35_ok (u := u) h1 h2 h3)
  have c0 : ∀ p, cN (motP (s35 n u sg)) p = 0 := fun p => by
    unfold cN
    rw [show (motP (s35 n u sg)).wr = List.replicate n [] from rfl, rep_nil]
    rfl
  have esl : (motP (s35 n u sg)).sl = [] := by
    show (marks (List.replicate n false)).map _ = []
    rw [marks_no]
    rfl
  have efg : (motP (s35 n u sg)).fg = [] := by
    show srt ((marks (List.replicate (n - 1) false)).map _) = []
    rw [marks_no]
    exact srt_nil.mpr rfl
  have eq : (motP (s35 n u sg)).q = sg := s35_q n u sg
  refine ⟨l.sh, l.wr, esl, efg, by rw [c0, eq, List.drop_zero], by rw [c0]; exact Nat.zero_le _, fun p _ h => absurd (s35_a n u sg p) h, fun p _ k hk => rfl, fun k hk => by rw [c0] at hk; exact absurd hk (Nat.not_lt_zero _), ⟨sg.length, fun j _ => ?_⟩, fun p k _ hk => by rw [c0] at hk; exact absurd hk (Nat.not_lt_zero _), fun z hz => ?_⟩
  · rw [c0, Nat.zero_add]
    have hf : ∀ j, hM (motP (s35 n u sg)) j = false := fun j => decide_eq_false fun y => y (s35_a n u sg j)
    induction j with
    | zero => show (motP (s35 n u sg)).q.length = _; rw [eq]
    | succ j ih =>
      show Wm (motP (s35 n u sg)) j + (if (hM (motP (s35 n u sg)) j && !hM (motP (s35 n u sg)) (j + 1)) = true then 1 else 0) = _
      rw [ih (by omega), hf]
      rfl
  · obtain ⟨j, hj, e⟩ := List.getElem_of_mem hz
    have := s35_a n u sg j
    have e1 : (motP (s35 n u sg)).a j = z := by
      show (motP (s35 n u sg)).sh.getD j 0 = z
      rw [List.getD_eq_getElem?_getD, List.getElem?_eq_getElem hj, e]
      rfl
    exact .inl (e1.symm.trans this)
theorem Pl.like {n : Nat} {u : Bool} {sg : List Int} {M : Mo} {sh cm : Nat → Nat → Int} {T : List Sl5} (h : Pl n sg M sh cm T) (h1 : 2 ≤ n) (h2 : n ≤ 12) (h3 : sg.length ≤ 5) : MoLike (s35 n u sg) M := by
  have h0 := pl0_35 (u := u) h1 h2 h3
  exact ⟨h.len, h.wl, h.sl.trans h0.sl.symm, h.fg.trans h0.fg.symm⟩
theorem Pl.cle {n : Nat} {sg : List Int} {M : Mo} {sh cm : Nat → Nat → Int} {T : List Sl5} (h : Pl n sg M sh cm T) {p : Nat} (hp : p < n) : cN M p ≤ sg.length := Nat.le_trans (h.down (Nat.zero_le p) hp) h.q0
theorem Pl.bk {n : Nat} {u : Bool} {sg : List Int} {M : Mo} {sh cm : Nat → Nat → Int} {T : List Sl5} (h : Pl n sg M sh cm T) (v : Bool) (i : Nat) : ((comeP (s35 n u sg) M).bk v i).length ≤ sg.length := by
  show (if v = u then [] ++ falseR ((algL u M.wr).getD i []) else []).length ≤ _
  split
  · rw [List.nil_append, falseR_len]
    refine few_alg (n := n) ⟨h.len, h.wl, fun w hw => ?_⟩ u i
    obtain ⟨j, hj, e⟩ := List.getElem_of_mem hw
    have e1 : M.wr.getD j [] = w := by
      rw [List.getD_eq_getElem?_getD, List.getElem?_eq_getElem hj, e]
      rfl
    rw [← e1]
    exact h.cle (by rw [← h.wl]; exact hj)
  · exact Nat.zero_le _
theorem Pl.row {n : Nat} {u : Bool} {sg : List Int} {M : Mo} {sh cm : Nat → Nat → Int} {T : List Sl5} (h : Pl n sg M sh cm T) {p : Nat} (hp : p < n) : (comeP (s35 n u sg) M).bk u (plI u n (p : Int)).toNat = falseR (M.wr.getD p []) := by
  show (if u = u then [] ++ falseR ((algL u M.wr).getD (plI u n (p : Int)).toNat []) else []) = _
  rw [if_pos rfl, List.nil_append, algL_at h.wl hp]
/-! #### the list of what was told -/
def sl5V (e : Sl5) : List V := [.int (e.1 : Int), .int (e.2.1 : Int), .int e.2.2.1, .int e.2.2.2.1, .int e.2.2.2.2]
def Tr5 (H : Hp) (W : Addr) (T : List Sl5) : Prop := ∃ ts : List Addr, H W = some (.lst (ts.map V.ref)) ∧ ts.length = T.length ∧ ∀ (i : Nat) (t : Addr) (e : Sl5), ts[i]? = some t → T[i]? = some e → H t = some (.tup (sl5V e))
theorem Tr5.kp {H H' : Hp} {W : Addr} {T : List Sl5} (h : Tr5 H W T) (k : Kp H H') : Tr5 H' W T := by
  obtain ⟨ts, h1, h2, h3⟩ := h
  exact ⟨ts, k.same _ _ rfl h1, h2, fun i t e a b => k.same _ _ rfl (h3 i t e a b)⟩
theorem Tr5.went {P : Program} {w : World} {K : PySem.W.Frag} {H H' : Hp} {L W : Addr} {x x' : LS} {T : List Sl5} (h : Tr5 H W T) (l : LineP P w K H L x) (g : Went P w K H H' L x x') (nW : W ∉ x.foot L) : Tr5 H' W T := by
  obtain ⟨ts, h1, h2, h3⟩ := h
  exact ⟨ts, g.e.same _ _ rfl nW h1, h2, fun i t e a b => g.tup l (h3 i t e a b)⟩
theorem Tr5.mut {H : Hp} {W C : Addr} {T : List Sl5} {vs : List V} {o : HO} (h : Tr5 H W T) (hC : H C = some (.lst vs)) (n : C ≠ W) : Tr5 (upd H C o) W T := by
  obtain ⟨ts, h1, h2, h3⟩ := h
  refine ⟨ts, by rw [upd_ne n.symm]; exact h1, h2, fun i t e a b => ?_⟩
  have := h3 i t e a b
  rw [upd_ne (fun z => by rw [z, hC] at this; cases this)]
  exact this
theorem Tr5.put {H : Hp} {W D : Addr} {T : List Sl5} {e : Sl5} {ts : List Addr} (h1 : H W = some (.lst (ts.map V.ref))) (h2 : ts.length = T.length) (h3 : ∀ (i : Nat) (t : Addr) (e : Sl5), ts[i]? = some t → T[i]? = some e → H t = some (.tup (sl5V e))) (hD : H D = some (.tup (sl5V e))) : Tr5 (upd H W (.lst (ts.map V.ref ++ [.ref D]))) W (T ++ [e]) := by
  have off : ∀ {x : Addr} {vs : List V}, H x = some (.tup vs) → upd H W (.lst (ts.map V.ref ++ [.ref D])) x = some (.tup vs) := fun {x vs} h => by
    rw [upd_ne (fun e => by rw [e, h1] at h; cases h)]
    exact h
  refine ⟨ts ++ [D], by rw [upd_same, List.map_append]; rfl, by rw [List.length_append, List.length_append, h2]; rfl, fun i E e' a b => off ?_⟩
  by_cases c : i < ts.length
  · rw [List.getElem?_append_left c] at a
    rw [List.getElem?_append_left (by omega)] at b
    exact h3 i E e' a b
  · rw [List.getElem?_append_right (by omega)] at a
    rw [List.getElem?_append_right (by omega)] at b
    rw [← h2] at b
    obtain ⟨z, hz⟩ : ∃ z, i - ts.length = z := ⟨_, rfl⟩
    rw [hz] at a b
    cases z with
    | zero =>
      cases Option.some.inj a
      cases Option.some.inj b
      exact hD
    | succ z => cases a
def cnts (n : Nat) (M : Mo) : List V := (List.range n).map fun p => V.int (cN M p : Int)
theorem cnts_at {n : Nat} {M : Mo} {p : Nat} (hp : p < n) : atI (cnts n M) (p : Int) = some (.int (cN M p : Int)) := atI_nat (by unfold cnts; rw [List.getElem?_map, List.getElem?_range hp]; rfl)
theorem cnts_rise {n : Nat} {M : Mo} {p : Nat} {a b : Int} (hp : p < M.wr.length) : (cnts n M).set p (.int ((cN M p : Int) + 1)) = cnts n (M.rise p a b) := by
  refine List.ext_getElem? fun j => ?_
  unfold cnts
  rw [List.getElem?_set, List.getElem?_map, List.getElem?_map]
  by_cases h : j < n
  · rw [List.getElem?_range h]
    by_cases z : p = j
    · subst z
      rw [if_pos rfl, if_pos (by rw [List.length_map, List.length_range]; exact h)]
      show _ = some (V.int (cN (M.rise p a b) p : Int))
      rw [rise_cN hp, if_pos rfl]
      congr 1
    · rw [if_neg z]
      show some (V.int (cN M j : Int)) = some (V.int (cN (M.rise p a b) j : Int))
      rw [rise_cN hp, if_neg (fun y => z y.symm)]
      rfl
  · rw [List.getElem?_eq_none (by rw [List.length_range]; omega)]
    by_cases z : p = j
    · rw [if_pos z, if_neg (by rw [List.length_map, List.length_range]; omega)]
      rfl
    · rw [if_neg z]
      rfl
theorem cnts_move {n : Nat} {M : Mo} {p : Nat} (c : M.a p ≠ 0) : cnts n (M.move p) = cnts n M := by
  have em : M.move p = { M with sh := M.sh.set p 0 } := if_neg c
  rw [em]
  rfl
/-- in the middle of the play -/
structure At5 (P : Program) (w : World) (K : PySem.W.Frag) (G H : Hp) (n : Nat) (u : Bool) (sg : List Int) (L C W : Addr) (x : LS) (M : Mo) (sh cm : Nat → Nat → Int) (T : List Sl5) : Prop where
  r : Rn P w K G H L x
  s : x.s = comeP (s35 n u sg) M
  pl : Pl n sg M sh cm T
  qm : QM M
  past : x.past.length + muM M ≤ 400
  c : H C = some (.lst (cnts n M))
  t : Tr5 H W T
  cw : C ≠ W
  nc : C ∉ x.foot L
  nw : W ∉ x.foot L
  c0 : G C = none
  w0 : G W = none
  tl : T.length + muM M ≤ 400
theorem At5.kp {P : Program} {w : World} {K : PySem.W.Frag} {G H H' : Hp} {n : Nat} {u : Bool} {sg : List Int} {L C W : Addr} {x : LS} {M : Mo} {sh cm : Nat → Nat → Int} {T : List Sl5} (h : At5 P w K G H n u sg L C W x M sh cm T) (k : Kp H H') : At5 P w K G H' n u sg L C W x M sh cm T :=
  ⟨h.r.to k, h.s, h.pl, h.qm, h.past, k.same _ _ rfl h.c, h.t.kp k, h.cw, h.nc, h.nw, h.c0, h.w0, h.tl⟩
theorem rise_qm {M : Mo} {p : Nat} {a b : Int} (h : QM M) : QM (M.rise p a b) := fun z hz => by
  have hz : z ∈ (if p = 0 then M.q.tail else M.q) := hz
  split at hz
  · exact h z (List.mem_of_mem_tail hz)
  · exact h z hz
/-! ### the law's own play: the walk -/
theorem sgOk35 {z : Int} (h : 1 ≤ z ∧ z ≤ 94) : isSg z = true := by
  unfold isSg
  rw [Bool.and_eq_true]
  exact ⟨decide_eq_true h.1, decide_eq_true h.2⟩
theorem Pl.cm_ok {n : Nat} {sg : List Int} {M : Mo} {sh cm : Nat → Nat → Int} {T : List Sl5} (h : Pl n sg M sh cm T) (hsg : ∀ z ∈ sg, 1 ≤ z ∧ z ≤ 94) {p : Nat} (rd : rdyM M p = true) (c : M.a p = 0) : 1 ≤ cmM M p ∧ cmM M p ≤ 94 := by
  have L := rdy_loc rd
  unfold cmM
  by_cases z : p = 0
  · rw [if_pos z]
    have hq := L.up0 c z
    cases e : M.q with
    | nil => exact absurd e hq
    | cons y r =>
      have : y ∈ M.q := by rw [e]; exact List.mem_cons_self
      rw [h.q] at this
      exact hsg y (List.mem_of_mem_drop this)
  · rw [if_neg z]
    have hs : M.a (p - 1) ≠ 0 := L.upB c (by omega)
    show 1 ≤ M.a (p - 1) ∧ M.a (p - 1) ≤ 94
    have e : M.a (p - 1) = M.sh.getD (p - 1) 0 := rfl
    rw [List.getD_eq_getElem?_getD] at e
    cases e2 : M.sh[p - 1]? with
    | none => rw [e2] at e; exact absurd e hs
    | some y =>
      rw [e2] at e
      have e : M.a (p - 1) = y := e
      rcases h.ok y (List.mem_of_getElem? e2) with z | z
      · exact absurd (e.trans z) hs
      · rw [e]; exact z
theorem slip_no35 {s : PS} {M : Mo} (l : MoLike s M) {m a b : Int} {p : Nat} (ep : plN s m = p) (m0 : 0 ≤ m) (m1 : m < (s.n : Int)) (rd : rdyP (comeP s M) m = true) (c : M.a p = 0) (ha : 1 ≤ a ∧ a ≤ 94) (hb : 1 ≤ b ∧ b ≤ 94) (h0 : p = 0 → a = cmM M p) : slipNo (comeP s M) m a b = none := by
  have e0 : plN (comeP s M) m = p := ep
  unfold slipNo cmP
  rw [e0, mot_come l, if_pos ⟨m0, m1⟩, if_pos ⟨sgOk35 ha, sgOk35 hb⟩, if_pos rd, if_pos (show M.sh.getD p 0 = 0 from c), if_neg]
  rintro ⟨z, ne⟩
  exact ne (h0 z)
theorem at_arm35 {u : Bool} {n : Nat} {sh : List Int} (hw : sh.length = n) {p : Nat} (hp : p < n) : atI ((alg u sh).map V.int) (plI u (n : Int) (p : Int)) = some (.int (sh.getD p 0)) := by
  have b := plI_in (u := u) (n := (n : Int)) (m := (p : Int)) (by omega) (by omega)
  have l : (plI u (n : Int) (p : Int)).toNat < (alg u sh).length := by rw [alg_len, hw]; omega
  rw [at_intZ b.1 l, ← alg_at35 (u := u) hw hp, List.getD_eq_getElem?_getD, List.getElem?_eq_getElem l]
  rfl
theorem bare35 (n : Nat) : bareP (newP n) = true := by
  unfold bareP
  rw [List.all_eq_true]
  intro z hz
  have hz : z ∈ List.replicate n (0 : Int) := hz
  rw [List.eq_of_mem_replicate hz]
  rfl
theorem wayU35 (u : Bool) : wayU (wayN u) = u := by cases u <;> decide +kernel
theorem send_no35 {s : PS} {u : Bool} {sg : List Int} (hq : s.q u = []) (hl : sg.length ≤ 5) (hg : ∀ z ∈ sg, 1 ≤ z ∧ z ≤ 94) : sendV s (wayN u) sg = none := by
  have e : sg.all isSg = true := List.all_eq_true.mpr fun z hz => sgOk35 (hg z hz)
  unfold sendV
  rw [wayN_is, wayU35, hq, e, if_neg (by decide), if_neg (by decide), if_neg (by show ¬ 60 < 0 + sg.length; omega)]
theorem zeros35 (n : Nat) : (List.replicate ((n : Int)).toNat [V.int 0]).flatten = cnts n ⟨[], [], [], [], []⟩ := by
  rw [Int.toNat_natCast]
  have e : cnts n ⟨[], [], [], [], []⟩ = List.replicate n (V.int 0) := by
    unfold cnts
    refine List.ext_getElem? fun j => ?_
    rw [List.getElem?_map, List.getElem?_replicate]
    by_cases h : j < n
    · rw [List.getElem?_range h, if_pos h]
      rfl
    · rw [List.getElem?_eq_none (by rw [List.length_range]; omega), if_neg h]
      rfl
  rw [e]
  induction n with
  | zero => rfl
  | succ n ih =>
    rw [List.replicate_succ, List.replicate_succ, List.flatten_cons]
    have ih := ih (by
      unfold cnts
      refine List.ext_getElem? fun j => ?_
      rw [List.getElem?_map, List.getElem?_replicate]
      by_cases h : j < n
      · rw [List.getElem?_range h, if_pos h]
        rfl
      · rw [List.getElem?_eq_none (by rw [List.length_range]; omega), if_neg h]
        rfl)
    rw [ih]
    rfl
theorem cnts0_35 (n : Nat) (u : Bool) (sg : List Int) : cnts n (motP (s35 n u sg)) = cnts n ⟨[], [], [], [], []⟩ := by
  unfold cnts
  refine List.map_congr_left fun p _ => ?_
  have : cN (motP (s35 n u sg)) p = 0 := by
    unfold cN
    rw [show (motP (s35 n u sg)).wr = List.replicate n [] from rfl, rep_nil]
    rfl
  rw [this]
  rfl
theorem slT_len (p k : Nat) (c a b : Int) : (slT p k c a b).length ≤ 1 := by
  unfold slT
  split <;> simp
def sp_l_play (T : Txt K mg) (P : Program) (w : World) : Sp := fun vs H Q _ => ∃ (S D : Addr) (n : Nat) (u : Bool) (sg : List Int), vs = [.int (n : Int), .str (wayN u), .ref S, .ref D] ∧ Ran5 H n sg S D ∧ GxR.TabG H T.P_tab ∧ GxR.TabG H T.P_tabS ∧ GxR.TabG H T.P_tabN ∧
  ∀ (r L C W : Addr) (x : LS) (M : Mo) (sh cm : Nat → Nat → Int) (Tr : List Sl5) (H' : Hp), At5 P w K H H' n u sg L C W x M sh cm Tr → rdysM M = [] → H' r = some (.tup [.ref L, .ref W]) → Q (.ref r) H'
theorem ok_l_play (T : Txt K mg) (TB : GxR.TabB base mg T.c_tab T.P_tab) (TBS : GxR.TabB base mg T.c_tabS T.P_tabS) (TBN : GxR.TabB base mg T.c_tabN T.P_tabN) : FnOk P w K mg base CX0 13 T.f_l_play T.d_l_play ["_law_masts", "_law_way", "_law_signs", "_law_slips"] (sp_l_play T P w) := by
  refine T.F_l_play.ok sc_l_play (fun vs H Q E h => ?_) (fun cdv A outer s H vs Q E hr h => ?_)
  · obtain ⟨S, D, n, u, sg, rfl, _⟩ := h
    rfl
  · obtain ⟨S, D, n, u, sg, rfl, hR, hT, hTS, hTN, q⟩ := h
    have hu := hu_of hr
    refine ⟨_, (pss_cons (ps_set (i := 4) sc_l_play.nd rfl (by first | exact Or.inl rfl | exact Or.inr rfl) (pe_make T.K_Line (ok_p_Line_init T) (hr.mono (by decide)) rfl T.g_Line T.b_p_Line_init .nil pass0 (pa_cons (pv 0) pa_nil)))
      (Evl.pss_cut (ps_if (pt_cmpR op_eq (pv 1) pe_str (nomark _))
      (pss_one (ps_expr (pe_meth0 (pv 4) T.cl_Line T.M_p_Line_turn (ok_p_Line_turn T TB TBN) (hr.mono (by decide)) T.b_p_Line_turn .nil passL)))
      pss_nil)
      (pss_cons (ps_expr (pe_meth (pv 4) T.cl_Line T.M_p_Line_send (ok_p_Line_send T TB TBS) (hr.mono (by decide)) T.b_p_Line_send .nil passL (pa_cons (pv 1) (pa_cons (pe_callTy call_list_of (by rfl) T.m_list (by decide +kernel) (pa_cons (pv 2) pa_nil)) pa_nil))))
      (pss_cons (ps_set (i := 5) sc_l_play.nd rfl (by first | exact Or.inl rfl | exact Or.inr rfl) (pe_op op_rep (pe_lst (pa_cons pe_int pa_nil)) (pv 0)))
      (pss_cons (ps_set (i := 6) sc_l_play.nd rfl (by first | exact Or.inl rfl | exact Or.inr rfl) (pe_lst pa_nil))
      (pss_cons (ps_set (i := 7) sc_l_play.nd rfl (by first | exact Or.inl rfl | exact Or.inr rfl) (pe_meth0 (pv 4) T.cl_Line T.M_p_Line_ready (ok_p_Line_ready T) (hr.mono (by decide)) T.b_p_Line_ready .nil pass0))
      (pss_cons (ps_while PassesOwn.never (pt_cmpR op_gt (pe_callB call_len_seq (by rfl) T.m_len PySem.boot_len (pa_cons (pv 7) pa_nil)) pe_int (nomark _))
      (pss_cons (ps_set (i := 8) sc_l_play.nd rfl (by first | exact Or.inl rfl | exact Or.inr rfl) (pe_ix ix_list (pv 7) pe_int (fun _ _ => rfl)))
      (Evl.pss_cut (ps_set (i := 9) sc_l_play.nd rfl (by first | exact Or.inl rfl | exact Or.inr rfl) (pe_ifExp (pt_cmpR op_eq (pv 1) pe_str (nomark _)) (pv 8) (pe_op op_sub (pe_op op_sub (pv 0) pe_int) (pv 8))))
      (pss_cons (ps_set (i := 10) sc_l_play.nd rfl (by first | exact Or.inl rfl | exact Or.inr rfl) (pe_meth0 (pv 4) T.cl_Line T.M_p_Line_arms (ok_p_Line_arms T) (hr.mono (by decide)) T.b_p_Line_arms .nil pass0))
      (Evl.pss_cut (ps_if (pt_cmpR op_eq (pe_ix ix_list (pv 10) (pv 8) (fun _ _ => rfl)) pe_int (nomark _))
      (pss_cons (ps_set (i := 11) sc_l_play.nd rfl (by first | exact Or.inl rfl | exact Or.inr rfl) (pe_ix ix_list (pe_op op_cat (pe_meth (pv 4) T.cl_Line T.M_p_Line_waiting (ok_p_Line_waiting T) (hr.mono (by decide)) T.b_p_Line_waiting .nil passL (pa_cons (pv 1) pa_nil)) (pe_lst (pa_cons pe_int pa_nil))) pe_int (fun _ _ => rfl)))
      (Evl.pss_cut (ps_if (pt_cmpR op_gt (pv 9) pe_int (nomark _))
      (pss_one (ps_set (i := 11) sc_l_play.nd rfl (by first | exact Or.inl rfl | exact Or.inr rfl) (pe_ifExp (pt_cmpR op_eq (pv 1) pe_str (nomark _)) (pe_ix ix_list (pv 10) (pe_op op_sub (pv 8) pe_int) (fun _ _ => rfl)) (pe_ix ix_list (pv 10) (pe_op op_add (pv 8) pe_int) (fun _ _ => rfl)))))
      pss_nil)
      (Evl.pss_cut (ps_asg (pe_dget2 hu (pv 3) (pe_tup (pa_cons (pv 9) (pa_cons (pe_ix ix_list (pv 5) (pv 9) (fun _ _ => rfl)) pa_nil))) (pe_tup (pa_cons (pv 11) (pa_cons (pv 11) (pa_cons pe_int pa_nil)))) ⟨rfl, rfl, rfl, rfl⟩) (pg_tup (n := 3) rfl (pgs_cons (pg_name (i := 12) sc_l_play.nd rfl (by first | exact Or.inl rfl | exact Or.inr rfl)) (pgs_cons (pg_name (i := 13) sc_l_play.nd rfl (by first | exact Or.inl rfl | exact Or.inr rfl)) (pgs_cons (pg_name (i := 14) sc_l_play.nd rfl (by first | exact Or.inl rfl | exact Or.inr rfl)) pgs_nil)))))
      (Evl.pss_cut (ps_if (PW.pt (pw_or (pt_cmpR op_eq (pv 14) pe_int (nomark _)) (pw_or1 (pt_cmpR op_eq (pv 9) pe_int (nomark _)))))
      (pss_one (ps_set (i := 12) sc_l_play.nd rfl (by first | exact Or.inl rfl | exact Or.inr rfl) (pv 11)))
      pss_nil)
      (Evl.pss_cut (ps_if (pt_cmpR op_eq (pv 14) pe_int (nomark _))
      (pss_one (ps_set (i := 13) sc_l_play.nd rfl (by first | exact Or.inl rfl | exact Or.inr rfl) (pv 12)))
      pss_nil)
      (Evl.pss_cut (ps_if (PW.pt (pw_or (pt_cmpR op_ne (pv 12) (pv 11) (nomark _)) (pw_or1 (pt_cmpR op_ne (pv 13) (pv 12) (nomark _)))))
      (pss_one (ps_expr (pe_bm PySem.F.plainAttrs_list PySem.F.slot_list_append PySem.F.type_list_append mt_append (pv 6) (pa_cons (pe_tup (pa_cons (pv 9) (pa_cons (pe_ix ix_list (pv 5) (pv 9) (fun _ _ => rfl)) (pa_cons (pv 11) (pa_cons (pv 12) (pa_cons (pv 13) pa_nil)))))) pa_nil))))
      pss_nil)
      (pss_cons (ps_expr (pe_meth (pv 4) T.cl_Line T.M_p_Line_slip (ok_p_Line_slip T TB TBS) (hr.mono (by decide)) T.b_p_Line_slip .nil passL (pa_cons (pv 8) (pa_cons (pv 12) (pa_cons (pv 13) pa_nil)))))
      (pss_one (ps_augS (pv 5) (pv 9) get_list pe_int ip_add set_list)))))))))
      (pss_one (ps_expr (pe_meth (pv 4) T.cl_Line T.M_p_Line_act (ok_p_Line_act T TB) (hr.mono (by decide)) T.b_p_Line_act .nil passL (pa_cons (pv 8) pa_nil)))))
      (pss_one (ps_set (i := 7) sc_l_play.nd rfl (by first | exact Or.inl rfl | exact Or.inr rfl) (pe_meth0 (pv 4) T.cl_Line T.M_p_Line_ready (ok_p_Line_ready T) (hr.mono (by decide)) T.b_p_Line_ready .nil pass0))))))))
      (pss_one (ps_ret (pe_tup (pa_cons (pv 4) (pa_cons (pv 6) pa_nil)))))))))))), ?_⟩
    have lno : ∀ {a : LA} {nm : Str}, ¬ nm = "future" → ¬ nm = "past" → ¬ nm = "state" → (fldL a.s a.p a.f).lookup nm = none := fun h1 h2 h3 => fldL_no _ _ _ h1 h2 h3
    have hn1 := hR.lo
    have hn2 := hR.hi
    have hsl := hR.few
    have wu := wayU35 u
    have wi := wayN_is u
    refine ⟨_, rfl, fun L dx nL ndx nn => ?_⟩
    refine ⟨L, dx, n, rfl, upd_same, hn1, hn2, fun a0 H1 hF e0 hL0 => ⟨rfl, ?_⟩⟩
    have k1 : Kp H H1 := kp_made nL ndx nn e0
    have r1 : Rn P w K H H1 L (newL a0 n) := .new nL ndx nn.symm hF k1 (new_line hL0 hn1 hn2)
    refine ⟨fun σ' G => ∃ x : LS, σ' = [some (.int (n : Int)), some (.str (wayN u)), some (.ref S), some (.ref D), some (.ref L), none, none, none, none, none, none, none, none, none, none] ∧ Rn P w K H G L x ∧ x.s = { newP n with up := u } ∧ x.past.length ≤ 1, ?_, ?_⟩
    · cases u with
      | true => exact ⟨_, rfl, rfl, _, rfl, iteFo (by decide +kernel) ⟨_, rfl, r1, rfl, Nat.zero_le _⟩⟩
      | false =>
        obtain ⟨dx1, hl1⟩ := r1.ln.at_.ob
        refine ⟨_, rfl, rfl, _, rfl, iteTo (by decide +kernel) ?_⟩
        refine ⟨_, rfl, L, dx1, _, rfl, hl1, lno (by decide +kernel) (by decide +kernel) (by decide +kernel), L, _, rfl, r1.ln, (by show 0 < 9000; decide), k1.tab _ hT, k1.tab _ hTN, fun c => ?_, fun _ a' G g => ?_⟩
        · rw [show bareP (newL a0 n).s = true from bare35 n] at c
          cases c
        · exact ⟨_, rfl, r1.step g, rfl, Nat.le_refl _⟩
    rintro σ' G ⟨x, rfl, rx, xs, xp⟩
    obtain ⟨dx2, hl2⟩ := rx.ln.at_.ob
    refine ⟨_, rfl, L, dx2, _, rfl, hl2, lno (by decide +kernel) (by decide +kernel) (by decide +kernel), _, rfl, _, rfl, S, _, rfl, .inl (.inl (.inl (rx.kp.same _ _ rfl hR.sl))), fun l nl => ?_⟩
    generalize h_G1 : upd G l _ = G1
    have k_G1 : Kp G G1 := by rw [← h_G1]; exact .new nl
    have q_G1 := (congrFun h_G1 l).symm.trans upd_same
    clear h_G1
    have rx1 := rx.to k_G1
    have xq : x.s.q u = [] := by rw [xs]; rfl
    have sv := send_no35 (s := x.s) (u := u) (sg := sg) xq hsl hR.sg
    refine ⟨L, x, wayN u, l, sg, rfl, rx1.ln, .inl (.inl q_G1), rx.ln.foot_none nl, by omega, by omega, rx1.kp.tab _ hT, rx1.kp.tab _ hTS, fun e h => (by rw [sv] at h; cases h), fun _ e => absurd e hR.ne, fun _ _ a' G2 g => ?_⟩
    have rx2 := rx1.step g
    have es : (sentL x a' "send" (wayN u) (if false = true then 0 else (x.s.q (wayU (wayN u))).length) sg).s = s35 n u sg := by
      show insQ x.s (wayU (wayN u)) (x.s.q (wayU (wayN u))).length sg = _
      rw [wu, xq, xs]
      rfl
    have ep : (sentL x a' "send" (wayN u) (if false = true then 0 else (x.s.q (wayU (wayN u))).length) sg).past.length ≤ 2 := by
      show (x.past ++ [_]).length ≤ 2
      rw [List.length_append]
      show x.past.length + 1 ≤ 2
      omega
    generalize sentL x a' "send" (wayN u) (if false = true then 0 else (x.s.q (wayU (wayN u))).length) sg = x2 at rx2 es ep g
    refine ⟨szl (by show 1 ≤ 100000; decide), fun l0 nl0 => ?_⟩
    generalize h_G3 : upd G2 l0 _ = G3
    have k_G3 : Kp G2 G3 := by rw [← h_G3]; exact .new nl0
    have q_G3 := (congrFun h_G3 l0).symm.trans upd_same
    clear h_G3
    refine ⟨_, rfl, l0, _, _, rfl, rfl, q_G3, by omega, by omega, szl (by show 1 * ((n : Int)).toNat ≤ 100000; omega), fun C nC => ?_⟩
    generalize h_G4 : upd G3 C _ = G4
    have k_G4 : Kp G3 G4 := by rw [← h_G4]; exact .new nC
    have q_G4 := (congrFun h_G4 C).symm.trans upd_same
    clear h_G4
    refine ⟨Nat.zero_le _, fun W nW => ?_⟩
    generalize h_G5 : upd G4 W _ = G5
    have k_G5 : Kp G4 G5 := by rw [← h_G5]; exact .new nW
    have q_G5 := (congrFun h_G5 W).symm.trans upd_same
    clear h_G5
    rw [zeros35, ← cnts0_35 n u sg] at q_G4
    have k25 := (k_G3.trans k_G4).trans k_G5
    have rx5 := rx2.to k25
    have o := s35_ok (u := u) hn1 hn2 hsl
    have p0 := pl0_35 (u := u) hn1 hn2 hsl
    have mu0 : muM (motP (s35 n u sg)) ≤ 372 := mu_few (by rw [p0.len]; exact hn2) (by rw [show (motP (s35 n u sg)).q = sg from s35_q n u sg]; omega)
    have nC0 : H C = none := (rx2.to k_G3).kp.free _ nC
    have nW0 : H W = none := ((rx2.to k_G3).to k_G4).kp.free _ nW
    have A0 : At5 P w K H G5 n u sg L C W x2 (motP (s35 n u sg)) (fun _ _ => 0) (fun _ _ => 0) [] := by
      refine ⟨rx5, es.trans (come_id o).symm, p0, fun z hz => ?_, by omega, k_G5.same _ _ rfl q_G4, ⟨[], q_G5, rfl, fun i t e a => by cases a⟩, fun e => ?_, (rx2.to k_G3).ln.foot_none nC, ((rx2.to k_G3).to k_G4).ln.foot_none nW, nC0, nW0, (by show 0 + _ ≤ _; omega)⟩
      · rw [show (motP (s35 n u sg)).q = sg from s35_q n u sg] at hz
        have := hR.sg z hz
        omega
      · rw [e, nW] at q_G4
        cases q_G4
    obtain ⟨dx5, hl5⟩ := rx5.ln.at_.ob
    refine ⟨_, rfl, L, dx5, _, rfl, hl5, lno (by decide +kernel) (by decide +kernel) (by decide +kernel), L, _, rfl, rx5.ln, fun R G6 nR k6 hR6 => ?_⟩
    refine ⟨fun j σ G => ∃ (x : LS) (M : Mo) (sh cm : Nat → Nat → Int) (Tr : List Sl5) (R : Addr) (y8 y9 y10 y11 y12 y13 y14 : Option V), muM M = j ∧ σ = [some (.int (n : Int)), some (.str (wayN u)), some (.ref S), some (.ref D), some (.ref L), some (.ref C), some (.ref W), some (.ref R), y8, y9, y10, y11, y12, y13, y14] ∧ At5 P w K H G n u sg L C W x M sh cm Tr ∧ G R = some (.lst ((readyP x.s).map V.int)), ⟨_, x2, _, _, _, _, R, none, none, none, none, none, none, none, rfl, rfl, A0.kp k6, hR6⟩, ?_⟩
    clear A0 hl5 es ep
    rintro j σ G ⟨x, M, sh, cm, Tr, R, y8, y9, y10, y11, y12, y13, y14, ej, rfl, at5, hR'⟩
    have li := at5.pl.like (u := u) hn1 hn2 hsl
    refine ⟨_, rfl, R, _, rfl, .inl (.inl (.inl hR')), _, _, rfl, rfl, _, rfl, ?_⟩
    rw [List.length_map]
    by_cases z : readyP x.s = []
    · rw [z]
      refine iteFo rfl ?_
      refine ⟨_, rfl, _, rfl, szl (by show 2 ≤ 100000; decide), fun r nr => ?_⟩
      generalize h_G7 : upd G r _ = G7
      have k_G7 : Kp G G7 := by rw [← h_G7]; exact .new nr
      have q_G7 := (congrFun h_G7 r).symm.trans upd_same
      clear h_G7
      exact q r L C W x M sh cm Tr G7 (at5.kp k_G7) (ready0_35 li (by rw [← at5.s]; exact z)) q_G7
    have ll : (0 : Int) < ((readyP x.s).length : Int) := by
      have := List.length_pos_iff.mpr z
      omega
    refine iteTo (decide_eq_true ll) ⟨_, fun σ' H'' w => w, ?_⟩
    cases er : readyP x.s with
    | nil => exact absurd er z
    | cons m ms => ?_
    rw [er] at hR'
    obtain ⟨p, hp, em, rd, rdp, ep, m0, m1⟩ := ready35 li (by rw [← at5.s, er]; exact List.mem_cons_self)
    have hpl : p < M.sh.length := by rw [at5.pl.len]; exact hp
    have em : m = plI u (n : Int) (p : Int) := em
    have m1 : m < (n : Int) := m1
    have hp : p < n := hp
    refine ⟨_, rfl, R, _, _, _, rfl, rfl, .inl (.inl hR'), atI_nat (j := 0) rfl, ?_⟩
    refine ⟨fun σ' H' => ∃ z : Int, z = (p : Int) ∧ σ' = [some (.int (n : Int)), some (.str (wayN u)), some (.ref S), some (.ref D), some (.ref L), some (.ref C), some (.ref W), some (.ref R), some (.int m), some (.int z), y10, y11, y12, y13, y14] ∧ G = H', ?_, ?_⟩
    · cases u with
      | true => exact ⟨_, rfl, rfl, _, rfl, iteTo (by decide +kernel) ⟨_, rfl, m, em, rfl, rfl⟩⟩
      | false =>
        refine ⟨_, rfl, rfl, _, rfl, iteFo (by decide +kernel) ⟨_, rfl, _, _, rfl, rfl, _, rfl, _, _, rfl, rfl, (n : Int) - 1 - m, ?_, rfl, rfl⟩⟩
        have : m = (n : Int) - 1 - (p : Int) := em
        omega
    rintro σ' H' ⟨_, rfl, rfl, rfl⟩
    obtain ⟨dxa, hla⟩ := at5.r.ln.at_.ob
    refine ⟨_, rfl, L, dxa, _, rfl, hla, lno (by decide +kernel) (by decide +kernel) (by decide +kernel), L, x, rfl, at5.r.ln, fun A G1 nA k1g hA => ?_⟩
    have at1 := at5.kp k1g
    have ea : x.s.arms = alg u M.sh := by rw [at5.s]; rfl
    have hA : G1 A = some (.lst (x.s.arms.map V.int)) := hA
    rw [ea] at hA
    have hAm : atI ((alg u M.sh).map V.int) m = some (.int (M.a p)) := by rw [em]; exact at_arm35 at5.pl.len hp
    refine ⟨fun σ' G' => ∃ (x' : LS) (M' : Mo) (sh' cm' : Nat → Nat → Int) (T' : List Sl5) (z11 z12 z13 z14 : Option V), σ' = [some (.int (n : Int)), some (.str (wayN u)), some (.ref S), some (.ref D), some (.ref L), some (.ref C), some (.ref W), some (.ref R), some (.int m), some (.int (p : Int)), some (.ref A), z11, z12, z13, z14] ∧ At5 P w K H G' n u sg L C W x' M' sh' cm' T' ∧ muM M' + 1 = muM M, ?_, ?_⟩
    · obtain ⟨dx1, hl1⟩ := at1.r.ln.at_.ob
      refine ⟨_, rfl, _, rfl, A, _, _, _, rfl, rfl, .inl (.inl hA), hAm, rfl, _, rfl, ?_⟩
      have bk9 : ∀ v i, (x.s.bk v i).length ≤ 9000 := fun v i => by
        have := at5.pl.bk (u := u) v i
        rw [at5.s]
        omega
      have pst := at5.past
      by_cases c : M.a p = 0
      case neg =>
        refine iteFo (decide_eq_false fun y => c (V.int.inj y)) ?_
        refine ⟨_, rfl, L, dx1, _, rfl, hl1, lno (by decide +kernel) (by decide +kernel) (by decide +kernel), _, rfl, L, x, m, rfl, at1.r.ln, by omega, bk9, at1.r.kp.tab _ hT, fun c1 => absurd ⟨m0, by rw [at5.s]; exact m1⟩ c1, fun _ c2 => (by rw [at5.s, rdp] at c2; cases c2), fun _ _ a' G2 g => ?_⟩
        have mu := (mu_move hpl (at5.pl.wl.trans at5.pl.len.symm) (rdy_loc rd) at5.qm).1
        have es : (actedL x a' m).s = comeP (s35 n u sg) (M.move p) := by
          show actP x.s m = _
          rw [at5.s, act_come li (by rw [ep]; exact hp), ep]
        have epa : (actedL x a' m).past.length ≤ x.past.length + 1 := by
          show (x.past ++ [_]).length ≤ _
          rw [List.length_append]
          exact Nat.le_refl _
        generalize actedL x a' m = x' at es epa g
        refine ⟨x', M.move p, sh, cm, Tr, y11, y12, y13, y14, rfl, ⟨at1.r.step g, es, at5.pl.lower at5.qm hp rd c, ?_, by omega, ?_, at1.t.went at1.r.ln g at1.nw, at1.cw, ?_, ?_, at1.c0, at1.w0, (by have := at1.tl; omega)⟩, mu⟩
        · rw [show M.move p = { M with sh := M.sh.set p 0 } from if_neg c]
          exact at5.qm
        · rw [cnts_move c]
          exact g.e.same _ _ rfl at1.nc at1.c
        · exact g.off (by rw [at1.c]; intro y; cases y) at1.nc
        · obtain ⟨ts, ht, _⟩ := at1.t
          exact g.off (by rw [ht]; intro y; cases y) at1.nw
      refine iteTo (decide_eq_true (by rw [c])) ?_
      have L0 := rdy_loc rd
      have cok := at5.pl.cm_ok hR.sg rd c
      -- what comes
      refine ⟨_, rfl, L, dx1, _, rfl, hl1, lno (by decide +kernel) (by decide +kernel) (by decide +kernel), _, rfl, L, x, wayN u, rfl, at1.r.ln, fun _ B G2 nB k2g hB => ?_, fun cw => (by rw [wi] at cw; cases cw)⟩
      refine ⟨szl (by show 1 ≤ 100000; decide), fun t0 nt0 => ?_⟩
      generalize h_G3 : upd G2 t0 _ = G3
      have k_G3 : Kp G2 G3 := by rw [← h_G3]; exact .new nt0
      have q_G3 := (congrFun h_G3 t0).symm.trans upd_same
      clear h_G3
      have eq : x.s.q (wayU (wayN u)) = M.q := by rw [wu, at5.s]; exact if_pos rfl
      rw [eq] at hB
      have ql : M.q.length ≤ 5 := by rw [at5.pl.q, List.length_drop]; omega
      refine ⟨B, t0, _, _, rfl, rfl, k_G3.same _ _ rfl hB, q_G3, szl (by show (M.q.map V.int).length + 1 ≤ 100000; rw [List.length_map]; omega), fun E0 nE0 => ?_⟩
      generalize h_G4 : upd G3 E0 _ = G4
      have k_G4 : Kp G3 G4 := by rw [← h_G4]; exact .new nE0
      have q_G4 := (congrFun h_G4 E0).symm.trans upd_same
      clear h_G4
      have hh : atI (M.q.map V.int ++ [V.int 0]) 0 = some (.int (M.q.headD 0)) := by
        cases M.q <;> exact atI_nat (j := 0) rfl
      refine ⟨E0, _, _, _, rfl, rfl, .inl (.inl q_G4), hh, ?_⟩
      have k14 := (k2g.trans k_G3).trans k_G4
      have at4 := at1.kp k14
      have hA4 := k14.same _ _ rfl hA
      refine ⟨fun σ' H' => ∃ z : Int, z = cmM M p ∧ σ' = [some (.int (n : Int)), some (.str (wayN u)), some (.ref S), some (.ref D), some (.ref L), some (.ref C), some (.ref W), some (.ref R), some (.int m), some (.int (p : Int)), some (.ref A), some (.int z), y12, y13, y14] ∧ G4 = H', ?_, ?_⟩
      · refine ⟨_, rfl, _, _, rfl, rfl, _, rfl, ?_⟩
        by_cases z : p = 0
        · refine iteFo (decide_eq_false (by show ¬ (0 : Int) < (p : Int); omega)) ⟨_, ?_, rfl, rfl⟩
          unfold cmM
          rw [if_pos z]
        · refine iteTo (decide_eq_true (by show (0 : Int) < (p : Int); omega)) ?_
          have e2 : cmM M p = M.a (p - 1) := if_neg z
          have hb := at_arm35 (u := u) at5.pl.len (p := p - 1) (by omega)
          cases u with
          | true =>
            have em2 : m - 1 = plI true (n : Int) ((p - 1 : Nat) : Int) := by
              have : m = (p : Int) := em
              show m - 1 = ((p - 1 : Nat) : Int)
              omega
            refine ⟨_, rfl, rfl, _, rfl, iteTo (by decide +kernel) ⟨_, rfl, _, rfl, _, _, rfl, rfl, A, _, _, _, rfl, rfl, .inl (.inl hA4), (by rw [em2]; exact hb), _, e2.symm, rfl, rfl⟩⟩
          | false =>
            have em2 : m + 1 = plI false (n : Int) ((p - 1 : Nat) : Int) := by
              have : m = (n : Int) - 1 - (p : Int) := em
              show m + 1 = (n : Int) - 1 - ((p - 1 : Nat) : Int)
              omega
            refine ⟨_, rfl, rfl, _, rfl, iteFo (by decide +kernel) ⟨_, rfl, _, rfl, _, _, rfl, rfl, A, _, _, _, rfl, rfl, .inl (.inl hA4), (by rw [em2]; exact hb), _, e2.symm, rfl, rfl⟩⟩
      rintro σ' H' ⟨_, rfl, rfl, rfl⟩
      -- the slip that was drawn
      refine ⟨fun σ' H' => ∃ t s kd : Int, (1 ≤ t ∧ t ≤ 94) ∧ (1 ≤ s ∧ s ≤ 94) ∧ σ' = [some (.int (n : Int)), some (.str (wayN u)), some (.ref S), some (.ref D), some (.ref L), some (.ref C), some (.ref W), some (.ref R), some (.int m), some (.int (p : Int)), some (.ref A), some (.int (cmM M p)), some (.int t), some (.int s), some (.int kd)] ∧ Kp G4 H', ?_, ?_⟩
      · obtain ⟨kvs, d1, d2, d3⟩ := hR.ss.kp at4.r.kp
        refine ⟨_, rfl, D, rfl, .inr ⟨_, .inl d1⟩, _, rfl, _, rfl, _, rfl, C, _, _, _, rfl, rfl, .inl (.inl at4.c), cnts_at hp, szl (by show 2 ≤ 100000; decide), fun kt nkt => ?_⟩
        generalize h_G5 : upd G4 kt _ = G5
        have k_G5 : Kp G4 G5 := by rw [← h_G5]; exact .new nkt
        have q_G5 := (congrFun h_G5 kt).symm.trans upd_same
        clear h_G5
        refine ⟨_, rfl, _, rfl, szl (by show 3 ≤ 100000; decide), fun td ntd => ?_⟩
        generalize h_G6 : upd G5 td _ = G6
        have k_G6 : Kp G5 G6 := by rw [← h_G6]; exact .new ntd
        have q_G6 := (congrFun h_G6 td).symm.trans upd_same
        clear h_G6
        have k46 := k_G5.trans k_G6
        have got : ∃ (b : Addr) (t s z : Int), (valV kvs [Sum.inl (p : Int), Sum.inl (cN M p : Int)]).getD (.ref td) = .ref b ∧ G6 b = some (.tup [.int t, .int s, .int z]) ∧ (1 ≤ t ∧ t ≤ 94) ∧ (1 ≤ s ∧ s ≤ 94) := by
          cases e : valV kvs [Sum.inl (p : Int), Sum.inl (cN M p : Int)] with
          | none => exact ⟨td, _, _, _, rfl, q_G6, cok, cok⟩
          | some v =>
            obtain ⟨b, t, s, z, f1, f2, f3, f4⟩ := d3 _ v e
            exact ⟨b, t, s, z, f1, k46.same _ _ rfl f2, f3, f4⟩
        obtain ⟨b, t, s, z, f1, f2, f3, f4⟩ := got
        exact ⟨_, DGet.t (k := [Sum.inl (p : Int), Sum.inl (cN M p : Int)]) (k46.same _ _ rfl d1) (k_G6.same _ _ rfl q_G5), b, _, f1, .inl (.inl f2), rfl, _, _, rfl, _, _, rfl, _, _, rfl, rfl, t, s, z, f3, f4, rfl, k46⟩
      rintro σ' G5 ⟨t, s, kd, ht, hs, rfl, k45⟩
      refine ⟨fun σ' H' => ∃ t : Int, (1 ≤ t ∧ t ≤ 94) ∧ (p = 0 → t = cmM M p) ∧ σ' = [some (.int (n : Int)), some (.str (wayN u)), some (.ref S), some (.ref D), some (.ref L), some (.ref C), some (.ref W), some (.ref R), some (.int m), some (.int (p : Int)), some (.ref A), some (.int (cmM M p)), some (.int t), some (.int s), some (.int kd)] ∧ G5 = H', ?_, ?_⟩
      · refine ⟨_, rfl, rfl, _, rfl, iteD (fun c1 => ?_) (fun c1 => ?_)⟩
        · exact iteTo rfl ⟨_, rfl, cmM M p, cok, fun _ => rfl, rfl, rfl⟩
        · refine ⟨_, rfl, rfl, _, rfl, iteD (fun c2 => ?_) (fun c2 => ?_)⟩
          · exact ⟨_, rfl, cmM M p, cok, fun _ => rfl, rfl, rfl⟩
          · exact ⟨t, ht, fun y => absurd (by rw [y]; rfl) c2, rfl, rfl⟩
      rintro σ' H' ⟨t, ht, h0, rfl, rfl⟩
      refine ⟨fun σ' H' => ∃ s : Int, (1 ≤ s ∧ s ≤ 94) ∧ σ' = [some (.int (n : Int)), some (.str (wayN u)), some (.ref S), some (.ref D), some (.ref L), some (.ref C), some (.ref W), some (.ref R), some (.int m), some (.int (p : Int)), some (.ref A), some (.int (cmM M p)), some (.int t), some (.int s), some (.int kd)] ∧ G5 = H', ?_, ?_⟩
      · refine ⟨_, rfl, rfl, _, rfl, iteD (fun c1 => ?_) (fun c1 => ?_)⟩
        · exact ⟨_, rfl, t, ht, rfl, rfl⟩
        · exact ⟨s, hs, rfl, rfl⟩
      rintro σ' H' ⟨s, hs, rfl, rfl⟩
      have at5g := at4.kp k45
      refine ⟨fun σ' H' => σ' = [some (.int (n : Int)), some (.str (wayN u)), some (.ref S), some (.ref D), some (.ref L), some (.ref C), some (.ref W), some (.ref R), some (.int m), some (.int (p : Int)), some (.ref A), some (.int (cmM M p)), some (.int t), some (.int s), some (.int kd)] ∧ Rn P w K H H' L x ∧ H' C = some (.lst (cnts n M)) ∧ Tr5 H' W (Tr ++ slT p (cN M p) (cmM M p) t s), ?_, ?_⟩
      · have no : (t = cmM M p ∧ s = t) → Tr ++ slT p (cN M p) (cmM M p) t s = Tr := fun y => by
          unfold slT
          rw [if_neg (by rintro (y1 | y1); exact y1 y.1; exact y1 y.2), List.append_nil]
        have yes : (t ≠ cmM M p ∨ s ≠ t) → slT p (cN M p) (cmM M p) t s = [(p, cN M p, cmM M p, t, s)] := fun y => if_pos y
        have app : (t ≠ cmM M p ∨ s ≠ t) → ∀ (D5 : Addr) (G6 : Hp), Kp G5 G6 → G6 D5 = some (.tup (sl5V (p, cN M p, cmM M p, t, s))) → ∀ ts : List Addr, G5 W = some (.lst (ts.map V.ref)) → ts.length = Tr.length → (∀ (i : Nat) (t : Addr) (e : Sl5), ts[i]? = some t → Tr[i]? = some e → G5 t = some (.tup (sl5V e))) → Rn P w K H (upd G6 W (.lst (ts.map V.ref ++ [.ref D5]))) L x ∧ upd G6 W (.lst (ts.map V.ref ++ [.ref D5])) C = some (.lst (cnts n M)) ∧ Tr5 (upd G6 W (.lst (ts.map V.ref ++ [.ref D5]))) W (Tr ++ slT p (cN M p) (cmM M p) t s) := fun y D5 G6 k56 hD5 ts w1 w2 w3 => by
          have hW6 := k56.same _ _ rfl w1
          refine ⟨⟨(at5g.r.kp.trans k56).mut at5g.w0, (at5g.r.ln.kp k56).putL hW6 at5g.nw, at5g.r.fr⟩, ?_, ?_⟩
          · rw [upd_ne at5g.cw]
            exact k56.same _ _ rfl at5g.c
          · rw [yes y]
            exact Tr5.put hW6 w2 (fun i t e a b => k56.same _ _ rfl (w3 i t e a b)) hD5
        obtain ⟨ts, w1, w2, w3⟩ := at5g.t
        have tl := at5.pl.cle hp
        have tll := at5.tl
        refine ⟨_, rfl, _, rfl, rfl, _, rfl, iteN (fun c1 => ?_) (fun c1 => ?_)⟩
        · refine iteTo rfl ?_
          refine ⟨_, rfl, .inl ⟨rfl, _, .inl (.inl w1)⟩, _, rfl, _, rfl, _, rfl, C, _, _, _, rfl, rfl, .inl (.inl at5g.c), cnts_at hp, _, rfl, _, rfl, _, rfl, szl (by show 5 ≤ 100000; decide), fun D5 nD5 => ?_⟩
          generalize h_G6 : upd G5 D5 _ = G6
          have k_G6 : Kp G5 G6 := by rw [← h_G6]; exact .new nD5
          have q_G6 := (congrFun h_G6 D5).symm.trans upd_same
          clear h_G6
          exact ⟨W, _, _, rfl, rfl, k_G6.same _ _ rfl w1, szt (by rw [List.length_map]; omega), rfl, app (.inl (fun y => c1 (by rw [y]))) D5 G6 k_G6 q_G6 ts w1 w2 w3⟩
        · refine ⟨_, rfl, _, rfl, rfl, _, rfl, iteN (fun c2 => ?_) (fun c2 => ?_)⟩
          · refine ⟨_, rfl, .inl ⟨rfl, _, .inl (.inl w1)⟩, _, rfl, _, rfl, _, rfl, C, _, _, _, rfl, rfl, .inl (.inl at5g.c), cnts_at hp, _, rfl, _, rfl, _, rfl, szl (by show 5 ≤ 100000; decide), fun D5 nD5 => ?_⟩
            generalize h_G6 : upd G5 D5 _ = G6
            have k_G6 : Kp G5 G6 := by rw [← h_G6]; exact .new nD5
            have q_G6 := (congrFun h_G6 D5).symm.trans upd_same
            clear h_G6
            exact ⟨W, _, _, rfl, rfl, k_G6.same _ _ rfl w1, szt (by rw [List.length_map]; omega), rfl, app (.inr (fun y => c2 (by rw [y]))) D5 G6 k_G6 q_G6 ts w1 w2 w3⟩
          · exact ⟨rfl, at5g.r, at5g.c, by rw [no ⟨V.int.inj c1, V.int.inj c2⟩]; exact ⟨ts, w1, w2, w3⟩⟩
      rintro σ' G6 ⟨rfl, r6, c6, t6⟩
      obtain ⟨dx6, hl6⟩ := r6.ln.at_.ob
      refine ⟨_, rfl, L, dx6, _, rfl, hl6, lno (by decide +kernel) (by decide +kernel) (by decide +kernel), _, rfl, _, rfl, _, rfl, L, x, m, t, s, rfl, r6.ln, by omega, bk9, r6.kp.tab _ hT, r6.kp.tab _ hTS, fun e he => ?_, fun _ a' G7 g => ?_⟩
      · rw [at5.s, slip_no35 li ep m0 m1 rdp c ht hs h0] at he
        cases he
      have mu := (rise_mu (seen := t) (shows := s) hpl (at5.pl.wl.trans at5.pl.len.symm) L0 c (by omega)).1
      have es : (slippedL x a' m t s).s = comeP (s35 n u sg) (M.rise p t s) := by
        show slipP x.s m t s = _
        rw [at5.s, rise_come li (by rw [ep]; exact hp), ep]
      have epa : (slippedL x a' m t s).past.length ≤ x.past.length + 1 := by
        show (x.past ++ [_]).length ≤ _
        rw [List.length_append]
        exact Nat.le_refl _
      generalize slippedL x a' m t s = x' at es epa g
      have r7 := r6.step g
      have c7 := g.e.same _ _ rfl at5.nc c6
      have t7 := t6.went r6.ln g at5.nw
      have n7 : C ∉ x'.foot L := g.off (by rw [c6]; intro y; cases y) at5.nc
      have w7 : W ∉ x'.foot L := by
        obtain ⟨ts, hts, _⟩ := t6
        exact g.off (by rw [hts]; intro y; cases y) at5.nw
      refine ⟨_, rfl, _, rfl, C, _, _, _, rfl, rfl, .inl (.inl c7), cnts_at hp, _, _, rfl, rfl, C, _, _, p, rfl, rfl, c7, Evl.ixN_nat (by unfold cnts; rw [List.length_map, List.length_range]; exact hp), ?_⟩
      rw [cnts_rise (a := t) (b := s) (by rw [at5.pl.wl]; exact hp)]
      refine ⟨x', M.rise p t s, _, _, _, _, _, _, _, rfl, ⟨⟨r7.kp.mut at5.c0, r7.ln.putL c7 n7, r7.fr⟩, es, at5.pl.rise hp rd c hs h0, rise_qm at5.qm, by omega, upd_same, t7.mut c7 at5.cw, at5.cw, n7, w7, at5.c0, at5.w0, (by have h1 := at5.tl; have h2 := slT_len p (cN M p) (cmM M p) t s; rw [List.length_append]; omega)⟩, mu⟩
    rintro σ' G2 ⟨x', M', sh', cm', T', z11, z12, z13, z14, rfl, at2, mu⟩
    obtain ⟨dx2', hl2'⟩ := at2.r.ln.at_.ob
    refine ⟨_, rfl, L, dx2', _, rfl, hl2', lno (by decide +kernel) (by decide +kernel) (by decide +kernel), L, x', rfl, at2.r.ln, fun R2 G3 nR2 k3 hR2 => ?_⟩
    exact ⟨muM M', by omega, x', M', sh', cm', T', R2, _, _, _, _, _, _, _, rfl, rfl, at2.kp k3, hR2⟩
/-! ### rows lost by a drawn share -/
def Sm5 (s s' : PS) : Prop := s'.n = s.n ∧ ∀ v i, (s'.bk v i).map (·.1) = (s.bk v i).map (·.1)
theorem Sm5.refl (s : PS) : Sm5 s s := ⟨rfl, fun _ _ => rfl⟩
theorem Sm5.trans {a b c : PS} (h : Sm5 a b) (g : Sm5 b c) : Sm5 a c := ⟨g.1.trans h.1, fun v i => (g.2 v i).trans (h.2 v i)⟩
theorem Sm5.len {s s' : PS} (h : Sm5 s s') (v : Bool) (i : Nat) : (s'.bk v i).length = (s.bk v i).length := by
  have := congrArg List.length (h.2 v i)
  rw [List.length_map, List.length_map] at this
  exact this
theorem fst_set5 (xs : List (Int × Bool)) (k : Nat) (b : Bool) : (xs.set k ((xs.getD k (0, false)).1, b)).map (·.1) = xs.map (·.1) := by
  refine List.ext_getElem? fun j => ?_
  rw [List.getElem?_map, List.getElem?_map, List.getElem?_set]
  by_cases z : k = j
  · subst z
    rw [if_pos rfl]
    by_cases y : k < xs.length
    · rw [if_pos y, List.getElem?_eq_getElem y, List.getD_eq_getElem?_getD, List.getElem?_eq_getElem y]
      rfl
    · rw [if_neg y, List.getElem?_eq_none (by omega)]
  · rw [if_neg z]
theorem booked_bk5 (s : PS) (u : Bool) (m k : Nat) (b : Bool) (v : Bool) (i : Nat) : (s.booked (wayN u) (m : Int) (k : Int) b).bk v i = if v = u ∧ i = m then (s.bk u m).set k (((s.bk u m).getD k (0, false)).1, b) else s.bk v i := by
  show (if v = wayU (wayN u) ∧ i = ((m : Int)).toNat then (s.bk (wayU (wayN u)) ((m : Int)).toNat).set ((k : Int)).toNat (((s.bk (wayU (wayN u)) ((m : Int)).toNat).getD ((k : Int)).toNat (0, false)).1, b) else s.bk v i) = _
  rw [wayU35, Int.toNat_natCast, Int.toNat_natCast]
theorem booked_sm5 (s : PS) (u : Bool) (m k : Nat) (b : Bool) : Sm5 s (s.booked (wayN u) (m : Int) (k : Int) b) := by
  refine ⟨rfl, fun v i => ?_⟩
  rw [booked_bk5]
  by_cases c : v = u ∧ i = m
  · rw [if_pos c, fst_set5, c.1, c.2]
  · rw [if_neg c]
/-- from sign i and mast j on no row is lost -/
def Un5 (s : PS) (u : Bool) (i j : Nat) : Prop := ∀ m k, (i < k ∨ (k = i ∧ j ≤ m)) → ((s.bk u m).getD k (0, false)).2 = false
theorem Un5.up {s : PS} {u : Bool} {i j : Nat} (h : Un5 s u i j) {j' : Nat} (e : j ≤ j') : Un5 s u i j' := fun m k c => h m k (c.imp id fun ⟨a, b⟩ => ⟨a, by omega⟩)
theorem Un5.next {s : PS} {u : Bool} {i j : Nat} (h : Un5 s u i j) (j' : Nat) : Un5 s u (i + 1) j' := fun m k c => h m k (.inl (by rcases c with c | ⟨c, _⟩ <;> omega))
theorem Un5.put {s : PS} {u : Bool} {i j : Nat} (h : Un5 s u i j) : Un5 (s.booked (wayN u) (j : Int) (i : Int) true) u i (j + 1) := fun m k c => by
  have h0 := h m k (c.imp id fun ⟨a, b⟩ => ⟨a, by omega⟩)
  rw [booked_bk5]
  by_cases z : u = u ∧ m = j
  · rw [if_pos z]
    have ne : ¬ i = k := by
      rcases c with c | ⟨_, c⟩
      · omega
      · have := z.2
        omega
    rw [List.getD_eq_getElem?_getD, List.getElem?_set, if_neg ne, ← List.getD_eq_getElem?_getD, ← z.2]
    exact h0
  · rw [if_neg z]
    exact h0
theorem lose_no5 {s : PS} {u : Bool} {m k : Nat} (h0 : 1 ≤ m) (h1 : m + 1 < s.n) (h2 : k < (s.bk u m).length) (h3 : ((s.bk u m).getD k (0, false)).2 = false) : loseV s (wayN u) (m : Int) (k : Int) = none := by
  have eN : rowN s (wayN u) (m : Int) = s.bk u m := by
    unfold rowN
    rw [wayU35, Int.toNat_natCast]
  have e1 : inM s (m : Int) = true := inM_yes.mpr (by omega)
  have e2 : endM s (m : Int) = false := decide_eq_false (by omega)
  have e3 : inK s (wayN u) (m : Int) (k : Int) = true := inK_yes.mpr (by rw [eN]; omega)
  have e4 : (rowK s (wayN u) (m : Int) (k : Int)).2 = false := by
    unfold rowK
    rw [eN, Int.toNat_natCast]
    exact h3
  unfold loseV
  rw [wayN_is, e1, e2, e3, e4]
  rfl
theorem kpE_sub5 {S S' : List Addr} {G H H' : Hp} (e : KpE S G H) (e2 : KpE S' H H') (h : ∀ b ∈ S', b ∈ S ∨ G b = none) : KpE S G H' :=
  ⟨fun a o t n q => e2.same a o t (fun m => (h a m).elim n (fun z => by rw [q] at z; cases z)) (e.same a o t n q), fun c t => e2.tab c (e.tab c t), fun b hb => e.free b (e2.free b hb)⟩
theorem went_trans5 {P : Program} {w : World} {K : PySem.W.Frag} {G H H' : Hp} {L : Addr} {x x1 x2 : LS} (g : Went P w K G H L x x1) (g2 : Went P w K H H' L x1 x2) : Went P w K G H' L x x2 :=
  ⟨kpE_sub5 g.e g2.e g.ft, fun b hb => (g2.ft b hb).elim (g.ft b) (fun z => .inr (g.e.free b z)), g2.nn.trans g.nn, g2.at_⟩
def sp_l_lost (T : Txt K mg) (P : Program) (w : World) : Sp := fun vs H Q _ => ∃ (L : Addr) (x : LS) (u : Bool) (c : Int) (N : Nat), vs = [.ref L, .str (wayN u), .int c] ∧ LineP P w K H L x ∧ x.past.length ≤ 400 ∧ (∀ v i, (x.s.bk v i).length ≤ 5) ∧ (∀ m, m < x.s.n → (x.s.bk u m).length = N) ∧ Un5 x.s u 0 0 ∧ GxR.TabG H T.P_tab ∧
  ∀ (x' : LS) (H' : Hp), Went P w K H H' L x x' → Sm5 x.s x'.s → Q .non H'
theorem ok_l_lost (T : Txt K mg) (TB : GxR.TabB base mg T.c_tab T.P_tab) : FnOk P w K mg base CX0 12 T.f_l_lost T.d_l_lost ["_law_line", "_law_way", "_law_cell_here"] (sp_l_lost T P w) := by
  refine T.F_l_lost.ok sc_l_lost (fun vs H Q E h => ?_) (fun cdv A outer s H vs Q E hr h => ?_)
  · obtain ⟨L, x, u, c, N, rfl, _⟩ := h
    rfl
  · obtain ⟨L, x, u, c, N, rfl, hL, hpa, hbk, hrow, hun, hT, q⟩ := h
    have hu := hu_of hr
    refine ⟨_, (pss_cons (ps_set (i := 3) sc_l_lost.nd rfl (by first | exact Or.inl rfl | exact Or.inr rfl) (pe_meth0 (pv 0) T.cl_Line T.M_p_Line_masts (ok_p_Line_masts T) (hr.mono (by decide)) T.b_p_Line_masts .nil pass0))
      (pss_cons (ps_set (i := 4) sc_l_lost.nd rfl (by first | exact Or.inl rfl | exact Or.inr rfl) (pe_call (ok_l_row T) (hr.mono (by decide)) rfl T.g_l_row T.F_l_row.kp T.b_l_row .nil pass0 (pa_cons (pv 2) (pa_cons pe_int (pa_cons pe_int pa_nil)))))
      (pss_cons (ps_set (i := 5) sc_l_lost.nd rfl (by first | exact Or.inl rfl | exact Or.inr rfl) pe_int)
      (pss_one (ps_for PassesOwn.never rfl (pi_range1 (by rfl) T.m_range (pa_cons (pe_callB call_len_seq (by rfl) T.m_len PySem.boot_len (pa_cons (pe_meth (pv 0) T.cl_Line T.M_p_Line_sent (ok_p_Line_sent T) (hr.mono (by decide)) T.b_p_Line_sent .nil passL (pa_cons (pv 1) pa_nil)) pa_nil)) pa_nil)) (pg_name (i := 6) sc_l_lost.nd rfl (by first | exact Or.inl rfl | exact Or.inr rfl))
      (pss_one (ps_for PassesOwn.never rfl (pi_range2 (by rfl) T.m_range (pa_cons pe_int (pa_cons (pe_op op_sub (pv 3) pe_int) pa_nil))) (pg_name (i := 7) sc_l_lost.nd rfl (by first | exact Or.inl rfl | exact Or.inr rfl))
      (Evl.pss_cut (ps_if (pt_cmpR op_lt (pe_op op_mod (pe_ix ix_list (pv 4) (pe_op op_mod (pv 5) pe_int) (fun _ _ => rfl)) pe_int) (pe_op op_mod (pe_ix ix_list (pv 4) pe_int (fun _ _ => rfl)) pe_int) (nomark _))
      (pss_one (ps_expr (pe_meth (pv 0) T.cl_Line T.M_p_Line_lose (ok_p_Line_lose T TB) (hr.mono (by decide)) T.b_p_Line_lose .nil passL (pa_cons (pv 1) (pa_cons (pv 7) (pa_cons (pv 6) pa_nil))))))
      pss_nil)
      (pss_one (ps_aug (i := 5) sc_l_lost.nd rfl (by first | exact Or.inl rfl | exact Or.inr rfl) pe_int ip_add)))))))))), ?_⟩
    have lno : ∀ {a : LA} {nm : Str}, ¬ nm = "future" → ¬ nm = "past" → ¬ nm = "state" → (fldL a.s a.p a.f).lookup nm = none := fun h1 h2 h3 => fldL_no _ _ _ h1 h2 h3
    have wu := wayU35 u
    have wi := wayN_is u
    have hn1 := hL.ok.lo
    have hn2 := hL.ok.hi
    obtain ⟨dx, hl⟩ := hL.at_.ob
    have hN : N ≤ 5 := by
      rw [← hrow 0 (by omega)]
      exact hbk u 0
    refine ⟨_, rfl, L, dx, _, rfl, hl, lno (by decide +kernel) (by decide +kernel) (by decide +kernel), L, x, rfl, hL, ?_⟩
    refine ⟨_, rfl, _, _, _, rfl, by decide, by decide, by decide, by decide, fun nums p H1 np k1 hp ⟨hl5, hb5⟩ => ?_⟩
    have hL1 := hL.kp k1
    refine ⟨_, rfl, L, dx, _, rfl, k1.same _ _ rfl hl, lno (by decide +kernel) (by decide +kernel) (by decide +kernel), _, rfl, L, x, wayN u, rfl, hL1, fun v i => Nat.le_trans (hbk v i) (by decide), fun cw => (by rw [wi] at cw; cases cw), fun _ r H2 nr k2 hr => ?_⟩
    have hr : H2 r = some (.lst (((x.s.bk u (plI u x.s.n 0).toNat).map (·.1)).map V.int)) := by
      have := hr
      rw [wu] at this
      exact this
    have b0 := plI_in (u := u) (n := (x.s.n : Int)) (m := 0) (by omega) (by omega)
    have eN : ((x.s.bk u (plI u x.s.n 0).toNat).map (·.1)).length = N := by
      rw [List.length_map]
      exact hrow _ (by omega)
    refine ⟨r, _, rfl, .inl (SqL.of hr), ?_⟩
    rw [List.length_map, eN]
    refine ⟨_, rfl, by omega, by omega, ?_⟩
    rw [Int.toNat_natCast]
    have hL2 := hL1.kp k2
    have k02 := k1.trans k2
    refine for_range (lo := 0) (n := N) (fun i σ G => ∃ (x' : LS) (kk : Int) (y6 y7 : Option V), σ = [some (.ref L), some (.str (wayN u)), some (.int c), some (.int (x.s.n : Int)), some (.ref p), some (.int kk), y6, y7] ∧ Went P w K H G L x x' ∧ Sm5 x.s x'.s ∧ Un5 x'.s u i 1 ∧ x'.past.length ≤ 400 + 12 * i ∧ 0 ≤ kk ∧ G p = some (.lst (nums.map V.int)) ∧ p ∉ x'.foot L)
      ⟨x, 1, none, none, rfl, ⟨KpE.of k02, fun b hb => .inl hb, rfl, hL2⟩, .refl _, hun.up (by omega), by omega, by omega, k2.same _ _ rfl hp, hL.foot_none np⟩ ?_ ?_
    · rintro i σ G hi ⟨x', kk, y6, y7, rfl, g, sm, un, pa, k0, hpG, npf⟩
      rw [Int.zero_add]
      have nn := g.nn
      refine ⟨_, rfl, _, _, rfl, rfl, 1, _, rfl, ⟨by omega, by omega, by omega, by omega⟩, ?_⟩
      refine for_range (lo := 1) (n := ((x.s.n : Int) - 1 - 1).toNat) (fun j σ G => ∃ (x' : LS) (kk : Int) (y7 : Option V), σ = [some (.ref L), some (.str (wayN u)), some (.int c), some (.int (x.s.n : Int)), some (.ref p), some (.int kk), some (.int (i : Int)), y7] ∧ Went P w K H G L x x' ∧ Sm5 x.s x'.s ∧ Un5 x'.s u i (1 + j) ∧ x'.past.length ≤ 400 + 12 * i + j ∧ 0 ≤ kk ∧ G p = some (.lst (nums.map V.int)) ∧ p ∉ x'.foot L)
        ⟨x', kk, y7, rfl, g, sm, un, pa, k0, hpG, npf⟩ ?_ ?_
      · rintro j σ G hj ⟨x', kk, y7, rfl, g, sm, un, pa, k0, hpG, npf⟩
        rw [show (1 : Int) + (j : Int) = ((1 + j : Nat) : Int) by omega]
        have nn := g.nn
        have m0 := Int.emod_nonneg kk (b := 61) (by decide)
        have m1 := Int.emod_lt_of_pos kk (b := 61) (by decide)
        have ak := at_intZ (ns := nums) (z := kk % 61) m0 (by omega)
        have a0 := at_int (ns := nums) (j := 0) (by omega)
        refine ⟨fun σ' G' => ∃ x' : LS, σ' = [some (.ref L), some (.str (wayN u)), some (.int c), some (.int (x.s.n : Int)), some (.ref p), some (.int kk), some (.int (i : Int)), some (.int ((1 + j : Nat) : Int))] ∧ Went P w K H G' L x x' ∧ Sm5 x.s x'.s ∧ Un5 x'.s u i (1 + j + 1) ∧ x'.past.length ≤ 400 + 12 * i + (j + 1) ∧ G' p = some (.lst (nums.map V.int)) ∧ p ∉ x'.foot L, ?_, ?_⟩
        · refine ⟨_, rfl, _, rfl, _, _, rfl, rfl, (by show (0 : Int) < 61; decide), p, _, _, _, rfl, rfl, .inl (.inl hpG), ak, _, _, rfl, rfl, (by show (0 : Int) < 9; decide), _, rfl, p, _, _, _, rfl, rfl, .inl (.inl hpG), a0, _, _, rfl, rfl, (by show (0 : Int) < 10; decide), _, _, rfl, rfl, _, rfl, iteD (fun c1 => ?_) (fun c1 => ?_)⟩
          · obtain ⟨dx', hl'⟩ := g.at_.at_.ob
            have hb' : ∀ v i, (x'.s.bk v i).length ≤ 9000 := fun v i => by
              rw [sm.len]
              exact Nat.le_trans (hbk v i) (by decide)
            refine ⟨_, rfl, L, dx', _, rfl, hl', lno (by decide +kernel) (by decide +kernel) (by decide +kernel), _, rfl, _, rfl, _, rfl, L, x', wayN u, _, _, rfl, g.at_, by omega, hb', KpE.tab g.e _ hT, fun e he => ?_, fun _ a' G2 g2 => ?_⟩
            · rw [lose_no5 (by omega) (by omega) (by rw [sm.len, hrow _ (by omega)]; exact hi) (un _ _ (.inr ⟨rfl, Nat.le_refl _⟩))] at he
              cases he
            · refine ⟨_, rfl, went_trans5 g g2, sm.trans (booked_sm5 x'.s u (1 + j) i true), un.put, ?_, g2.e.same _ _ rfl npf hpG, g2.off (by rw [hpG]; intro y; cases y) npf⟩
              show (x'.past ++ [_]).length ≤ _
              rw [List.length_append]
              show x'.past.length + 1 ≤ _
              omega
          · exact ⟨x', rfl, g, sm, un.up (by omega), by omega, hpG, npf⟩
        rintro σ' G' ⟨x', rfl, g, sm, un, pa, hpG, npf⟩
        exact ⟨_, rfl, _, _, rfl, rfl, x', kk + 1, _, rfl, g, sm, un, pa, by omega, hpG, npf⟩
      · rintro σ G ⟨x', kk, y7, rfl, g, sm, un, pa, k0, hpG, npf⟩
        exact ⟨x', kk, _, _, rfl, g, sm, un.next 1, by omega, k0, hpG, npf⟩
    · rintro σ G ⟨x', kk, y6, y7, rfl, g, sm, un, pa, k0, hpG, npf⟩
      exact q x' G g sm
/-! ### what a stretch must hold -/
def Hit5 (k p1 p2 : Nat) (e : Sl5) : Prop := e.2.1 = k ∧ ((p1 ≤ e.1 ∧ e.1 < p2 ∧ e.2.2.2.2 ≠ e.2.2.2.1) ∨ (p1 < e.1 ∧ e.1 ≤ p2 ∧ e.2.2.2.1 ≠ e.2.2.1))
def Plc5 (H : Hp) (PD : Addr) (n : Nat) (u : Bool) (i : Nat) : Prop := ∃ kvs, H PD = some (.dK kvs) ∧ kvs.length ≤ i ∧ ∀ m : Nat, m < i → valV kvs (Sum.inl (m : Int)) = some (.int (plI u (n : Int) (m : Int)))
theorem Plc5.kp {H H' : Hp} {PD : Addr} {n : Nat} {u : Bool} {i : Nat} (h : Plc5 H PD n u i) (k : Kp H H') : Plc5 H' PD n u i := by
  obtain ⟨kvs, h1, h2, h3⟩ := h
  exact ⟨kvs, k.same _ _ rfl h1, h2, h3⟩
theorem Plc5.get {H : Hp} {PD : Addr} {n : Nat} {u : Bool} (h : Plc5 H PD n u n) {p : Nat} (hp : p < n) : DGet H PD (.int (plI u (n : Int) (p : Int))) (some (.int (p : Int))) := by
  obtain ⟨kvs, h1, h2, h3⟩ := h
  have b := plI_in (u := u) (n := (n : Int)) (m := (p : Int)) (by omega) (by omega)
  have e := h3 (plI u (n : Int) (p : Int)).toNat (by omega)
  rw [Int.toNat_of_nonneg b.1, plI_plI] at e
  have g := DGet.k (k := Sum.inl (plI u (n : Int) (p : Int))) h1
  rw [e] at g
  exact g
def sp_l_holds (K : PySem.W.Frag) : Sp := fun vs H Q _ => ∃ (W PD t : Addr) (n : Nat) (u : Bool) (T : List Sl5) (k p1 p2 : Nat) (v1 v2 : Int), vs = [.ref W, .ref PD, .int (k : Int), .ref t] ∧ Tr5 H W T ∧ Plc5 H PD n u n ∧ p1 < n ∧ p2 < n ∧ SqT K H t [.int (plI u (n : Int) (p1 : Int)), .int (plI u (n : Int) (p2 : Int)), .int v1, .int v2] ∧ (∃ e ∈ T, Hit5 k p1 p2 e) ∧ ∀ H', Kp H H' → Q (.bl true) H'
theorem ok_l_holds (T : Txt K mg) : FnOk P w K mg base CX0 1 T.f_l_holds T.d_l_holds ["_law_truth", "_law_place_of_mast", "_law_number", "_law_stretch"] (sp_l_holds K) := by
  refine T.F_l_holds.ok sc_l_holds (fun vs H Q E h => ?_) (fun cdv A outer s H vs Q E hr h => ?_)
  · obtain ⟨W, PD, t, n, u, T, k, p1, p2, v1, v2, rfl, _⟩ := h
    rfl
  · obtain ⟨W, PD, t, n, u, Tr, k, p1, p2, v1, v2, rfl, hW, hP, hp1, hp2, ht, hit, q⟩ := h
    have hu := hu_of hr
    refine ⟨_, (pss_cons (ps_set (i := 4) sc_l_holds.nd rfl (by first | exact Or.inl rfl | exact Or.inr rfl) (pe_dget hu (pv 1) (pe_ix ix_tup (pv 3) pe_int (fun _ _ => rfl)) (fun _ _ => rfl)))
      (pss_cons (ps_set (i := 5) sc_l_holds.nd rfl (by first | exact Or.inl rfl | exact Or.inr rfl) (pe_dget hu (pv 1) (pe_ix ix_tup (pv 3) pe_int (fun _ _ => rfl)) (fun _ _ => rfl)))
      (pss_cons (ps_for PassesOwn.never rfl (pi_list (pv 0)) (pg_tup (n := 5) rfl (pgs_cons (pg_name (i := 6) sc_l_holds.nd rfl (by first | exact Or.inl rfl | exact Or.inr rfl)) (pgs_cons (pg_name (i := 7) sc_l_holds.nd rfl (by first | exact Or.inl rfl | exact Or.inr rfl)) (pgs_cons (pg_name (i := 8) sc_l_holds.nd rfl (by first | exact Or.inl rfl | exact Or.inr rfl)) (pgs_cons (pg_name (i := 9) sc_l_holds.nd rfl (by first | exact Or.inl rfl | exact Or.inr rfl)) (pgs_cons (pg_name (i := 10) sc_l_holds.nd rfl (by first | exact Or.inl rfl | exact Or.inr rfl)) pgs_nil))))))
      (pss_one (ps_if (pt_cmpR op_eq (pv 7) (pv 2) (nomark _))
      (pss_cons (ps_if (PW.pt (pw_and (pt_chain op_le op_lt (pv 4) (pv 6) (pv 5)) (pw_and1 (pt_cmpR op_ne (pv 10) (pv 9) (nomark _)))))
      (pss_one (ps_ret pe_bl))
      pss_nil)
      (pss_one (ps_if (PW.pt (pw_and (pt_chain op_lt op_le (pv 4) (pv 6) (pv 5)) (pw_and1 (pt_cmpR op_ne (pv 9) (pv 8) (nomark _)))))
      (pss_one (ps_ret pe_bl))
      pss_nil)))
      pss_nil)))
      (pss_one (ps_ret pe_bl))))), ?_⟩
    refine ⟨_, rfl, _, rfl, t, _, _, _, rfl, rfl, ht, atI_nat (j := 0) rfl, PD, _, rfl, hP.get hp1, ?_⟩
    refine ⟨_, rfl, _, rfl, t, _, _, _, rfl, rfl, ht, atI_nat (j := 1) rfl, PD, _, rfl, hP.get hp2, ?_⟩
    obtain ⟨ts, w1, w2, w3⟩ := hW
    refine ⟨_, rfl, W, rfl, ⟨_, .inl (.inl w1)⟩, for_list (K := K) (a := W) (xs := ts.map V.ref) (fun i σ H' => ∃ y6 y7 y8 y9 y10 : Option V, σ = [some (.ref W), some (.ref PD), some (.int (k : Int)), some (.ref t), some (.int (p1 : Int)), some (.int (p2 : Int)), y6, y7, y8, y9, y10] ∧ H' = H ∧ ∀ e ∈ Tr.take i, ¬ Hit5 k p1 p2 e)
      ⟨none, none, none, none, none, rfl, rfl, fun e he => absurd he List.not_mem_nil⟩ (fun i σ H' _ ⟨_, _, _, _, _, _, e, _⟩ => by rw [e]; exact .inl (.inl w1)) ?_ ?_⟩
    · rintro i v σ H' hi ⟨y6, y7, y8, y9, y10, rfl, rfl, no⟩
      have hil := (List.getElem?_eq_some_iff.mp hi).1
      rw [List.length_map, w2] at hil
      rw [List.getElem?_map] at hi
      obtain ⟨tt, ett, rfl⟩ := Option.map_eq_some_iff.mp hi
      have ee : Tr[i]? = some Tr[i] := List.getElem?_eq_getElem hil
      have st := w3 i tt _ ett ee
      generalize Tr[i] = e at ee st
      refine ⟨tt, _, rfl, .inl (.inl st), rfl, _, _, rfl, _, _, rfl, _, _, rfl, _, _, rfl, _, _, rfl, rfl, ?_⟩
      have nx : ¬ Hit5 k p1 p2 e → ∀ e' ∈ Tr.take (i + 1), ¬ Hit5 k p1 p2 e' := fun h e' he' => by
        rw [List.take_add_one, ee] at he'
        rcases List.mem_append.mp he' with he' | he'
        · exact no e' he'
        · rw [List.mem_singleton.mp he']
          exact h
      refine ⟨_, rfl, _, rfl, rfl, _, rfl, iteD (fun c1 => ?_) (fun c1 => ?_)⟩
      · have c1 : e.2.1 = k := by have := V.int.inj c1; omega
        refine ⟨_, rfl, _, rfl, _, _, rfl, rfl, _, rfl, iteD (fun a1 => ?_) (fun a1 => ?_)⟩
        · refine ⟨_, rfl, _, _, rfl, rfl, _, rfl, iteD (fun a2 => ?_) (fun a2 => ?_)⟩
          · refine ⟨_, rfl, _, rfl, rfl, _, rfl, iteN (fun a3 => ?_) (fun a3 => ?_)⟩
            · exact q _ (.refl _)
            · have nf : ¬ (p1 ≤ e.1 ∧ e.1 < p2 ∧ e.2.2.2.2 ≠ e.2.2.2.1) := fun g => g.2.2 (V.int.inj a3)
              refine ⟨_, rfl, _, rfl, _, _, rfl, rfl, _, rfl, iteD (fun b1 => ?_) (fun b1 => ?_)⟩
              · refine ⟨_, rfl, _, _, rfl, rfl, _, rfl, iteD (fun b2 => ?_) (fun b2 => ?_)⟩
                · refine ⟨_, rfl, _, rfl, rfl, _, rfl, iteN (fun b3 => ?_) (fun b3 => ?_)⟩
                  · exact q _ (.refl _)
                  · exact ⟨_, _, _, _, _, rfl, rfl, nx fun h => h.2.elim nf (fun g => g.2.2 (V.int.inj b3))⟩
                · have b2 : ¬ (e.1 : Int) ≤ (p2 : Int) := b2
                  exact iteFo rfl ⟨_, _, _, _, _, rfl, rfl, nx fun h => h.2.elim nf (fun g => b2 (by have := g.2.1; omega))⟩
              · have b1 : ¬ (p1 : Int) < (e.1 : Int) := b1
                exact ⟨_, rfl, iteFo rfl (iteFo rfl ⟨_, _, _, _, _, rfl, rfl, nx fun h => h.2.elim nf (fun g => b1 (by have := g.1; omega))⟩)⟩
          · have a2 : ¬ (e.1 : Int) < (p2 : Int) := a2
            have nf : ¬ (p1 ≤ e.1 ∧ e.1 < p2 ∧ e.2.2.2.2 ≠ e.2.2.2.1) := fun g => a2 (by have := g.2.1; omega)
            refine iteFo rfl ?_
            refine ⟨_, rfl, _, rfl, _, _, rfl, rfl, _, rfl, iteD (fun b1 => ?_) (fun b1 => ?_)⟩
            · refine ⟨_, rfl, _, _, rfl, rfl, _, rfl, iteD (fun b2 => ?_) (fun b2 => ?_)⟩
              · refine ⟨_, rfl, _, rfl, rfl, _, rfl, iteN (fun b3 => ?_) (fun b3 => ?_)⟩
                · exact q _ (.refl _)
                · exact ⟨_, _, _, _, _, rfl, rfl, nx fun h => h.2.elim nf (fun g => g.2.2 (V.int.inj b3))⟩
              · have b2 : ¬ (e.1 : Int) ≤ (p2 : Int) := b2
                exact iteFo rfl ⟨_, _, _, _, _, rfl, rfl, nx fun h => h.2.elim nf (fun g => b2 (by have := g.2.1; omega))⟩
            · have b1 : ¬ (p1 : Int) < (e.1 : Int) := b1
              exact ⟨_, rfl, iteFo rfl (iteFo rfl ⟨_, _, _, _, _, rfl, rfl, nx fun h => h.2.elim nf (fun g => b1 (by have := g.1; omega))⟩)⟩
        · have a1 : ¬ (p1 : Int) ≤ (e.1 : Int) := a1
          have nf : ¬ (p1 ≤ e.1 ∧ e.1 < p2 ∧ e.2.2.2.2 ≠ e.2.2.2.1) := fun g => a1 (by have := g.1; omega)
          refine ⟨_, rfl, iteFo rfl (iteFo rfl ?_)⟩
          refine ⟨_, rfl, _, rfl, _, _, rfl, rfl, _, rfl, iteD (fun b1 => ?_) (fun b1 => ?_)⟩
          · refine ⟨_, rfl, _, _, rfl, rfl, _, rfl, iteD (fun b2 => ?_) (fun b2 => ?_)⟩
            · refine ⟨_, rfl, _, rfl, rfl, _, rfl, iteN (fun b3 => ?_) (fun b3 => ?_)⟩
              · exact q _ (.refl _)
              · exact ⟨_, _, _, _, _, rfl, rfl, nx fun h => h.2.elim nf (fun g => g.2.2 (V.int.inj b3))⟩
            · have b2 : ¬ (e.1 : Int) ≤ (p2 : Int) := b2
              exact iteFo rfl ⟨_, _, _, _, _, rfl, rfl, nx fun h => h.2.elim nf (fun g => b2 (by have := g.2.1; omega))⟩
          · have b1 : ¬ (p1 : Int) < (e.1 : Int) := b1
            exact ⟨_, rfl, iteFo rfl (iteFo rfl ⟨_, _, _, _, _, rfl, rfl, nx fun h => h.2.elim nf (fun g => b1 (by have := g.1; omega))⟩)⟩
      · exact ⟨_, _, _, _, _, rfl, rfl, nx fun h => c1 (by rw [h.1])⟩
    · rintro σ H' ⟨y6, y7, y8, y9, y10, rfl, rfl, no⟩
      rw [List.length_map, w2, List.take_length] at no
      obtain ⟨e, he, hh⟩ := hit
      exact absurd hh (no e he)
/-! ### each stretch holds a slip of the record -/
theorem flat_one5 {α : Type} {f : Nat → Int} {g : Int → List α} {h : Nat → α} : ∀ {l : List Nat}, (∀ p ∈ l, g (f p) = [h p]) → (l.map f).flatMap g = l.map h
  | [], _ => rfl
  | p :: l, e => by
    rw [List.map_cons, List.flatMap_cons, e p List.mem_cons_self, flat_one5 (fun q hq => e q (List.mem_cons_of_mem _ hq)), List.map_cons]
    rfl
theorem told35 {s' : PS} {n : Nat} {u : Bool} {k : Nat} (en : s'.n = n) (hr : ∀ p, p < n → k < (s'.bk u (plI u (n : Int) (p : Int)).toNat).length) : toldP s' u k = (List.range n).map fun p : Nat => rowO ((s'.bk u (plI u (n : Int) (p : Int)).toNat).getD k (0, false)) := by
  unfold toldP toldOf mastsW
  rw [en]
  exact flat_one5 fun p hp => if_pos (hr p (List.mem_range.mp hp))
theorem falseR_fst (l : List Int) : (falseR l).map (·.1) = l := by
  unfold falseR
  rw [List.map_map]
  exact List.map_id' l
theorem str35 {s s' : PS} {n : Nat} {u : Bool} {sg : List Int} {M : Mo} {sh cm : Nat → Nat → Int} {T : List Sl5} (h : Pl n sg M sh cm T) (es : s = comeP (s35 n u sg) M) (dn : ∀ p, p < n → cN M p = sg.length) (sm : Sm5 s s') {k j : Nat} (hk : k < sg.length) (hj : j ∈ strI (toldP s' u k)) :
    lgA (toldP s' u k) j < n ∧ lgA (toldP s' u k) (j + 1) < n ∧ ∃ e ∈ T, Hit5 k (lgA (toldP s' u k) j) (lgA (toldP s' u k) (j + 1)) e := by
  have en : s'.n = n := sm.1.trans (by rw [es]; rfl)
  have row : ∀ p, p < n → (s'.bk u (plI u (n : Int) (p : Int)).toNat).map (·.1) = M.wr.getD p [] := fun p hp => by
    rw [sm.2, es, h.row hp, falseR_fst]
  have rl : ∀ p, p < n → (s'.bk u (plI u (n : Int) (p : Int)).toNat).length = sg.length := fun p hp => by
    have := congrArg List.length (row p hp)
    rw [List.length_map] at this
    exact this.trans (dn p hp)
  have et := told35 en (fun p hp => by rw [rl p hp]; exact hk)
  generalize toldP s' u k = os at et hj ⊢
  have ol : os.length = n := by rw [et, List.length_map, List.length_range]
  have oat : ∀ p, p < n → os.getD p none = rowO ((s'.bk u (plI u (n : Int) (p : Int)).toNat).getD k (0, false)) := fun p hp => by
    rw [et, List.getD_eq_getElem?_getD, List.getElem?_map, List.getElem?_range hp]
    rfl
  have val : ∀ p, p < n → hasO os p = true → valO os p = tkM M p k := fun p hp ho => by
    unfold hasO at ho
    unfold valO
    rw [oat p hp] at ho ⊢
    have e1 : ((s'.bk u (plI u (n : Int) (p : Int)).toNat).getD k (0, false)).1 = tkM M p k := by
      unfold tkM
      rw [← row p hp, List.getD_eq_getElem?_getD, List.getD_eq_getElem?_getD, List.getElem?_map]
      cases (s'.bk u (plI u (n : Int) (p : Int)).toNat)[k]? <;> rfl
    unfold rowO at ho ⊢
    split at ho
    · cases ho
    · rename_i c
      rw [if_neg c]
      exact e1
  unfold strI strN at hj
  obtain ⟨hj1, hj2⟩ := List.mem_filter.mp hj
  have hj1 := List.mem_range.mp hj1
  have jl : j + 1 < (legN os os.length).length := by unfold prs at hj1; omega
  have pw : (legN os os.length).Pairwise (· < ·) := List.pairwise_lt_range.filter _
  have lt := List.pairwise_iff_getElem.mp pw j (j + 1) (by omega) jl (by omega)
  have lg : ∀ i (hi : i < (legN os os.length).length), lgA os i = (legN os os.length)[i] := fun i hi => by
    unfold lgA
    rw [List.getD_eq_getElem?_getD, List.getElem?_eq_getElem hi]
    rfl
  have ml : ∀ i (hi : i < (legN os os.length).length), lgA os i < n ∧ hasO os (lgA os i) = true := fun i hi => by
    have hm : (legN os os.length)[i] ∈ (List.range os.length).filter (hasO os) := List.getElem_mem hi
    obtain ⟨a, b⟩ := List.mem_filter.mp hm
    rw [lg i hi]
    exact ⟨by rw [← ol]; exact List.mem_range.mp a, b⟩
  obtain ⟨a1, a2⟩ := ml j (by omega)
  obtain ⟨b1, b2⟩ := ml (j + 1) jl
  rw [← lg j (by omega), ← lg (j + 1) jl] at lt
  have ne : tkM M (lgA os j) k ≠ tkM M (lgA os (j + 1)) k := fun e => by
    unfold unl at hj2
    rw [val _ a1 a2, val _ b1 b2, e, dec_self] at hj2
    cases hj2
  exact ⟨a1, b1, h.chain _ lt b1 (by rw [dn _ b1]; exact hk) ne⟩
/-! ### law -/
theorem Pl.all0 {n : Nat} {sg : List Int} {M : Mo} {sh cm : Nat → Nat → Int} {T : List Sl5} (h : Pl n sg M sh cm T) (d : cN M 0 = sg.length) : M.wr.getD 0 [] = sg := by
  have hl : (M.wr.getD 0 []).length = sg.length := d
  have he : ∀ k, k < sg.length → (M.wr.getD 0 []).getD k 0 = sg.getD k 0 := fun k hk => by
    obtain ⟨a, b⟩ := h.com0 k (by rw [d]; exact hk)
    exact a.trans b
  generalize M.wr.getD 0 [] = xs at hl he ⊢
  refine List.ext_getElem hl fun k h1 h2 => ?_
  have e := he k h2
  rw [List.getD_eq_getElem?_getD, List.getElem?_eq_getElem h1, List.getD_eq_getElem?_getD, List.getElem?_eq_getElem h2] at e
  exact e
theorem shaped5 (ns : List Int) : SeqAt.shaped (dI ns) = true := by
  have lay : ∀ ns : List Int, PyData.canLayAll0 (ns.map PyData.int) = true := fun ns => by
    induction ns with
    | nil => simp [PyData.canLayAll0]
    | cons n r ih => simp [PyData.canLayAll0, PyData.canLay0, ih]
  have h := dep_intsM ns
  show (PyData.canLay0 (.list (ns.map PyData.int)) && decide (PyData.depth (.list (ns.map PyData.int)) ≤ 64)) = true
  rw [Bool.and_eq_true]
  refine ⟨by simp only [PyData.canLay0]; exact lay ns, decide_eq_true ?_⟩
  simp only [PyData.depth]
  omega
theorem eqv5 (ns : List Int) : PyData.eqv (dI ns) (dI ns) = true := SeqAt.eqv_refl _ (SeqAt.canLay_of_shaped (shaped5 ns))
theorem un5_0 (n : Nat) (u : Bool) (sg : List Int) (M : Mo) : Un5 (comeP (s35 n u sg) M) u 0 0 := fun m k _ => by
  show ((if u = u then [] ++ falseR ((algL u M.wr).getD m []) else []).getD k (0, false)).2 = false
  rw [if_pos rfl, List.nil_append]
  unfold falseR
  rw [List.getD_eq_getElem?_getD, List.getElem?_map]
  cases ((algL u M.wr).getD m [])[k]? <;> rfl
structure Lp5 (P : Program) (w : World) (K : PySem.W.Frag) (G0 G : Hp) (n : Nat) (u : Bool) (L W PD : Addr) (x x' : LS) (T : List Sl5) : Prop where
  r : Rn P w K G0 G L x'
  sm : Sm5 x.s x'.s
  t : Tr5 G W T
  p : Plc5 G PD n u n
  nw : W ∉ x'.foot L
  np : PD ∉ x'.foot L
theorem Lp5.kp {P : Program} {w : World} {K : PySem.W.Frag} {G0 G G' : Hp} {n : Nat} {u : Bool} {L W PD : Addr} {x x' : LS} {T : List Sl5} (h : Lp5 P w K G0 G n u L W PD x x' T) (k : Kp G G') : Lp5 P w K G0 G' n u L W PD x x' T := ⟨h.r.to k, h.sm, h.t.kp k, h.p.kp k, h.nw, h.np⟩
theorem Lp5.went {P : Program} {w : World} {K : PySem.W.Frag} {G0 G G' : Hp} {n : Nat} {u : Bool} {L W PD : Addr} {x x' x2 : LS} {T : List Sl5} (h : Lp5 P w K G0 G n u L W PD x x' T) (g : Went P w K G G' L x' x2) (sm : Sm5 x'.s x2.s) : Lp5 P w K G0 G' n u L W PD x x2 T := by
  obtain ⟨ts, t1, _⟩ := h.t
  obtain ⟨kvs, p1, p2, p3⟩ := h.p
  exact ⟨h.r.step g, h.sm.trans sm, h.t.went h.r.ln g h.nw, ⟨kvs, g.e.same _ _ rfl h.np p1, p2, p3⟩, g.off (by rw [t1]; intro y; cases y) h.nw, g.off (by rw [p1]; intro y; cases y) h.np⟩
def sp_law (K : PySem.W.Frag) (Pt Ps Pn : Addr) : Sp := fun vs H Q _ => ∃ (a : Addr) (ns : List Int), vs = [.ref a] ∧ SqL K H a (ns.map V.int) ∧ ns.length ≤ 63 ∧ GxR.TabG H Pt ∧ GxR.TabG H Ps ∧ GxR.TabG H Pn ∧ ∀ H', Q (.bl true) H'
theorem ok_law (T : Txt K mg) (TB : GxR.TabB base mg T.c_tab T.P_tab) (TBS : GxR.TabB base mg T.c_tabS T.P_tabS) (TBN : GxR.TabB base mg T.c_tabN T.P_tabN) {f : Addr} {fd : FuncData} (F : Fun K "law" "law" s_law f fd) : FnOk P w K mg base CX0 20 f fd ["_law_script"] (sp_law K T.P_tab T.P_tabS T.P_tabN) := by
  refine F.ok sc_law (fun vs H Q E h => ?_) (fun cdv A outer s H vs Q E hr h => ?_)
  · obtain ⟨a, ns, rfl, _⟩ := h
    rfl
  · obtain ⟨sa, ns, rfl, hS, hlen, hT, hTS, hTN, k⟩ := h
    have hu := hu_of hr
    refine ⟨_, (pss_cons (ps_asg (pe_call (ok_l_run T) (hr.mono (by decide)) rfl T.g_l_run T.F_l_run.kp T.b_l_run .nil pass0 (pa_cons (pv 0) pa_nil)) (pg_tup (n := 4) rfl (pgs_cons (pg_name (i := 1) sc_law.nd rfl (by first | exact Or.inl rfl | exact Or.inr rfl)) (pgs_cons (pg_name (i := 2) sc_law.nd rfl (by first | exact Or.inl rfl | exact Or.inr rfl)) (pgs_cons (pg_name (i := 3) sc_law.nd rfl (by first | exact Or.inl rfl | exact Or.inr rfl)) (pgs_cons (pg_name (i := 4) sc_law.nd rfl (by first | exact Or.inl rfl | exact Or.inr rfl)) pgs_nil))))))
      (pss_cons (ps_asg (pe_call (ok_l_play T TB TBS TBN) (hr.mono (by decide)) rfl T.g_l_play T.F_l_play.kp T.b_l_play .nil pass0 (pa_cons (pv 1) (pa_cons (pv 2) (pa_cons (pv 3) (pa_cons (pv 4) pa_nil))))) (pg_tup (n := 2) rfl (pgs_cons (pg_name (i := 5) sc_law.nd rfl (by first | exact Or.inl rfl | exact Or.inr rfl)) (pgs_cons (pg_name (i := 6) sc_law.nd rfl (by first | exact Or.inl rfl | exact Or.inr rfl)) pgs_nil))))
      (pss_cons (ps_set (i := 7) sc_law.nd rfl (by first | exact Or.inl rfl | exact Or.inr rfl) pe_dnewK)
      (pss_cons (ps_for PassesOwn.never rfl (pi_range1 (by rfl) T.m_range (pa_cons (pv 1) pa_nil)) (pg_name (i := 8) sc_law.nd rfl (by first | exact Or.inl rfl | exact Or.inr rfl))
      (pss_one (ps_dput hu (pv 7) (pv 8) (pe_ifExp (pt_cmpR op_eq (pv 2) pe_str (nomark _)) (pv 8) (pe_op op_sub (pe_op op_sub (pv 1) pe_int) (pv 8))) rfl)))
      (pss_cons (ps_if (PW.pt (pw_or (pt_cmpR (op_neD hr.units) (pe_meth (pv 5) T.cl_Line T.M_p_Line_sent (ok_p_Line_sent T) (hr.mono (by decide)) T.b_p_Line_sent .nil passL (pa_cons (pv 2) pa_nil)) (pv 3) (nomark _)) (pw_or1 (pt_cmpR op_ne (pe_callB call_len_seq (by rfl) T.m_len PySem.boot_len (pa_cons (pe_meth (pv 5) T.cl_Line T.M_p_Line_heard (ok_p_Line_heard T) (hr.mono (by decide)) T.b_p_Line_heard .nil passL (pa_cons (pv 2) pa_nil)) pa_nil)) (pe_callB call_len_seq (by rfl) T.m_len PySem.boot_len (pa_cons (pv 3) pa_nil)) (nomark _)))))
      (pss_one (ps_ret pe_bl))
      pss_nil)
      (pss_cons (ps_for PassesOwn.never rfl (pi_range1 (by rfl) T.m_range (pa_cons pe_int pa_nil)) (pg_name (i := 9) sc_law.nd rfl (by first | exact Or.inl rfl | exact Or.inr rfl))
      (pss_cons (ps_for PassesOwn.never rfl (pi_range1 (by rfl) T.m_range (pa_cons (pe_callB call_len_seq (by rfl) T.m_len PySem.boot_len (pa_cons (pv 3) pa_nil)) pa_nil)) (pg_name (i := 10) sc_law.nd rfl (by first | exact Or.inl rfl | exact Or.inr rfl))
      (pss_cons (ps_set (i := 11) sc_law.nd rfl (by first | exact Or.inl rfl | exact Or.inr rfl) (pe_meth (pv 5) T.cl_Line T.M_p_Line_slips (ok_p_Line_slips T) (hr.mono (by decide)) T.b_p_Line_slips .nil passL (pa_cons (pv 2) (pa_cons (pv 10) pa_nil))))
      (Evl.pss_cut (ps_if (PW.pt (pw_and (pt_cmpR op_eq (pe_callB call_len_seq (by rfl) T.m_len PySem.boot_len (pa_cons (pe_lc (own := [("_law_one", 12)]) (g := gName 12) (by rfl) sc_law.nd (pi_list (pv 6)) (blkOk_by (own := [("_law_one", 12)]) (N := ["_law_script", "_law_masts", "_law_way", "_law_signs", "_law_slips", "_law_line", "_law_truth", "_law_places", "_law_mast", "_law_turn", "_law_number", "_law_found", "_law_one", "_law_stretch"]) (sc := defScope s_law) (by decide +kernel)) (fun _ _ _ _ _ => (pg_name (i := 12) sc_law.nd rfl (by first | exact Or.inl rfl | exact Or.inr rfl))) (fun _ _ _ _ _ => (pts_one (pt_cmpR op_eq (pe_ix (ix_tupK K rfl) (pv 12) pe_int (fun _ _ => rfl)) (pv 10) (nomark _)))) (fun _ _ _ _ _ => (pv 12))) pa_nil)) pe_int (nomark _)) (pw_and1 (pt_cmpR (op_neD hr.units) (pv 11) (pe_lst pa_nil) (nomark _)))))
      (pss_one (ps_ret pe_bl))
      pss_nil)
      (pss_one (ps_for PassesOwn.never rfl (pi_list (pv 11)) (pg_name (i := 13) sc_law.nd rfl (by first | exact Or.inl rfl | exact Or.inr rfl))
      (pss_one (ps_if (pt_not (pt_val (pe_call (ok_l_holds T) (hr.mono (by decide)) rfl T.g_l_holds T.F_l_holds.kp T.b_l_holds .nil pass0 (pa_cons (pv 6) (pa_cons (pv 7) (pa_cons (pv 10) (pa_cons (pv 13) pa_nil)))))))
      (pss_one (ps_ret pe_bl))
      pss_nil)))))))
      (pss_one (ps_if (pt_cmpR op_eq (pv 9) pe_int (nomark _))
      (pss_one (ps_expr (pe_call (ok_l_lost T TB) (hr.mono (by decide)) rfl T.g_l_lost T.F_l_lost.kp T.b_l_lost .nil pass0 (pa_cons (pv 5) (pa_cons (pv 2) (pa_cons (pe_call (ok_l_cell T) (hr.mono (by decide)) rfl T.g_l_cell T.F_l_cell.kp T.b_l_cell .nil pass0 (pa_cons (pv 0) (pa_cons pe_int pa_nil))) pa_nil))))))
      pss_nil))))
      (pss_one (ps_ret pe_bl)))))))), ?_⟩
    have lno : ∀ {a : LA} {nm : Str}, ¬ nm = "future" → ¬ nm = "past" → ¬ nm = "state" → (fldL a.s a.p a.f).lookup nm = none := fun h1 h2 h3 => fldL_no _ _ _ h1 h2 h3
    refine ⟨_, rfl, sa, ns, rfl, hS, hlen, fun r S D n u sg G1 k1 hr hR => ?_⟩
    refine ⟨r, _, rfl, .inl (.inl hr), rfl, _, _, rfl, _, _, rfl, _, _, rfl, _, _, rfl, rfl, ?_⟩
    refine ⟨_, rfl, _, rfl, _, rfl, _, rfl, S, D, n, u, sg, rfl, hR, k1.tab _ hT, k1.tab _ hTS, k1.tab _ hTN, fun r2 L C W x M sh cm Tr G2 at5 hd hr2 => ?_⟩
    refine ⟨r2, _, rfl, .inl (.inl hr2), rfl, _, _, rfl, _, _, rfl, rfl, ?_⟩
    have hn1 := hR.lo
    have hn2 := hR.hi
    have hsl := hR.few
    have wu := wayU35 u
    have wi := wayN_is u
    have pl := at5.pl
    have dn := pl.done hn1 hd
    have en : x.s.n = n := by rw [at5.s]; rfl
    have rowx : ∀ p, p < n → x.s.bk u (plI u (n : Int) (p : Int)).toNat = falseR (M.wr.getD p []) := fun p hp => by rw [at5.s]; exact pl.row hp
    have rowl : ∀ p, p < n → (x.s.bk u (plI u (n : Int) (p : Int)).toNat).length = sg.length := fun p hp => by rw [rowx p hp, falseR_len]; exact dn p hp
    have bk5 : ∀ v i, (x.s.bk v i).length ≤ 5 := fun v i => by
      rw [at5.s]
      exact Nat.le_trans (pl.bk v i) hsl
    have kS : ∀ {G : Hp}, Kp G1 G → SqL K G sa (ns.map V.int) := fun kg => (k1.trans kg).sqL hS
    intro PD nPD
    generalize h_G3 : upd G2 PD _ = G3
    have k_G3 : Kp G2 G3 := by rw [← h_G3]; exact .new nPD
    have q_G3 := (congrFun h_G3 PD).symm.trans upd_same
    clear h_G3
    have at3 := at5.kp k_G3
    have nfp : PD ∉ x.foot L := at5.r.ln.foot_none nPD
    have fr : ∀ m : Int, (if u = true then m else (n : Int) - 1 - m) = plI u (n : Int) m := fun m => rfl
    refine ⟨_, rfl, _, rfl, by omega, by omega, ?_⟩
    rw [Int.toNat_natCast]
    refine for_range (lo := 0) (n := n) (fun i σ G => ∃ y8 : Option V, σ = [some (.ref sa), some (.int (n : Int)), some (.str (wayN u)), some (.ref S), some (.ref D), some (.ref L), some (.ref W), some (.ref PD), y8, none, none, none, none, none] ∧ Kp G2 G ∧ Plc5 G PD n u i) ⟨none, rfl, k_G3, [], q_G3, Nat.le_refl _, fun m hm => absurd hm (Nat.not_lt_zero _)⟩ ?_ ?_
    · rintro i σ G hi ⟨y8, rfl, kg, kvs, p1, p2, p3⟩
      rw [Int.zero_add]
      have fin : Plc5 (upd G PD (.dK (putK kvs (Sum.inl (i : Int)) (.int (plI u (n : Int) (i : Int)))))) PD n u (i + 1) := by
        refine ⟨_, upd_same, Nat.le_trans (length_putK kvs _ _) (by omega), fun m hm => ?_⟩
        rw [valV_put]
        by_cases c : m = i
        · rw [if_pos (by rw [c]), c]
        · rw [if_neg (fun e => c (by have := Sum.inl.inj e; omega))]
          exact p3 m (by omega)
      cases u with
      | true => exact ⟨_, rfl, rfl, _, rfl, iteTo (by decide +kernel) ⟨_, rfl, _, rfl, _, rfl, PD, _, rfl, DPut.k (k := Sum.inl (i : Int)) p1 (szt (by omega)), _, rfl, kg.mut nPD, fin⟩⟩
      | false => exact ⟨_, rfl, rfl, _, rfl, iteFo (by decide +kernel) ⟨_, rfl, _, _, rfl, rfl, _, rfl, _, _, rfl, rfl, _, rfl, _, rfl, PD, _, rfl, DPut.k (k := Sum.inl (i : Int)) p1 (szt (by omega)), _, rfl, kg.mut nPD, fin⟩⟩
    rintro σ G4 ⟨y8, rfl, k24, hP⟩
    have at4 := at5.kp k24
    obtain ⟨dx4, hl4⟩ := at4.r.ln.at_.ob
    have bk9 : ∀ v i, (x.s.bk v i).length ≤ 9000 := fun v i => Nat.le_trans (bk5 v i) (by decide)
    have S4 : G4 S = some (.lst (sg.map V.int)) := at4.r.kp.same _ _ rfl hR.sl
    refine ⟨_, rfl, L, dx4, _, rfl, hl4, lno (by decide +kernel) (by decide +kernel) (by decide +kernel), _, rfl, L, x, wayN u, rfl, at4.r.ln, bk9, fun c => (by rw [wi] at c; cases c), fun _ a1 G5 na1 k45 ha1 => ?_⟩
    have ha1 : G5 a1 = some (.lst (sg.map V.int)) := by
      have h1 := ha1
      rw [wu, en] at h1
      have e0 : x.s.bk u (plI u (n : Int) 0).toNat = falseR (M.wr.getD 0 []) := rowx 0 (by omega)
      have h1 : G5 a1 = some (.lst (((x.s.bk u (plI u (n : Int) 0).toNat).map (·.1)).map V.int)) := h1
      rw [e0, falseR_fst, pl.all0 (dn 0 (by omega))] at h1
      exact h1
    refine ⟨_, rfl, dI sg, dI sg, .lst (.inl (.inl ha1)) (dp_ints _), .lst (.inl (.inl (k45.same _ _ rfl S4))) (dp_ints _), shaped5 sg, shaped5 sg, _, rfl, iteFo (by rw [eqv5]; rfl) ?_⟩
    have at5g := at4.kp k45
    obtain ⟨dx5, hl5⟩ := at5g.r.ln.at_.ob
    refine ⟨_, rfl, L, dx5, _, rfl, hl5, lno (by decide +kernel) (by decide +kernel) (by decide +kernel), _, rfl, L, x, wayN u, rfl, at5g.r.ln, bk9, fun c => (by rw [wi] at c; cases c), fun _ a2 G6 na2 k56 ha2 => ?_⟩
    have el2 : ((((x.s.bk (wayU (wayN u)) (plI (wayU (wayN u)) x.s.n (if true = true then (x.s.n : Int) - 1 else 0)).toNat).map (·.1)).map V.int).length) = sg.length := by
      rw [List.length_map, List.length_map, wu, en]
      have := rowl (n - 1) (by omega)
      rw [show ((n - 1 : Nat) : Int) = (n : Int) - 1 by omega] at this
      exact this
    refine ⟨a2, _, rfl, .inl (.inl (.inl ha2)), _, rfl, S, _, rfl, .inl (.inl (.inl ((k45.trans k56).same _ _ rfl S4))), rfl, _, rfl, ?_⟩
    refine iteFo (by rw [show (((sg.map V.int).length : Nat) : Int) = (sg.length : Int) by rw [List.length_map]]; rw [el2, dec_self]; rfl) ?_
    have at6 := at5g.kp k56
    have lp0 : Lp5 P w K G1 G6 n u L W PD x x Tr := ⟨at6.r, .refl _, at6.t, (hP.kp k45).kp k56, at6.nw, nfp⟩
    refine ⟨_, rfl, by decide, by decide, ?_⟩
    refine for_range (lo := 0) (n := 2) (fun j σ G => ∃ (x' : LS) (y9 y10 y11 y13 : Option V), σ = [some (.ref sa), some (.int (n : Int)), some (.str (wayN u)), some (.ref S), some (.ref D), some (.ref L), some (.ref W), some (.ref PD), y8, y9, y10, y11, none, y13] ∧ Lp5 P w K G1 G n u L W PD x x' Tr ∧ (j = 0 → x' = x)) ⟨x, none, none, none, none, rfl, lp0, fun _ => rfl⟩ ?_ ?_
    case refine_2 =>
      rintro σ G ⟨x', y9, y10, y11, y13, rfl, lp, _⟩
      exact k G
    rintro j σ G hj ⟨x', y9, y10, y11, y13, rfl, lp, e0⟩
    rw [Int.zero_add]
    have SG : G S = some (.lst (sg.map V.int)) := lp.r.kp.same _ _ rfl hR.sl
    have en' : x'.s.n = n := lp.sm.1.trans en
    refine ⟨_, rfl, S, _, rfl, .inl (.inl (.inl SG)), ?_⟩
    rw [List.length_map]
    refine ⟨_, rfl, by omega, by omega, ?_⟩
    rw [Int.toNat_natCast]
    refine for_range (lo := 0) (n := sg.length) (fun i σ H' => ∃ (y10 y11 y13 : Option V), σ = [some (.ref sa), some (.int (n : Int)), some (.str (wayN u)), some (.ref S), some (.ref D), some (.ref L), some (.ref W), some (.ref PD), y8, some (.int (j : Int)), y10, y11, none, y13] ∧ Kp G H') ⟨_, _, _, rfl, .refl _⟩ ?_ ?_
    · rintro i σ G7 hi ⟨y10, y11, y13, rfl, k7⟩
      rw [Int.zero_add]
      have lp7 := lp.kp k7
      obtain ⟨dx7, hl7⟩ := lp7.r.ln.at_.ob
      have inr : (0 : Int) ≤ (i : Int) ∧ (i : Int) < ((x'.s.bk (wayU (wayN u)) (firstM x'.s.n (wayU (wayN u)))).length : Int) := by
        rw [wu, lp.sm.len, en']
        have e1 : (x.s.bk u (firstM n u)).length = sg.length := rowl 0 (by omega)
        omega
      refine ⟨_, rfl, L, dx7, _, rfl, hl7, lno (by decide +kernel) (by decide +kernel) (by decide +kernel), _, rfl, _, rfl, L, x', wayN u, (i : Int), rfl, lp7.r.ln, fun c => (by rw [wi] at c; cases c), fun _ c2 => absurd inr c2, fun _ _ r5 xs G8 nr5 k78 hr5 hd5 => ?_⟩
      rw [wu, Int.toNat_natCast] at hd5
      have str := fun jj (hjj : jj ∈ strI (toldP x'.s u i)) => str35 pl at5.s dn lp.sm hi hjj
      refine ⟨fun σ' G' => σ' = [some (.ref sa), some (.int (n : Int)), some (.str (wayN u)), some (.ref S), some (.ref D), some (.ref L), some (.ref W), some (.ref PD), y8, some (.int (j : Int)), some (.int (i : Int)), some (.ref r5), none, y13] ∧ Kp G8 G', ?_, ?_⟩
      · obtain ⟨ts, w1, w2, w3⟩ := (lp7.kp k78).t
        refine ⟨_, rfl, W, rfl, ⟨_, .inl (.inl w1)⟩, fun Dl nDl => ?_⟩
        refine lc_list (K := K) (a := W) (xs := ts.map V.ref) (fun m H' => Kp G8 H' ∧ ∃ us : List V, H' Dl = some (.lst us) ∧ us.length = ((Tr.take m).filter fun e => decide (e.2.1 = i)).length) ⟨Kp.new nDl, [], upd_same, rfl⟩ (fun m H' _ ⟨kp, _⟩ => kp.sqL (.inl (.inl w1))) (fun m v H' hm ⟨kp, us, hs, hn⟩ => ?_) (fun G9 ⟨k89, us, hs, hn⟩ => ?_)
        · have hil := (List.getElem?_eq_some_iff.mp hm).1
          rw [List.length_map, w2] at hil
          rw [List.getElem?_map] at hm
          obtain ⟨tt, ett, rfl⟩ := Option.map_eq_some_iff.mp hm
          have ee : Tr[m]? = some Tr[m] := List.getElem?_eq_getElem hil
          have st := kp.same _ _ rfl (w3 m tt _ ett ee)
          generalize Tr[m] = e at ee st
          have tk : (Tr.take (m + 1)).filter (fun e => decide (e.2.1 = i)) = (Tr.take m).filter (fun e => decide (e.2.1 = i)) ++ (if e.2.1 = i then [e] else []) := by
            rw [take_snoc ee, List.filter_append]
            congr 1
            by_cases c : e.2.1 = i
            · rw [if_pos c, List.filter_cons, if_pos (decide_eq_true c)]
              rfl
            · rw [if_neg c, List.filter_cons, if_neg (by rw [decide_eq_false c]; decide)]
              rfl
          have ub : us.length ≤ Tr.length := by
            rw [hn]
            have h1 := List.length_filter_le (fun e : Sl5 => decide (e.2.1 = i)) (Tr.take m)
            rw [List.length_take] at h1
            omega
          have tl := at5.tl
          refine ⟨rfl, _, rfl, tt, _, _, _, rfl, rfl, .inl (.inl st), atI_nat (j := 1) rfl, _, rfl, rfl, _, rfl, iteD (fun c => ?_) (fun c => ?_)⟩
          · have c : e.2.1 = i := by have := V.int.inj c; omega
            refine ⟨_, rfl, _, hs, szt (by omega), kp.mut nDl, us ++ [.ref tt], upd_same, ?_⟩
            rw [tk, if_pos c, List.length_append, List.length_append, hn]
            rfl
          · refine ⟨kp, us, hs, ?_⟩
            rw [tk, if_neg (fun z => c (by rw [z])), List.append_nil]
            exact hn
        rw [List.length_map, w2, List.take_length] at hn
        refine ⟨Dl, _, rfl, .inl (.inl (.inl hs)), rfl, _, rfl, iteD (fun c => ?_) (fun c => ?_)⟩
        · have c : us.length = 0 := by have := V.int.inj c; omega
          have no : strI (toldP x'.s u i) = [] := List.eq_nil_iff_forall_not_mem.mpr fun jj hjj => by
            obtain ⟨_, _, e, he, hh⟩ := str jj hjj
            have : e ∈ Tr.filter fun e => decide (e.2.1 = i) := List.mem_filter.mpr ⟨he, decide_eq_true hh.1⟩
            rw [List.length_eq_zero_iff.mp (hn.symm.trans c)] at this
            exact absurd this List.not_mem_nil
          have hd0 : DpAll K G8 xs [] := by
            have := hd5
            unfold slipsP at this
            rw [no] at this
            exact this
          cases hd0
          refine ⟨_, rfl, Nat.zero_le _, fun en_ nen => ?_⟩
          generalize h_G10 : upd G9 en_ _ = G10
          have k_G10 : Kp G9 G10 := by rw [← h_G10]; exact .new nen
          have q_G10 := (congrFun h_G10 en_).symm.trans upd_same
          clear h_G10
          refine ⟨.list [], .list [], .lst (.inl (.inl ((k89.trans k_G10).same _ _ rfl hr5))) .nil, .lst (.inl (.inl q_G10)) .nil, (by decide +kernel), (by decide +kernel), _, rfl, iteFo (by decide +kernel) ⟨rfl, k89.trans k_G10⟩⟩
        · exact iteFo rfl ⟨rfl, k89⟩
      rintro σ' G9 ⟨rfl, k89⟩
      have hr9 := k89.same _ _ rfl hr5
      refine ⟨_, rfl, r5, rfl, ⟨_, .inl (.inl hr9)⟩, for_list (K := K) (a := r5) (xs := xs) (fun m σ H' => ∃ y13 : Option V, σ = [some (.ref sa), some (.int (n : Int)), some (.str (wayN u)), some (.ref S), some (.ref D), some (.ref L), some (.ref W), some (.ref PD), y8, some (.int (j : Int)), some (.int (i : Int)), some (.ref r5), none, y13] ∧ Kp G9 H') ⟨_, rfl, .refl _⟩ (fun m σ H' _ ⟨_, _, kk⟩ => .inl (.inl (kk.same _ _ rfl hr9))) ?_ ?_⟩
      · rintro m v σ H' hm ⟨y13, rfl, k9⟩
        have hml := (List.getElem?_eq_some_iff.mp hm).1
        have hlen2 := DpAll.len hd5
        unfold slipsP at hlen2 hd5
        rw [List.length_map] at hlen2
        have es : (strI (toldP x'.s u i))[m]? = some ((strI (toldP x'.s u i))[m]'(by omega)) := List.getElem?_eq_getElem (by omega)
        have hmem := List.mem_of_getElem? es
        generalize (strI (toldP x'.s u i))[m]'(by omega) = jj at es hmem
        obtain ⟨v', hv', dv⟩ := DpAll.get hd5 (i := m) (d := slipR x'.s u (toldP x'.s u i) jj) (by rw [List.getElem?_map, es]; rfl)
        rw [hm] at hv'
        cases hv'
        unfold slipR at dv
        rw [en'] at dv
        obtain ⟨t, rfl, st⟩ := dp_quad dv
        obtain ⟨h1, h2, hit⟩ := str jj hmem
        have k79 := (k78.trans k89).trans k9
        have lp9 := lp7.kp k79
        refine ⟨_, rfl, _, rfl, _, rfl, _, rfl, W, PD, t, n, u, Tr, i, _, _, _, _, rfl, lp9.t, lp9.p, h1, h2, (k89.trans k9).sqT st, hit, fun H2 k2 => ⟨_, rfl, iteFo rfl ⟨_, rfl, k9.trans k2⟩⟩⟩
      · rintro σ H' ⟨y13, rfl, k9⟩
        exact ⟨_, _, _, rfl, ((k7.trans k78).trans k89).trans k9⟩
    · rintro σ G7 ⟨y10, y11, y13, rfl, k7⟩
      have lp7 := lp.kp k7
      refine ⟨_, rfl, rfl, _, rfl, iteD (fun c => ?_) (fun c => ?_)⟩
      · have c : j = 0 := by have := V.int.inj c; omega
        have ex := e0 c
        subst ex
        have rowm : ∀ m, m < x'.s.n → (x'.s.bk u m).length = sg.length := fun m hm => by
          rw [en] at hm
          have b := plI_in (u := u) (n := (n : Int)) (m := (m : Int)) (by omega) (by omega)
          have e1 := rowl (plI u (n : Int) (m : Int)).toNat (by omega)
          rw [Int.toNat_of_nonneg b.1, plI_plI, Int.toNat_natCast] at e1
          exact e1
        refine ⟨_, rfl, _, rfl, _, rfl, sa, ns, 2, rfl, kS lp7.r.kp, by decide, L, x', u, _, sg.length, rfl, lp7.r.ln, by have := at5.past; omega, bk5, rowm, by rw [at5.s]; exact un5_0 n u sg M, (k1.trans lp7.r.kp).tab _ hT, fun x2 G9 g sm => ?_⟩
        exact ⟨x2, _, _, _, _, rfl, lp7.went g sm, fun z => by omega⟩
      · exact ⟨x', _, _, _, _, rfl, lp7, fun z => by omega⟩
end
theorem all_mk {w : World} {K : PySem.W.Frag} {h : Heap} {mg : Str → Option Value} {fa : Addr} (X : K.In h) (G : h.Ns mainGlobals mg) (hfa : mg ("law" : Str) = some (.ref fa)) (c : SaysBT factsL fnL tfL h K) :
    LamX.LawAtS PySem.Challenge.rw_mastword_k35_whole_slips_hold_the_true w K CX0 20 63 "_law_script" mg fa h := by
  have T : Txt K mg := ⟨⟨h, X, G⟩, c.b⟩
  have hl : mg ("law" : Str) = some (.ref (He.ga K "law")) := TopB.glo T 0 rfl
  have e := hfa.symm.trans hl
  cases e
  have F : Fun K "law" "law" s_law (He.fAd K ("law", none)) (fdOf K (He.fAd K ("law", none))) := TopB.fun_ T (a := ("law", none)) 84 rfl
  obtain ⟨oc, od, kV, doc, pm, an, cdv, ct, osl, efd, lk, hcd⟩ := F.ex
  refine ⟨fdOf K (He.fAd K ("law", none)), tfL.map (He.cT K), sp_law K (He.tabOf K (He.codeOf K ("is_word", none))) (He.tabOf K (He.codeOf K ("check_signs", none))) (He.tabOf K (He.codeOf K ("Line", some "turn"))), fun p hp => ?_, fun p hp => ?_, fun p hp => ?_, fun s v => ?_, fun H a ns hl _ hT hS => ⟨a, ns, rfl, hS, hl, ⟨#[], hT (He.cT K ("is_word", none)) (List.mem_map.mpr ⟨_, by decide, rfl⟩), trivial⟩, ⟨#[], hT (He.cT K ("check_signs", none)) (List.mem_map.mpr ⟨_, by decide, rfl⟩), trivial⟩, ⟨#[], hT (He.cT K ("Line", some "turn")) (List.mem_map.mpr ⟨_, by decide, rfl⟩), trivial⟩, fun _ => rfl⟩, fun base _ _ TB => ok_law T (let tb := TB (He.cT K ("is_word", none)) (List.mem_map.mpr ⟨_, by decide, rfl⟩); ⟨tb.code, tb.bm, tb.gP⟩) (let tb := TB (He.cT K ("check_signs", none)) (List.mem_map.mpr ⟨_, by decide, rfl⟩); ⟨tb.code, tb.bm, tb.gP⟩) (let tb := TB (He.cT K ("Line", some "turn")) (List.mem_map.mpr ⟨_, by decide, rfl⟩); ⟨tb.code, tb.bm, tb.gP⟩) F⟩
  · obtain ⟨q, hq, rfl⟩ := List.mem_map.mp hp
    exact c.empty q hq
  · obtain ⟨q, hq, rfl⟩ := List.mem_map.mp hp
    exact c.out q hq
  · obtain ⟨q, hq, rfl⟩ := List.mem_map.mp hp
    exact PySem.W.codeHd_of_K X (c.hd q hq)
  · rw [efd]
    exact .of_eq rfl

end Mw
open PySem PySem.W PySem.Calls PyProof.Rows
set_option maxRecDepth 100000 in
set_option maxHeartbeats 0 in
theorem PySem.Challenge.cw_mastword_k35_whole_slips_hold_the_true_holds : PySem.Challenge.rw_mastword_k35_whole_slips_hold_the_true.Holds := by
  w_on; o_law
  refine HandSHeadRun.head_any (r := (OpenLaw.row PySem.Challenge.rw_mastword_k35_whole_slips_hold_the_true)) (q := view (OpenLaw.row PySem.Challenge.rw_mastword_k35_whole_slips_hold_the_true).prog [77]) (H := Mw.hookBT Mw.asL Mw.factsL Mw.fnL Mw.tfL) (ob := Mw.obL) (M := 16000) (loose := Mw.looseL) (d := HandSHeadRun.topDef (OpenLaw.row PySem.Challenge.rw_mastword_k35_whole_slips_hold_the_true).prog 77) (kwd := []) Mw.obL_eq
    (by kernel_rfl) (fun s => by kernel_rfl) Mw.runL (by kernel_rfl) (by kernel_rfl) (by kernel_rfl) (by rfl) (by first | assumption | decide +kernel) (by decide +kernel) ⟨rfl, rfl, rfl, rfl, rfl, by decide +kernel⟩ ?hw ?hc
  case hw => w_witness2
  case hc =>
    refine LamX.walk_ofTsE (l := PySem.Challenge.rw_mastword_k35_whole_slips_hold_the_true) (n := 63) (k := 20) (x := "_law_script") (CX := fun _ => L2.CX0) rfl (by decide) (by kernel_rfl) ⟨rfl, by decide, by decide⟩ ?F (fun _ _ _ _ _ z => z)
    intro w mg fa h Y G hmg0
    obtain ⟨K, KX, c⟩ := Y
    have hmg : mg ("law" : PySem.Str) = some (.ref fa) := by
      have e : (HandSHeadRun.topDef (OpenLaw.row PySem.Challenge.rw_mastword_k35_whole_slips_hold_the_true).prog 77).name = ("law" : PySem.Str) := by kernel_rfl
      rw [← e]
      exact hmg0
    exact ⟨K, KX, Mw.all_mk (w := w) KX G hmg c⟩

