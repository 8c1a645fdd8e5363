import PyProof.Rows.All
import Wide.All
import OpenK.AllK
import Wide.FinOn
import KE.KStateDown
import HandS.Base
import HandS.Call
import HandS.Ends
import HandS.More
import HandS.Words
import HandS.WordsExc
import HandS.Defaults
import HandS.Head0
import HandS.Head1
import HandS.Head2
import HandS.HeadEnd
import HandS.HeadHook1
import HandS.HeadHook2
import HandS.ExcInit
import HandS.IsInst
import HandS.ExcField
import HandS.ExcIs
import HandS.List
import HandS.Comp
import HandS.Wide
import HandS.Iter
import HandS.WordsList
import HandS.Steps
import HandS.Walk
import HandS.ExcOwn
import HandS.TryOnly
import HandS.SuiteRaise
import HandS.Evl
import HandS.Flow
import HandS.TupAny
import HandS.Rev
import HandS.Zip
import HandS.Conv
import HandS.RevRange
import HandS.Style
import HandS.Strs
import HandS.Dict
import PyProof.ReprRoads
import KE.GoesMore
import HandS.TryMany
import KE.KTupSum
import KE.GoesZip
import HandS.WideBits
import PyProof.NoPylong
import HandS.TupMul
import HandS.NoneIn
import HandS.HotCalls
import HandS.MakeKw
import HandS.ExcValue
import PySem.Challenge.RW_rankwords_k75_errors_stand_side_by_side
set_option Elab.async false
set_option linter.all false
set_option maxRecDepth 100000
namespace HM
open PySem PySem.Spec PyProof.Rows L2 He
abbrev AlM : Type := (Bool × Bool) × List FnW
def obsM (fa : List Fa) (fn : List DefD) (ex : PySem.W.Frag → Bool) (K : PySem.W.Frag) : AlM := (((fa.all fun f => f.ok K) && fn.all fun d => d.ok K, ex K), fn.map fun d => fnW K d.at_)
def valM (fn : List DefD) : AlM := ((true, true), fn.map DefD.val)
def SaysM (fa : List Fa) (fn : List DefD) (ex : PySem.W.Frag → Bool) (K : PySem.W.Frag) : Prop := obsM fa fn ex K = valM fn
def obsMG (as : List Addr) (fa : List Fa) (fn : List DefD) (ex : PySem.W.Frag → Bool) (g : Addr → Option Obj) : AlM := obsM fa fn ex (frG g as)
def hookM (as : List Addr) (fa : List Fa) (fn : List DefD) (ex : PySem.W.Frag → Bool) : PySem.W.Hook where
  α := AlM
  obs := fun s => obsMG as fa fn ex s.heap.get?
  val := fun _ => valM fn
  says := fun _ h => ∃ K : PySem.W.Frag, K.In h ∧ SaysM fa fn ex K
  of := fun _ _ e => ⟨_, frG_in, e⟩
  keeps := fun _ _ _ ⟨K, hK, c⟩ k => ⟨K, PySem.W.Frag.In.keeps hK k, c⟩
theorem obsMG_eq {as : List Addr} {fa : List Fa} {fn : List DefD} {ex : PySem.W.Frag → Bool} {g : Addr → Option Obj} {s : Shared} (h : ∀ a, g a = s.heap.get? a) : obsMG as fa fn ex g = (hookM as fa fn ex).obs s := by
  have e : g = s.heap.get? := funext h
  rw [e] <;> rfl
theorem SaysM.d {fa : List Fa} {fn : List DefD} {ex : PySem.W.Frag → Bool} {K : PySem.W.Frag} (c : SaysM fa fn ex K) : SaysD fa fn K ∧ ex K = true := by
  have h1 := congrArg (fun z : AlM => z.1.1) c
  have h2 := congrArg (fun z : AlM => z.1.2) c
  have h3 := congrArg (fun z : AlM => z.2) c
  exact ⟨Prod.ext h1 h3, h2⟩
/-- the addresses behind the boot -/
def addrs (n0 cnt : Nat) : List Addr := mainGlobals :: (List.range' n0 cnt)
end HM

set_option maxRecDepth 100000
set_option maxHeartbeats 1000000
namespace MP
open PySem L2
/-! ### what the written part must say of an own exception class with an __init__ of its own: a check that computes -/
def oexShape (K : PySem.W.Frag) (C : Addr) : Bool := match K.lookup C with
  | some ⟨.type "type", _, .cls cd, sl⟩ => (match cd.mro, sl.toList with
    | .ref C' :: bm, [_, _, _, _, some (.builtin n), _] => C' == C && (n == "ValueError.__new__" && (!cd.hasDel && (cd.hasDict && PySem.HandSPX.refsVE bm)))
    | _, _ => false)
  | _ => false
def oexB (K : PySem.W.Frag) (C : Addr) : Bool := oexShape K C && (He.eqO (PySem.W.findIn K (.ref C) "__setattr__") (some (some (.builtin "object.__setattr__"))) && (decide (PySem.W.subIn K (.ref C) (.type "BaseException") = some true) &&
  (decide (PySem.W.typeIn K (.ref C) = some (.type "type")) && PySem.W.keepIn K (.ref C))))
def oexInit (K : PySem.W.Frag) (C f : Addr) : Bool := He.eqO (PySem.W.findIn K (.ref C) "__init__") (some (some (.ref f))) && decide (PySem.W.typeIn K (.ref f) = some (.type "function"))
theorem oex_ok {K : PySem.W.Frag} {C : Addr} (h : oexB K C = true) : OexC K C := by
  obtain ⟨h1, h⟩ := Bool.and_eq_true_iff.mp h
  obtain ⟨h2, h⟩ := Bool.and_eq_true_iff.mp h
  obtain ⟨h3, h⟩ := Bool.and_eq_true_iff.mp h
  obtain ⟨h4, h5⟩ := Bool.and_eq_true_iff.mp h
  refine ⟨?_, He.eqO_ok h2, of_decide_eq_true h3, of_decide_eq_true h4, h5⟩
  unfold oexShape at h1
  split at h1
  · rename_i dd cd sl ho
    split at h1
    · rename_i C' bm k0 k1 k2 k3 n k5 hm hs
      simp only [Bool.and_eq_true, beq_iff_eq, Bool.not_eq_true'] at h1
      obtain ⟨rfl, rfl, hdel, hdict, hr⟩ := h1
      obtain ⟨nm, bs, mro, ns, qn, hd, sn, sub, ab, col, del⟩ := cd
      dsimp only at hm hdel hdict
      subst hm hdel hdict
      obtain ⟨l⟩ := sl
      simp only at hs
      subst hs
      exact ⟨nm, qn, ns, bs, bm, sn, sub, ab, col, dd, k0, k1, k2, k3, k5, ho, hr⟩
    · cases h1
  · cases h1
theorem oexInit_ok {K : PySem.W.Frag} {C f : Addr} (h : oexInit K C f = true) : PySem.W.findIn K (.ref C) "__init__" = some (some (.ref f)) ∧ PySem.W.typeIn K (.ref f) = some (.type "function") := by
  obtain ⟨h1, h2⟩ := Bool.and_eq_true_iff.mp h
  exact ⟨He.eqO_ok h1, of_decide_eq_true h2⟩
/-- all of them: the classes with the fields that no class may have for its own -/
def oexAll (l : List (Str × List Str)) (K : PySem.W.Frag) : Bool := l.all fun x => oexB K (He.ga K x.1) && (oexInit K (He.ga K x.1) (He.ma K (He.ga K x.1) "__init__") && x.2.all fun f => He.eqO (PySem.W.findIn K (.ref (He.ga K x.1)) f) (some none))
theorem oexAll_ok {l : List (Str × List Str)} {K : PySem.W.Frag} (h : oexAll l K = true) {x : Str} {fs : List Str} (i : Nat) (hi : l[i]? = some (x, fs)) :
    OexC K (He.ga K x) ∧ PySem.W.findIn K (.ref (He.ga K x)) "__init__" = some (some (.ref (He.ma K (He.ga K x) "__init__"))) ∧ PySem.W.typeIn K (.ref (He.ma K (He.ga K x) "__init__")) = some (.type "function") ∧ ∀ f ∈ fs, PySem.W.findIn K (.ref (He.ga K x)) f = some none := by
  have m := List.all_eq_true.mp h _ (List.mem_of_getElem? hi)
  obtain ⟨h1, m⟩ := Bool.and_eq_true_iff.mp m
  obtain ⟨h2, h3⟩ := Bool.and_eq_true_iff.mp m
  obtain ⟨a, b⟩ := oexInit_ok h2
  exact ⟨oex_ok h1, a, b, fun f hf => He.eqO_ok (List.all_eq_true.mp h3 f hf)⟩
end MP

set_option maxRecDepth 100000
set_option maxHeartbeats 1000000
namespace MP
open PySem L2
/-! ### what the written part must say for isinstance: a check that computes -/
inductive Tg where
  | own (x : Str) | ty (n : String)
  deriving DecidableEq
def Tg.u (K : PySem.W.Frag) : Tg → Value
  | .own x => .ref (He.ga K x)
  | .ty n => .type n
def Tg.v (K : PySem.W.Frag) : Tg → V
  | .own x => .ref (He.ga K x)
  | .ty n => .ty n
theorem Tg.cls (K : PySem.W.Frag) : ∀ t : Tg, ClsV (t.v K) (t.u K)
  | .own _ => .own _
  | .ty _ => .ty _
structure InsK (K : PySem.W.Frag) (C : Addr) : Prop where
  cl : Cls K C
  ha : PySem.W.findIn K (.ref C) "__class__" = some (some (.builtin "object.__class__"))
  hn : PySem.W.specialIn K (.builtin "object.__class__") "__get__" = some (some (.builtin "getset_descriptor.__get__"))
  htk : PySem.W.takesIn K (.builtin "object.__class__") = some true
  hm : PySem.W.mroIn K C (.type "object") = some true
def insB (K : PySem.W.Frag) (x : Str) : Bool := (He.Fa.cls x).ok K && (He.eqO (PySem.W.findIn K (.ref (He.ga K x)) "__class__") (some (some (.builtin "object.__class__"))) && (decide (PySem.W.specialIn K (.builtin "object.__class__") "__get__" = some (some (.builtin "getset_descriptor.__get__"))) &&
  (decide (PySem.W.takesIn K (.builtin "object.__class__") = some true) && decide (PySem.W.mroIn K (He.ga K x) (.type "object") = some true))))
theorem insB_ok {K : PySem.W.Frag} {x : Str} (h : insB K x = true) : InsK K (He.ga K x) := by
  obtain ⟨h1, h⟩ := Bool.and_eq_true_iff.mp h
  obtain ⟨h2, h⟩ := Bool.and_eq_true_iff.mp h
  obtain ⟨h3, h⟩ := Bool.and_eq_true_iff.mp h
  obtain ⟨h4, h5⟩ := Bool.and_eq_true_iff.mp h
  exact ⟨He.cls_ok h1, He.eqO_ok h2, of_decide_eq_true h3, of_decide_eq_true h4, of_decide_eq_true h5⟩
/-- the table of answers: a value's type, a class, whether it is one -/
abbrev Isi := List ((Tg × Tg) × Bool)
def isiB (own : List Str) (l : Isi) (K : PySem.W.Frag) : Bool := (own.all fun x => insB K x) && l.all fun e => decide (PySem.W.kitOne K (e.1.1.u K) (e.1.2.u K) = some e.2)
theorem isi_ins {own : List Str} {l : Isi} {K : PySem.W.Frag} (h : isiB own l K = true) {x : Str} (m : own.contains x = true) : InsK K (He.ga K x) :=
  insB_ok (List.all_eq_true.mp (Bool.and_eq_true_iff.mp h).1 x (by simpa using m))
theorem isi_look : ∀ {l : Isi} {a b : Tg} {r : Bool}, l.lookup (a, b) = some r → ((a, b), r) ∈ l
  | [], _, _, _, h => by cases h
  | e :: l, a, b, r, h => by
    rw [List.lookup_cons] at h
    split at h
    · rename_i q
      cases h
      rw [eq_of_beq q]
      exact List.mem_cons_self
    · exact List.mem_cons_of_mem _ (isi_look h)
theorem isi_kit {own : List Str} {l : Isi} {K : PySem.W.Frag} (h : isiB own l K = true) {a b : Tg} {r : Bool} (q : l.lookup (a, b) = some r) : PySem.W.kitOne K (a.u K) (b.u K) = some r :=
  of_decide_eq_true (List.all_eq_true.mp (Bool.and_eq_true_iff.mp h).2 _ (isi_look q))
/-- the whole check of a head -/
def exAll (exl : List (Str × List Str)) (own : List Str) (isl : Isi) (K : PySem.W.Frag) : Bool := oexAll exl K && isiB own isl K
theorem exAll_oex {exl : List (Str × List Str)} {own : List Str} {isl : Isi} {K : PySem.W.Frag} (h : exAll exl own isl K = true) : oexAll exl K = true := (Bool.and_eq_true_iff.mp h).1
theorem exAll_isi {exl : List (Str × List Str)} {own : List Str} {isl : Isi} {K : PySem.W.Frag} (h : exAll exl own isl K = true) : isiB own isl K = true := (Bool.and_eq_true_iff.mp h).2
end MP

set_option maxRecDepth 100000
set_option maxHeartbeats 1000000
namespace MP
open PySem L2
/-! ### which raised class matches which named one; classes whose instances' fields are read in a suite -/
abbrev Eml := List ((Str × Str) × Bool)
def emB (l : Eml) (K : PySem.W.Frag) : Bool := l.all fun e => decide (PySem.W.exmOne K (.ref (He.ga K e.1.1)) (.ref (He.ga K e.1.2)) = some e.2)
/-- what isinstance asks of a caught error's class, but for what its fields ask -/
def xiB (K : PySem.W.Frag) (C : Addr) : Bool := decide (PySem.W.findIn K (.ref C) "__class__" = some (some (.builtin "object.__class__"))) && (decide (PySem.W.specialIn K (.builtin "object.__class__") "__get__" = some (some (.builtin "getset_descriptor.__get__"))) && (decide (PySem.W.takesIn K (.builtin "object.__class__") = some true) && decide (PySem.W.mroIn K C (.type "object") = some true)))
theorem xiB_ok {K : PySem.W.Frag} {C : Addr} (h : xfB K C = true) (g : xiB K C = true) : ExcC K C := by
  obtain ⟨a1, a2, a3, a4⟩ := xfB_ok h
  obtain ⟨h1, g⟩ := Bool.and_eq_true_iff.mp g
  obtain ⟨h2, g⟩ := Bool.and_eq_true_iff.mp g
  obtain ⟨h3, h4⟩ := Bool.and_eq_true_iff.mp g
  exact ⟨a1, a2, a3, a4, of_decide_eq_true h1, of_decide_eq_true h2, of_decide_eq_true h3, of_decide_eq_true h4⟩
def xfAll (l : List Str) (K : PySem.W.Frag) : Bool := l.all fun x => xfB K (He.ga K x) && xiB K (He.ga K x)
def exAll2 (exl : List (Str × List Str)) (own : List Str) (isl : Isi) (eml : Eml) (xfl : List Str) (K : PySem.W.Frag) : Bool := exAll exl own isl K && (emB eml K && xfAll xfl K)
def emOf (l : Eml) : Str → Str → Option Bool := fun n m => l.lookup (n, m)
section
variable {exl : List (Str × List Str)} {own : List Str} {isl : Isi} {eml : Eml} {xfl : List Str} {K : PySem.W.Frag}
theorem exAll2_a (h : exAll2 exl own isl eml xfl K = true) : exAll exl own isl K = true := (Bool.and_eq_true_iff.mp h).1
theorem em_look : ∀ {l : Eml} {a : Str × Str} {r : Bool}, l.lookup a = some r → (a, r) ∈ l
  | [], _, _, h => by cases h
  | e :: l, a, r, h => by
    rw [List.lookup_cons] at h
    split at h
    · rename_i q
      cases h
      rw [eq_of_beq q]
      exact List.mem_cons_self
    · exact List.mem_cons_of_mem _ (em_look h)
theorem exAll2_em (h : exAll2 exl own isl eml xfl K = true) (n m : Str) (b : Bool) (q : emOf eml n m = some b) : PySem.W.exmOne K (.ref (He.ga K n)) (.ref (He.ga K m)) = some b :=
  of_decide_eq_true (List.all_eq_true.mp (Bool.and_eq_true_iff.mp (Bool.and_eq_true_iff.mp h).2).1 _ (em_look q))
theorem exAll2_xf (h : exAll2 exl own isl eml xfl K = true) {x : Str} (m : xfl.contains x = true) : XfC K (He.ga K x) :=
  xfB_ok (Bool.and_eq_true_iff.mp (List.all_eq_true.mp (Bool.and_eq_true_iff.mp (Bool.and_eq_true_iff.mp h).2).2 x (by simpa using m))).1
theorem exAll2_xi (h : exAll2 exl own isl eml xfl K = true) {x : Str} (m : xfl.contains x = true) : ExcC K (He.ga K x) := by
  have q := Bool.and_eq_true_iff.mp (List.all_eq_true.mp (Bool.and_eq_true_iff.mp (Bool.and_eq_true_iff.mp h).2).2 x (by simpa using m))
  exact xiB_ok q.1 q.2
end
end MP

set_option maxRecDepth 100000
set_option maxHeartbeats 1000000
namespace Evl
open PySem L2
theorem Ex.both {F H : Hp} {p : Addr} {o : HO} (e : Ex F H) (h : H p = none) : Ex (upd F p o) (upd H p o) := fun a u ha => by
  by_cases q : a = p
  · subst q
    rw [upd_same] at ha ⊢
    exact ha
  · rw [upd_ne q] at ha ⊢
    exact e a u ha
theorem Ex.frz {F H : Hp} {p : Addr} {o : HO} (e : Ex F H) (h : H p = some o) : Ex (upd F p o) H := fun a u ha => by
  by_cases q : a = p
  · subst q
    rw [upd_same] at ha
    rw [h]
    exact ha
  · rw [upd_ne q] at ha
    exact e a u ha
end Evl
namespace MP
open PySem L2
open Evl (Ex ex_rd ex_l ex_t)
/-! ### data -/
inductive D where
  | non | bl (b : Bool) | int (i : Int) | str (x : Str) | tup (ds : List D) | lst (ds : List D) | obj (c : Str) (fs : List (Str × D)) | hand
  /-- a tuple whose object is known, and an empty dict -/
  | ptup (ds : List D) | edic
  /-- the script -/
  | slst (ds : List D)
  /-- an exception that is held as a value -/
  | exv (c : Str) (fs : List (Str × D))
abbrev G := List D
inductive Out where
  | ok (d : D) | exc (c : Str) (fs : List (Str × D))
abbrev Env := List (Option D)
abbrev R := Option (Out × G)
abbrev SE := Env → G → R
/-- what is around: the written part, a class's address, the hand's -/
structure Cb where
  K : PySem.W.Frag
  ca : Str → Addr
  hd : Option Addr
structure Ct extends Cb where
  /-- slots that hold what no meaning tells -/
  pin : List (Nat × V) := []
  /-- what is frozen from the start -/
  fx : Hp := fun _ => none
instance : Coe Ct Cb := ⟨Ct.toCb⟩
/-- an exception object of the class cls with the dict dd at a, not raised yet -/
def ExV (cls : Value) (dd : Option Addr) (a : Addr) : HO := .ext fun h => ∃ (oe : Obj) (vs : Array Value), h.get? a = some oe ∧ L2.Zc cls dd oe ∧ oe.data = .fields vs
mutual
def Rep (c : Cb) (F : Hp) : D → V → Prop
  | .non, v => v = .non
  | .bl b, v => v = .bl b
  | .int i, v => v = .int i
  | .str x, v => v = .str x
  | .tup ds, v => ∃ a vs, v = .ref a ∧ SqT c.K F a vs ∧ Reps c F ds vs
  | .lst ds, v => ∃ a vs, v = .ref a ∧ F a = some (.lst vs) ∧ Reps c F ds vs
  | .obj n fs, v => ∃ a dx vs, v = .ref a ∧ F a = some (.ins (c.ca n) dx vs) ∧ RepF c F fs vs
  | .hand, v => ∃ a, c.hd = some a ∧ v = .ref a
  | .ptup ds, v => ∃ a ob vs, v = .ref a ∧ F a = some (.frz ob (.tup vs)) ∧ ob.cls = .type "tuple" ∧ ob.dict = none ∧ Reps c F ds vs
  | .edic, v => ∃ a, v = .ref a ∧ F a = some (.dK [])
  | .slst ds, v => ∃ a vs, v = .ref a ∧ SqL c.K F a vs ∧ Reps c F ds vs
  | .exv n fs, v => ∃ a dd vs, v = .ref a ∧ F a = some (ExV (.ref (c.ca n)) dd a) ∧ ((fs = [] ∧ dd = none) ∨ ∃ d od, dd = some d ∧ F d = some (.frz od (.xd vs))) ∧ RepF c F fs vs
def Reps (c : Cb) (F : Hp) : List D → List V → Prop
  | [], vs => vs = []
  | d :: ds, vs => ∃ v r, vs = v :: r ∧ Rep c F d v ∧ Reps c F ds r
def RepF (c : Cb) (F : Hp) : List (Str × D) → List (Str × V) → Prop
  | [], vs => vs = []
  | (n, d) :: ds, vs => ∃ v r, vs = (n, v) :: r ∧ Rep c F d v ∧ RepF c F ds r
end
theorem ex_none {F H : Hp} {p : Addr} (e : Ex F H) (h : H p = none) : F p = none := by
  cases q : F p with
  | none => rfl
  | some o =>
    rw [e p o q] at h
    cases h
section
variable {c : Cb} {F F' : Hp}
mutual
theorem Rep.mono (e : Ex F F') : ∀ (d : D) (v : V), Rep c F d v → Rep c F' d v
  | .non, _, h => h
  | .bl _, _, h => h
  | .int _, _, h => h
  | .str _, _, h => h
  | .tup ds, _, ⟨a, vs, h1, h2, h3⟩ => ⟨a, vs, h1, ex_t e h2, Reps.mono e ds vs h3⟩
  | .lst ds, _, ⟨a, vs, h1, h2, h3⟩ => ⟨a, vs, h1, e _ _ h2, Reps.mono e ds vs h3⟩
  | .obj n fs, _, ⟨a, dx, vs, h1, h2, h3⟩ => ⟨a, dx, vs, h1, e _ _ h2, RepF.mono e fs vs h3⟩
  | .hand, _, h => h
  | .ptup ds, _, ⟨a, ob, vs, h1, h2, h3, h4, h5⟩ => ⟨a, ob, vs, h1, e _ _ h2, h3, h4, Reps.mono e ds vs h5⟩
  | .edic, _, ⟨a, h1, h2⟩ => ⟨a, h1, e _ _ h2⟩
  | .slst ds, _, ⟨a, vs, h1, h2, h3⟩ => ⟨a, vs, h1, ex_l e h2, Reps.mono e ds vs h3⟩
  | .exv n fs, _, ⟨a, dd, vs, h1, h2, h3, h4⟩ => ⟨a, dd, vs, h1, e _ _ h2, h3.imp (fun z => z) (fun ⟨d, od, k1, k2⟩ => ⟨d, od, k1, e _ _ k2⟩), RepF.mono e fs vs h4⟩
theorem Reps.mono (e : Ex F F') : ∀ (ds : List D) (vs : List V), Reps c F ds vs → Reps c F' ds vs
  | [], _, h => h
  | d :: ds, _, ⟨v, r, h1, h2, h3⟩ => ⟨v, r, h1, Rep.mono e d v h2, Reps.mono e ds r h3⟩
theorem RepF.mono (e : Ex F F') : ∀ (ds : List (Str × D)) (vs : List (Str × V)), RepF c F ds vs → RepF c F' ds vs
  | [], _, h => h
  | (n, d) :: ds, _, ⟨v, r, h1, h2, h3⟩ => ⟨v, r, h1, Rep.mono e d v h2, RepF.mono e ds r h3⟩
end
theorem Reps.len : ∀ {ds : List D} {vs : List V}, Reps c F ds vs → vs.length = ds.length
  | [], _, h => by cases h; rfl
  | d :: ds, _, ⟨v, r, h1, h2, h3⟩ => by rw [h1, List.length_cons, List.length_cons, Reps.len h3]
theorem Reps.get : ∀ {ds : List D} {vs : List V} {i : Nat} {d : D}, Reps c F ds vs → ds[i]? = some d → ∃ v, vs[i]? = some v ∧ Rep c F d v
  | [], _, _, _, _, h => by simp at h
  | d :: ds, _, 0, _, ⟨v, r, h1, h2, h3⟩, h => by
    rw [List.getElem?_cons_zero] at h
    cases h
    exact ⟨v, by rw [h1]; rfl, h2⟩
  | d :: ds, _, i + 1, _, ⟨v, r, h1, h2, h3⟩, h => by
    rw [List.getElem?_cons_succ] at h
    obtain ⟨w, e1, e2⟩ := Reps.get h3 h
    exact ⟨w, by rw [h1, List.getElem?_cons_succ]; exact e1, e2⟩
theorem Reps.get' : ∀ {ds : List D} {vs : List V} {i : Nat} {v : V}, Reps c F ds vs → vs[i]? = some v → ∃ d, ds[i]? = some d ∧ Rep c F d v
  | [], _, _, _, h0, h => by cases h0; simp at h
  | d :: ds, _, 0, _, ⟨v, r, h1, h2, h3⟩, h => by
    rw [h1, List.getElem?_cons_zero] at h
    cases h
    exact ⟨d, rfl, h2⟩
  | d :: ds, _, i + 1, _, ⟨v, r, h1, h2, h3⟩, h => by
    rw [h1, List.getElem?_cons_succ] at h
    obtain ⟨w, e1, e2⟩ := Reps.get' h3 h
    exact ⟨w, by rw [List.getElem?_cons_succ]; exact e1, e2⟩
theorem Reps.append : ∀ {ds es : List D} {vs ws : List V}, Reps c F ds vs → Reps c F es ws → Reps c F (ds ++ es) (vs ++ ws)
  | [], _, _, _, h, k => by cases h; exact k
  | d :: ds, _, _, _, ⟨v, r, h1, h2, h3⟩, k => ⟨v, _, by rw [h1, List.cons_append], h2, Reps.append h3 k⟩
theorem Reps.one {d : D} {v : V} (h : Rep c F d v) : Reps c F [d] [v] := ⟨v, [], rfl, h, rfl⟩
theorem Reps.set : ∀ {ds : List D} {vs : List V} {i : Nat} {d : D} {v : V}, Reps c F ds vs → Rep c F d v → Reps c F (ds.set i d) (vs.set i v)
  | [], _, _, _, _, h, _ => by cases h; exact rfl
  | d :: ds, _, 0, _, _, ⟨v, r, h1, h2, h3⟩, h => ⟨_, _, by rw [h1, List.set_cons_zero], h, h3⟩
  | d :: ds, _, i + 1, _, _, ⟨v, r, h1, h2, h3⟩, h => ⟨_, _, by rw [h1, List.set_cons_succ], h2, Reps.set h3 h⟩
theorem Reps.take : ∀ {ds : List D} {vs : List V} (i : Nat), Reps c F ds vs → Reps c F (ds.take i) (vs.take i)
  | [], _, i, h => by cases h; simp; exact rfl
  | d :: ds, _, 0, h => by simp; exact rfl
  | d :: ds, _, i + 1, ⟨v, r, h1, h2, h3⟩ => ⟨v, r.take i, by rw [h1, List.take_succ_cons], h2, Reps.take i h3⟩
theorem Reps.drop : ∀ {ds : List D} {vs : List V} (i : Nat), Reps c F ds vs → Reps c F (ds.drop i) (vs.drop i)
  | [], _, i, h => by cases h; simp; exact rfl
  | d :: ds, _, 0, h => by simpa using h
  | d :: ds, _, i + 1, ⟨v, r, h1, h2, h3⟩ => by rw [h1, List.drop_succ_cons, List.drop_succ_cons]; exact Reps.drop i h3
theorem Reps.dropLast {ds : List D} {vs : List V} (h : Reps c F ds vs) : Reps c F ds.dropLast vs.dropLast := by
  rw [List.dropLast_eq_take, List.dropLast_eq_take, h.len]
  exact h.take _
theorem Reps.reverse : ∀ {ds : List D} {vs : List V}, Reps c F ds vs → Reps c F ds.reverse vs.reverse
  | [], _, h => by cases h; exact rfl
  | d :: ds, _, ⟨v, r, h1, h2, h3⟩ => by
    rw [h1, List.reverse_cons, List.reverse_cons]
    exact (Reps.reverse h3).append (.one h2)
theorem RepF.look {f : Str} {d : D} : ∀ {fs : List (Str × D)} {vs : List (Str × V)}, RepF c F fs vs → fs.lookup f = some d → ∃ v, vs.lookup f = some v ∧ Rep c F d v
  | [], _, _, h => by simp at h
  | (n, e) :: fs, _, ⟨v, r, h1, h2, h3⟩, h => by
    rw [h1]
    rw [List.lookup_cons] at h ⊢
    cases q : (f == n) with
    | true =>
      rw [q] at h
      cases h
      exact ⟨v, rfl, h2⟩
    | false =>
      rw [q] at h
      exact RepF.look h3 h
theorem RepF.len : ∀ {ds : List (Str × D)} {vs : List (Str × V)}, RepF c F ds vs → vs.length = ds.length
  | [], _, h => by cases h; rfl
  | (n, d) :: ds, _, ⟨v, r, h1, h2, h3⟩ => by rw [h1, List.length_cons, List.length_cons, RepF.len h3]
end
/-! ### states -/
/-- from (F0, H0) to (F, H): what is frozen stays, what stood stands (but the hand), what is newly frozen is new -/
structure Gr (c : Cb) (F0 H0 F H : Hp) : Prop where
  ex : Ex F0 F
  keep : ∀ a o, H0 a = some o → c.hd ≠ some a → H a = some o
  new : ∀ a, F0 a = none → F a ≠ none → H0 a = none
  dom : ∀ a, H a = none → H0 a = none
theorem Gr.refl (c : Cb) (F H : Hp) : Gr c F H F H := ⟨.refl F, fun _ _ h _ => h, fun _ h k => absurd h k, fun _ h => h⟩
theorem Gr.trans {c : Cb} {F0 H0 F1 H1 F2 H2 : Hp} (a : Gr c F0 H0 F1 H1) (b : Gr c F1 H1 F2 H2) : Gr c F0 H0 F2 H2 where
  ex := a.ex.trans b.ex
  keep := fun x o h k => b.keep x o (a.keep x o h k) k
  new := fun x h k => by
    cases q : F1 x with
    | none => exact a.dom x (b.new x q k)
    | some o => exact a.new x h (by rw [q]; exact Option.some_ne_none o)
  dom := fun x h => a.dom x (b.dom x h)
/-- the hand stands in H -/
def HandAt (c : Cb) (F H : Hp) (g : G) : Prop := match c.hd with
  | none => True
  | some h => F h = none ∧ ∃ vs, H h = some (.lst vs) ∧ Reps c F g vs
/-- what slot i owns -/
def OwnO (c : Cb) (F : Hp) : D → HO → Prop
  | .lst ds, .lst vs => Reps c F ds vs
  | .obj n fs, .ins C _ vs => C = c.ca n ∧ RepF c F fs vs
  | _, _ => False
def Own (c : Cb) (F0 H0 F H : Hp) (d : D) (v : V) : Prop := ∃ p o, v = .ref p ∧ H0 p = none ∧ F p = none ∧ c.hd ≠ some p ∧ H p = some o ∧ OwnO c F d o
theorem OwnO.inv {c : Cb} {F : Hp} {d : D} {o : HO} (h : OwnO c F d o) : (∃ ds vs, d = .lst ds ∧ o = .lst vs ∧ Reps c F ds vs) ∨ ∃ n fs dx vs, d = .obj n fs ∧ o = .ins (c.ca n) dx vs ∧ RepF c F fs vs := by
  unfold OwnO at h
  split at h
  · exact .inl ⟨_, _, rfl, rfl, h⟩
  · obtain ⟨h1, h2⟩ := h
    subst h1
    exact .inr ⟨_, _, _, _, rfl, rfl, h2⟩
  · exact h.elim
theorem OwnO.mono {c : Cb} {F F' : Hp} (e : Ex F F') {d : D} {o : HO} (h : OwnO c F d o) : OwnO c F' d o := by
  rcases h.inv with ⟨ds, vs, rfl, rfl, k⟩ | ⟨n, fs, dx, vs, rfl, rfl, k⟩
  · exact Reps.mono e _ _ k
  · exact ⟨rfl, RepF.mono e _ _ k⟩
theorem OwnO.lst {c : Cb} {F : Hp} {ds : List D} {o : HO} (h : OwnO c F (.lst ds) o) : ∃ vs, o = .lst vs ∧ Reps c F ds vs := by
  rcases h.inv with ⟨ds, vs, e, rfl, k⟩ | ⟨n, fs, dx, vs, e, rfl, k⟩
  · cases e; exact ⟨vs, rfl, k⟩
  · cases e
theorem OwnO.obj {c : Cb} {F : Hp} {n : Str} {fs : List (Str × D)} {o : HO} (h : OwnO c F (.obj n fs) o) : ∃ dx vs, o = .ins (c.ca n) dx vs ∧ RepF c F fs vs := by
  rcases h.inv with ⟨ds, vs, e, rfl, k⟩ | ⟨n, fs, dx, vs, e, rfl, k⟩
  · cases e
  · cases e; exact ⟨dx, vs, rfl, k⟩
theorem Own.lst {c : Cb} {F0 H0 F H : Hp} {ds : List D} {v : V} (h : Own c F0 H0 F H (.lst ds) v) : ∃ p vs, v = .ref p ∧ H0 p = none ∧ F p = none ∧ c.hd ≠ some p ∧ H p = some (.lst vs) ∧ Reps c F ds vs := by
  obtain ⟨p, o, h1, h2, h3, h4, h5, h6⟩ := h
  obtain ⟨vs, rfl, h7⟩ := h6.lst
  exact ⟨p, vs, h1, h2, h3, h4, h5, h7⟩
/-- what is owned, frozen -/
theorem OwnO.rep {c : Cb} {F : Hp} {p : Addr} {d : D} {o : HO} (e : F p = some o) (h : OwnO c F d o) : Rep c F d (.ref p) := by
  rcases h.inv with ⟨ds, vs, rfl, rfl, k⟩ | ⟨n, fs, dx, vs, rfl, rfl, k⟩
  · exact ⟨p, vs, rfl, e, k⟩
  · exact ⟨p, dx, vs, rfl, e, k⟩
/-- slot i holds nothing that is told apart -/
def Ct.np (c : Ct) (i : Nat) : Bool := c.pin.all fun p => p.1 != i
theorem Ct.np_ne {c : Ct} {i j : Nat} {v : V} (h : c.np i = true) (m : (j, v) ∈ c.pin) : i ≠ j := fun e => by
  have := List.all_eq_true.mp h _ m
  simp [e] at this
structure SR (c : Ct) (F0 H0 F H : Hp) (σ : St) (ρ : Env) (O : List Nat) (g : G) : Prop where
  ex : Ex F H
  gr : Gr c F0 H0 F H
  len : σ.length = ρ.length
  val : ∀ i d, ρ[i]? = some (some d) → i ∉ O → ∃ v, σ[i]? = some (some v) ∧ Rep c F d v
  own : ∀ i d, ρ[i]? = some (some d) → i ∈ O → ∃ v, σ[i]? = some (some v) ∧ Own c F0 H0 F H d v
  dis : ∀ i j d e, i ∈ O → j ∈ O → i ≠ j → ρ[i]? = some (some d) → ρ[j]? = some (some e) → σ[i]? ≠ σ[j]?
  hand : HandAt c F H g
  bs : Ex c.fx F
  pn : ∀ i v, (i, v) ∈ c.pin → i < σ.length → σ[i]? = some (some v)
section
variable {c : Ct} {F0 H0 F H F' H' : Hp} {σ : St} {ρ : Env} {O : List Nat} {g g' : G}
theorem SR.next (S : SR c F0 H0 F H σ ρ O g) (G : Gr c F H F' H') (ex : Ex F' H') (hh : HandAt c F' H' g') : SR c F0 H0 F' H' σ ρ O g' where
  ex := ex
  gr := S.gr.trans G
  len := S.len
  val := fun i d h k => by
    obtain ⟨v, h1, h2⟩ := S.val i d h k
    exact ⟨v, h1, h2.mono G.ex⟩
  own := fun i d h k => by
    obtain ⟨v, h1, p, o, h3, h4, h5, h6, h7, h8⟩ := S.own i d h k
    refine ⟨v, h1, p, o, h3, h4, ?_, h6, G.keep _ _ h7 h6, h8.mono G.ex⟩
    cases q : F' p with
    | none => rfl
    | some o =>
      have z := G.new p h5 (by rw [q]; exact Option.some_ne_none o)
      rw [h7] at z
      cases z
  dis := S.dis
  hand := hh
  bs := S.bs.trans G.ex
  pn := S.pn
/-- pure: nothing that stands changes -/
structure Gp (F H F' H' : Hp) : Prop where
  ex : Ex F F'
  keep : Ex H H'
  new : ∀ a, F a = none → F' a ≠ none → H a = none
  exx : Ex F' H'
theorem Gp.refl (e : Ex F H) : Gp F H F H := ⟨.refl F, .refl H, fun _ h k => absurd h k, e⟩
theorem Gp.trans {F2 H2 : Hp} (a : Gp F H F' H') (b : Gp F' H' F2 H2) : Gp F H F2 H2 where
  ex := a.ex.trans b.ex
  keep := a.keep.trans b.keep
  new := fun x h k => by
    cases q : F' x with
    | none =>
      have z := b.new x q k
      exact ex_none a.keep z
    | some o => exact a.new x h (by rw [q]; exact Option.some_ne_none o)
  exx := b.exx
theorem Gp.gr (a : Gp F H F' H') : Gr c F H F' H' := ⟨a.ex, fun x o h _ => a.keep x o h, a.new, fun x h => ex_none a.keep h⟩
theorem Gp.hand (a : Gp F H F' H') (h : HandAt c F H g) : HandAt c F' H' g := by
  unfold HandAt at h ⊢
  cases q : c.hd with
  | none => trivial
  | some p =>
    rw [q] at h
    obtain ⟨h1, vs, h2, h3⟩ := h
    refine ⟨?_, vs, a.keep _ _ h2, h3.mono a.ex⟩
    cases z : F' p with
    | none => rfl
    | some o =>
      have y := a.new p h1 (by rw [z]; exact Option.some_ne_none o)
      rw [h2] at y
      cases y
theorem SR.pure (S : SR c F0 H0 F H σ ρ O g) (a : Gp F H F' H') : SR c F0 H0 F' H' σ ρ O g := S.next a.gr a.exx (a.hand S.hand)
/-- a new object, frozen at once -/
theorem gp_new {p : Addr} {o : HO} (e : Ex F H) (h : H p = none) : Gp F H (upd F p o) (upd H p o) where
  ex := Ex.new (ex_none e h)
  keep := Ex.new h
  new := fun a z k => by
    by_cases q : a = p
    · subst q
      exact h
    · rw [upd_ne q] at k
      exact absurd z k
  exx := Ex.both e h
/-- a new object that stays open -/
theorem gp_open {p : Addr} {o : HO} (e : Ex F H) (h : H p = none) : Gp F H F (upd H p o) where
  ex := .refl F
  keep := Ex.new h
  new := fun a z k => absurd z k
  exx := e.trans (Ex.new h)
end
end MP

set_option maxRecDepth 100000
set_option maxHeartbeats 1000000
namespace MP
open PySem L2
open Evl (Ex ex_rd ex_l ex_t)
/-- a raised exception of the class n with the fields fs -/
def ExcAt (c : Cb) (F H : Hp) (n : Str) (fs : List (Str × D)) (cls : Value) (dd : Option Addr) : Prop :=
  cls = .ref (c.ca n) ∧ ((fs = [] ∧ dd = none) ∨ ∃ d vs, dd = some d ∧ H d = some (.xd vs) ∧ RepF c F fs vs)
section
variable (c : Ct) (F0 H0 : Hp) (σ : St) (ρ : Env) (O : List Nat) (W : WX)
def PostX (F H : Hp) (n : Str) (fs : List (Str × D)) (g' : G) : Prop :=
  ∀ cls dd F' H', Gr c F H F' H' → SR c F0 H0 F' H' σ ρ O g' → ExcAt c F' H' n fs cls dd → W cls dd σ H'
def PostE (F H : Hp) (r : Out) (g' : G) (Q : VK) : Prop := match r with
  | .ok d => ∀ v F' H', Gr c F H F' H' → SR c F0 H0 F' H' σ ρ O g' → Rep c F' d v → Q v H'
  | .exc n fs => PostX c F0 H0 σ ρ O W F H n fs g'
end
/-- te evaluates as e says -/
def SndE (c : Ct) (O : List Nat) (W : WX) (te : TE) (e : SE) : Prop := ∀ F0 H0 F H σ ρ g r g', SR c F0 H0 F H σ ρ O g → e ρ g = some (r, g') → ∀ Q, PostE c F0 H0 σ ρ O W F H r g' Q → te σ H Q
section
variable {c : Ct} {F0 H0 F H F' H' : Hp} {σ : St} {ρ : Env} {O : List Nat} {W : WX} {g g' : G} {te ta tb tc : TE} {e a b : SE}
theorem PostX.gr {n fs} (G : Gr c F H F' H') (p : PostX c F0 H0 σ ρ O W F H n fs g) : PostX c F0 H0 σ ρ O W F' H' n fs g := fun cls dd F2 H2 G2 S x => p cls dd F2 H2 (G.trans G2) S x
theorem PostE.gr {r Q} (G : Gr c F H F' H') (p : PostE c F0 H0 σ ρ O W F H r g Q) : PostE c F0 H0 σ ρ O W F' H' r g Q := by
  cases r with
  | ok d => exact fun v F2 H2 G2 S x => p v F2 H2 (G.trans G2) S x
  | exc n fs => exact PostX.gr G p
/-! ### sequencing -/
def bE (x : R) (k : D → G → R) : R := match x with
  | some (.ok d, g) => k d g
  | some (.exc n f, g) => some (.exc n f, g)
  | none => none
@[simp] theorem bE_ok (d : D) (g : G) (k : D → G → R) : bE (some (.ok d, g)) k = k d g := rfl
@[simp] theorem bE_exc (n f) (g : G) (k : D → G → R) : bE (some (.exc n f, g)) k = some (.exc n f, g) := rfl
@[simp] theorem bE_none (k : D → G → R) : bE none k = none := rfl
/-- the first part of a sequence: its value, or its exception is the whole's -/
theorem SndE.bind (h : SndE c O W te e) {k : D → G → R} {r : Out} (S : SR c F0 H0 F H σ ρ O g) (q : bE (e ρ g) k = some (r, g')) {Q Q' : VK} (p : PostE c F0 H0 σ ρ O W F H r g' Q)
    (n : ∀ d g1 v F1 H1, k d g1 = some (r, g') → Gr c F H F1 H1 → SR c F0 H0 F1 H1 σ ρ O g1 → Rep c F1 d v → Q' v H1) : te σ H Q' := by
  cases z : e ρ g with
  | none =>
    rw [z] at q
    cases q
  | some y =>
    obtain ⟨o, g1⟩ := y
    rw [z] at q
    cases o with
    | ok d => exact h _ _ _ _ _ _ _ _ _ S z _ fun v F1 H1 G1 S1 x => n d g1 v F1 H1 q G1 S1 x
    | exc m fs =>
      cases q
      exact h _ _ _ _ _ _ _ _ _ S z _ p
/-! ### names, constants -/
def eVar (i : Nat) : SE := fun ρ g => match ρ[i]? with
  | some (some d) => some (.ok d, g)
  | _ => none
def eC (d : D) : SE := fun _ g => some (.ok d, g)
theorem snd_var {i : Nat} (hi : i ∉ O) : SndE c O W (tVar i) (eVar i) := fun F0 H0 F H σ ρ g r g' S q Q p => by
  unfold eVar at q
  split at q
  · rename_i d h
    cases q
    obtain ⟨v, h1, h2⟩ := S.val i d h hi
    exact ⟨v, h1, p v F H (Gr.refl ..) S h2⟩
  · cases q
theorem snd_c {d : D} {v : V} (h : ∀ F, Rep c F d v) : SndE c O W (tC v) (eC d) := fun F0 H0 F H σ ρ g r g' S q Q p => by
  cases q
  exact p v F H (Gr.refl ..) S (h F)
theorem snd_int {i : Int} : SndE c O W (tC (.int i)) (eC (.int i)) := snd_c fun _ => rfl
theorem snd_bl {i : Bool} : SndE c O W (tC (.bl i)) (eC (.bl i)) := snd_c fun _ => rfl
theorem snd_str {i : Str} : SndE c O W (tC (.str i)) (eC (.str i)) := snd_c fun _ => rfl
theorem snd_non : SndE c O W (tC .non) (eC .non) := snd_c fun _ => rfl
/-! ### operations of two values -/
def eOp (f : D → D → Option D) (a b : SE) : SE := fun ρ g => bE (a ρ g) fun x g => bE (b ρ g) fun y g => match f x y with
  | some z => some (.ok z, g)
  | none => none
/-- an operation on values does what f says -/
def RV (c : Cb) (r : R2) (f : D → D → Option D) : Prop := ∀ F H x y z vx vy, Ex F H → f x y = some z → Rep c F x vx → Rep c F y vy → ∀ Q : VK, (∀ v F' H', Gp F H F' H' → Rep c F' z v → Q v H') → r vx vy H Q
theorem snd_op {r : R2} {f : D → D → Option D} (ha : SndE c O W ta a) (hb : SndE c O W tb b) (hr : RV c r f) : SndE c O W (tOp r ta tb) (eOp f a b) := fun F0 H0 F H σ ρ g ro g' S q Q p => by
  refine ha.bind S q p fun x g1 vx F1 H1 q1 G1 S1 rx => ?_
  refine hb.bind S1 q1 (p.gr G1) fun y g2 vy F2 H2 q2 G2 S2 ry => ?_
  cases z : f x y with
  | none =>
    simp only [z] at q2
    cases q2
  | some d =>
    simp only [z] at q2
    cases q2
    exact hr F2 H2 x y d vx vy S2.ex z (rx.mono G2.ex) ry Q fun v F' H' P rz => p v F' H' ((G1.trans G2).trans P.gr) (S2.pure P) rz
def eUn (f : D → Option D) (a : SE) : SE := fun ρ g => bE (a ρ g) fun x g => match f x with
  | some z => some (.ok z, g)
  | none => none
def RU (c : Cb) (r : V → Hp → VK → Prop) (f : D → Option D) : Prop := ∀ F H x z vx, Ex F H → f x = some z → Rep c F x vx → ∀ Q : VK, (∀ v F' H', Gp F H F' H' → Rep c F' z v → Q v H') → r vx H Q
theorem snd_un {r : V → Hp → VK → Prop} {f : D → Option D} (ha : SndE c O W ta a) (hr : RU c r f) : SndE c O W (tUn r ta) (eUn f a) := fun F0 H0 F H σ ρ g ro g' S q Q p => by
  refine ha.bind S q p fun x g1 vx F1 H1 q1 G1 S1 rx => ?_
  cases z : f x with
  | none =>
    simp only [z] at q1
    cases q1
  | some d =>
    simp only [z] at q1
    cases q1
    exact hr F1 H1 x d vx S1.ex z rx Q fun v F' H' P rz => p v F' H' (G1.trans P.gr) (S1.pure P) rz
/-! the operations -/
def fI (C : Int → Int → Bool) (h : Int → Int → Int) : D → D → Option D
  | .int i, .int j => if C i j = true then some (.int (h i j)) else none
  | _, _ => none
def fI0 (h : Int → Int → Int) : D → D → Option D
  | .int i, .int j => some (.int (h i j))
  | _, _ => none
def fB0 (h : Int → Int → Bool) : D → D → Option D
  | .int i, .int j => some (.bl (h i j))
  | _, _ => none
theorem rv_I {C : Int → Int → Prop} {C' : Int → Int → Bool} {h : Int → Int → Int} (k : ∀ i j, C' i j = true → C i j) : RV c (rI C fun i j => .int (h i j)) (fI C' h) := fun F H x y z vx vy ex q rx ry Q p => by
  unfold fI at q
  split at q
  · rename_i i j
    split at q
    · rename_i hc
      cases q
      cases rx
      cases ry
      exact ⟨i, j, rfl, rfl, k i j hc, p _ F H (.refl ex) rfl⟩
    · cases q
  · cases q
theorem rv_I0 {h : Int → Int → Int} : RV c (rI0 fun i j => .int (h i j)) (fI0 h) := fun F H x y z vx vy ex q rx ry Q p => by
  unfold fI0 at q
  split at q
  · rename_i i j
    cases q
    cases rx
    cases ry
    exact ⟨i, j, rfl, rfl, p _ F H (.refl ex) rfl⟩
  · cases q
theorem rv_B0 {h : Int → Int → Bool} : RV c (rI0 fun i j => .bl (h i j)) (fB0 h) := fun F H x y z vx vy ex q rx ry Q p => by
  unfold fB0 at q
  split at q
  · rename_i i j
    cases q
    cases rx
    cases ry
    exact ⟨i, j, rfl, rfl, p _ F H (.refl ex) rfl⟩
  · cases q
def cMod (_ j : Int) : Bool := decide (0 < j)
def cDiv (_ j : Int) : Bool := decide (0 < j) && decide (j.natAbs.log2 < 9000)
def lt64 (i : Int) : Bool := decide (i.natAbs.log2 < 64)
theorem lt64_ok {i : Int} (h : lt64 i = true) : i.natAbs < 2 ^ 64 := by
  have h := of_decide_eq_true h
  by_cases z : i.natAbs = 0
  · rw [z]; decide
  · exact (Nat.log2_lt z).mp h
theorem lt64_of {i : Int} (h : i.natAbs < 2 ^ 64) : lt64 i = true := by
  refine decide_eq_true ?_
  by_cases z : i.natAbs = 0
  · rw [z]; decide
  · exact (Nat.log2_lt z).mpr h
def cMul (i j : Int) : Bool := lt64 i || lt64 j || decide (i.natAbs.log2 + j.natAbs.log2 < 20000)
def cPow (i j : Int) : Bool := decide (0 ≤ j) && (decide (j ≤ 1000) && lt64 i)
end
def CMulX (i j : Int) : Prop := IntMulOk i j
section
open PyProof.Rows
theorem intBits_le (x : Int) : Builtin.Int.intBits x ≤ x.natAbs.log2 + 1 := by
  unfold Builtin.Int.intBits
  split <;> omega
theorem intBits_64 {x : Int} (h : x.natAbs < 2 ^ 64) : Builtin.Int.intBits x ≤ 64 := by
  have b := intBits_le x
  by_cases z : x.natAbs = 0
  · unfold Builtin.Int.intBits
    split <;> simp_all
  · have : x.natAbs.log2 < 64 := (Nat.log2_lt z).mpr h
    omega
theorem mulOk_swap {i j : Int} (h : IntMulOk i j) : IntMulOk j i := by
  unfold IntMulOk at h ⊢
  intro z
  apply h
  rw [Bool.and_eq_true] at z ⊢
  refine ⟨Bool.and_eq_true_iff.mpr ⟨(Bool.and_eq_true_iff.mp z.1).2, (Bool.and_eq_true_iff.mp z.1).1⟩, ?_⟩
  rw [Int.add_comm]
  exact z.2
theorem cMul_ok {i j : Int} (h : cMul i j = true) : CMulX i j := by
  unfold cMul at h
  rw [Bool.or_eq_true, Bool.or_eq_true] at h
  rcases h with (h | h) | h
  · exact (show IntMulOk i j from IntMulOk.of_left (intBits_64 (lt64_ok h)))
  · exact (show IntMulOk i j from mulOk_swap (IntMulOk.of_left (intBits_64 (lt64_ok h))))
  · exact CMulW.ok (show i.natAbs.log2 + j.natAbs.log2 < 1000000 from Nat.lt_trans (of_decide_eq_true h) (by decide))
theorem op_mulX {X : Cx} : OpR X (binaryOp .Mult) (rI CMulX fun i j => .int (i * j)) := opI fun _ _ _ _ _ _ _ hc q => mul_int q (show IntMulOk _ _ from hc)
end

section
variable {c : Ct} {X : Cx} {O : List Nat} {W : WX} {te ta tb tc : TE} {e a b : SE}
theorem snd_add (ha : SndE c O W ta a) (hb : SndE c O W tb b) : SndE c O W (tOp (rI0 fun i j => .int (i + j)) ta tb) (eOp (fI0 fun i j => i + j) a b) := snd_op ha hb rv_I0
theorem snd_sub (ha : SndE c O W ta a) (hb : SndE c O W tb b) : SndE c O W (tOp (rI0 fun i j => .int (i - j)) ta tb) (eOp (fI0 fun i j => i - j) a b) := snd_op ha hb rv_I0
theorem snd_mul (ha : SndE c O W ta a) (hb : SndE c O W tb b) : SndE c O W (tOp (rI CMulX fun i j => .int (i * j)) ta tb) (eOp (fI cMul fun i j => i * j) a b) := snd_op ha hb (rv_I fun _ _ h => cMul_ok h)
theorem snd_mod (ha : SndE c O W ta a) (hb : SndE c O W tb b) : SndE c O W (tOp (rI (fun _ j => 0 < j) fun i j => .int (i % j)) ta tb) (eOp (fI cMod fun i j => i % j) a b) := snd_op ha hb (rv_I fun _ _ h => of_decide_eq_true h)
theorem snd_fdiv (ha : SndE c O W ta a) (hb : SndE c O W tb b) : SndE c O W (tOp (rI CDivW fun i j => .int (i / j)) ta tb) (eOp (fI cDiv fun i j => i / j) a b) := snd_op ha hb (rv_I fun _ _ h => by
  obtain ⟨h1, h2⟩ := Bool.and_eq_true_iff.mp h
  exact ⟨of_decide_eq_true h1, of_decide_eq_true h2⟩)
theorem snd_pow (ha : SndE c O W ta a) (hb : SndE c O W tb b) : SndE c O W (tOp (rI CPow fun i j => .int (i ^ j.toNat)) ta tb) (eOp (fI cPow fun i j => i ^ j.toNat) a b) := snd_op ha hb (rv_I fun _ _ h => by
  obtain ⟨h1, h2⟩ := Bool.and_eq_true_iff.mp h
  obtain ⟨h2, h3⟩ := Bool.and_eq_true_iff.mp h2
  exact ⟨of_decide_eq_true h1, Int.le_trans (of_decide_eq_true h2) (by decide), lt64_ok h3⟩)
theorem snd_lt (ha : SndE c O W ta a) (hb : SndE c O W tb b) : SndE c O W (tOp (rI0 fun i j => .bl (decide (i < j))) ta tb) (eOp (fB0 fun i j => decide (i < j)) a b) := snd_op ha hb rv_B0
theorem snd_le (ha : SndE c O W ta a) (hb : SndE c O W tb b) : SndE c O W (tOp (rI0 fun i j => .bl (decide (i ≤ j))) ta tb) (eOp (fB0 fun i j => decide (i ≤ j)) a b) := snd_op ha hb rv_B0
theorem snd_gt (ha : SndE c O W ta a) (hb : SndE c O W tb b) : SndE c O W (tOp (rI0 fun i j => .bl (decide (j < i))) ta tb) (eOp (fB0 fun i j => decide (j < i)) a b) := snd_op ha hb rv_B0
theorem snd_ge (ha : SndE c O W ta a) (hb : SndE c O W tb b) : SndE c O W (tOp (rI0 fun i j => .bl (decide (j ≤ i))) ta tb) (eOp (fB0 fun i j => decide (j ≤ i)) a b) := snd_op ha hb rv_B0
def fNeg : D → Option D
  | .int i => some (.int (-i))
  | _ => none
theorem snd_neg (ha : SndE c O W ta a) : SndE c O W (tUn (rU fun i => .int (-i)) ta) (eUn fNeg a) := snd_un ha fun F H x z vx ex q rx Q p => by
  unfold fNeg at q
  split at q
  · rename_i i
    cases q
    cases rx
    exact ⟨i, rfl, p _ F H (.refl ex) rfl⟩
  · cases q
end
/-! ### equality -/
mutual
def toP : D → Option PyData
  | .non => some .none
  | .bl b => some (.bool b)
  | .int i => some (.int i)
  | .str x => some (.str x)
  | .tup ds => (toPs ds).map .tuple
  | .lst ds => (toPs ds).map .list
  | .obj _ _ => none
  | .hand => none
  | .ptup _ => none
  | .edic => none
  | .slst _ => none
  | .exv _ _ => none
def toPs : List D → Option (List PyData)
  | [] => some []
  | d :: ds => match toP d, toPs ds with
    | some p, some ps => some (p :: ps)
    | _, _ => none
end
def fEqD (x y : D) : Option Bool := match toP x, toP y with
  | some p, some q => if (SeqAt.shaped p && SeqAt.shaped q) = true then some (PyData.eqv p q) else none
  | _, _ => none
def eqB : D → D → Option Bool
  | .int i, .int j => some (i == j)
  | .bl i, .bl j => some (i == j)
  | .str i, .str j => some (decide (i = j))
  | .non, .non => some true
  | .non, .int _ => some false
  | .int _, .non => some false
  | x, y => fEqD x y
def fEq (x y : D) : Option D := (eqB x y).map .bl
def fNe (x y : D) : Option D := (eqB x y).map fun b => .bl (!b)
section
variable {c : Cb} {F F' H : Hp}
mutual
theorem dp_of (e : Ex F H) : ∀ (d : D) (v : V) (p : PyData), Rep c F d v → toP d = some p → Dp c.K H v p
  | .non, _, _, h, q => by cases q; cases h; exact .non
  | .bl _, _, _, h, q => by cases q; cases h; exact .bl _
  | .int _, _, _, h, q => by cases q; cases h; exact .int _
  | .str _, _, _, h, q => by cases q; cases h; exact .str _
  | .tup ds, _, p, ⟨a, vs, h1, h2, h3⟩, q => by
    unfold toP at q
    cases z : toPs ds with
    | none => rw [z] at q; cases q
    | some ps =>
      rw [z] at q
      cases q
      rw [h1]
      exact .tup (ex_t e h2) (dps_of e ds vs ps h3 z)
  | .lst ds, _, p, ⟨a, vs, h1, h2, h3⟩, q => by
    unfold toP at q
    cases z : toPs ds with
    | none => rw [z] at q; cases q
    | some ps =>
      rw [z] at q
      cases q
      rw [h1]
      exact .lst (SqL.of (e _ _ h2)) (dps_of e ds vs ps h3 z)
  | .obj _ _, _, _, _, q => by cases q
  | .hand, _, _, _, q => by cases q
  | .ptup _, _, _, _, q => by cases q
  | .edic, _, _, _, q => by cases q
  | .slst _, _, _, _, q => by cases q
  | .exv _ _, _, _, _, q => by cases q
theorem dps_of (e : Ex F H) : ∀ (ds : List D) (vs : List V) (ps : List PyData), Reps c F ds vs → toPs ds = some ps → DpAll c.K H vs ps
  | [], _, _, h, q => by cases q; cases h; exact .nil
  | d :: ds, _, _, ⟨v, r, h1, h2, h3⟩, q => by
    unfold toPs at q
    cases z : toP d with
    | none => rw [z] at q; cases q
    | some p =>
      cases z2 : toPs ds with
      | none => rw [z, z2] at q; cases q
      | some ps =>
        rw [z, z2] at q
        cases q
        rw [h1]
        exact .cons (dp_of e d v p h2 z) (dps_of e ds r ps h3 z2)
end
end
def rEqX (K : PySem.W.Frag) : R2 := fun x y H Q => rEq x y H Q ∨ rEqD K x y H Q
def rNeX (K : PySem.W.Frag) : R2 := fun x y H Q => rNe x y H Q ∨ rNeD K x y H Q
theorem op_eqX {X : Cx} (hu : X.A.units + 64 < cLine) : OpR X (compareOp .Eq) (rEqX X.K) := fun pins s σ H x y v u Q I rx ry h => by
  rcases h with h | h
  · exact op_eq pins s σ H x y v u Q I rx ry h
  · exact op_eqD hu pins s σ H x y v u Q I rx ry h
theorem op_neX {X : Cx} (hu : X.A.units + 64 < cLine) : OpR X (compareOp .NotEq) (rNeX X.K) := fun pins s σ H x y v u Q I rx ry h => by
  rcases h with h | h
  · exact op_ne pins s σ H x y v u Q I rx ry h
  · exact op_neD hu pins s σ H x y v u Q I rx ry h
theorem scal_case {c : Cb} {F : Hp} {x y : D} {b : Bool} {vx vy : V} (q : eqB x y = some b) (rx : Rep c F x vx) (ry : Rep c F y vy) : (scal vx vy = true ∧ b = decide (vx = vy)) ∨ fEqD x y = some b := by
  unfold eqB at q
  split at q
  · cases rx; cases ry; cases q
    exact .inl ⟨rfl, dec_int.symm⟩
  · cases rx; cases ry; cases q
    refine .inl ⟨rfl, ?_⟩
    rename_i i j
    cases i <;> cases j <;> rfl
  · cases rx; cases ry; cases q
    refine .inl ⟨rfl, ?_⟩
    simp
  · cases rx; cases ry; cases q; exact .inl ⟨rfl, rfl⟩
  · cases rx; cases ry; cases q; exact .inl ⟨rfl, rfl⟩
  · cases rx; cases ry; cases q; exact .inl ⟨rfl, rfl⟩
  · exact .inr q
theorem fEqD_ok {x y : D} {b : Bool} (q : fEqD x y = some b) : ∃ p r, toP x = some p ∧ toP y = some r ∧ SeqAt.shaped p = true ∧ SeqAt.shaped r = true ∧ b = PyData.eqv p r := by
  unfold fEqD at q
  cases z : toP x with
  | none => rw [z] at q; cases q
  | some p =>
    cases z2 : toP y with
    | none => rw [z, z2] at q; cases q
    | some r =>
      rw [z, z2] at q
      simp only at q
      split at q
      · rename_i h
        obtain ⟨h1, h2⟩ := Bool.and_eq_true_iff.mp h
        cases q
        exact ⟨p, r, rfl, rfl, h1, h2, rfl⟩
      · cases q
theorem rv_eq {c : Cb} : RV c (rEqX c.K) fEq := fun F H x y z vx vy ex q rx ry Q p => by
  unfold fEq at q
  cases k : eqB x y with
  | none => rw [k] at q; cases q
  | some b =>
    rw [k] at q
    cases q
    rcases scal_case k rx ry with ⟨h1, h2⟩ | h
    · exact .inl ⟨h1, p _ F H (.refl ex) (by rw [h2]; rfl)⟩
    · obtain ⟨d, e, h1, h2, h3, h4, h5⟩ := fEqD_ok h
      exact .inr ⟨d, e, dp_of ex x vx d rx h1, dp_of ex y vy e ry h2, h3, h4, p _ F H (.refl ex) (by rw [h5]; rfl)⟩
theorem rv_ne {c : Cb} : RV c (rNeX c.K) fNe := fun F H x y z vx vy ex q rx ry Q p => by
  unfold fNe at q
  cases k : eqB x y with
  | none => rw [k] at q; cases q
  | some b =>
    rw [k] at q
    cases q
    rcases scal_case k rx ry with ⟨h1, h2⟩ | h
    · exact .inl ⟨h1, p _ F H (.refl ex) (by rw [h2]; rfl)⟩
    · obtain ⟨d, e, h1, h2, h3, h4, h5⟩ := fEqD_ok h
      exact .inr ⟨d, e, dp_of ex x vx d rx h1, dp_of ex y vy e ry h2, h3, h4, p _ F H (.refl ex) (by rw [h5]; rfl)⟩
section
variable {c : Ct} {O : List Nat} {W : WX} {ta tb : TE} {a b : SE}
theorem snd_eq (ha : SndE c O W ta a) (hb : SndE c O W tb b) : SndE c O W (tOp (rEqX c.K) ta tb) (eOp fEq a b) := snd_op ha hb rv_eq
theorem snd_ne (ha : SndE c O W ta a) (hb : SndE c O W tb b) : SndE c O W (tOp (rNeX c.K) ta tb) (eOp fNe a b) := snd_op ha hb rv_ne
/-- is None -/
def fIsN (x y : D) : Option D := match x, y with
  | .non, .non => some (.bl true)
  | .hand, _ => none
  | _, .non => some (.bl false)
  | _, _ => none
def fNotN (x y : D) : Option D := match x, y with
  | .non, .non => some (.bl false)
  | .hand, _ => none
  | _, .non => some (.bl true)
  | _, _ => none
theorem rep_non {c : Cb} {F : Hp} {x : D} {v : V} (h : Rep c F x v) (k : x ≠ .non) : v ≠ .non := by
  intro e
  subst e
  cases x with
  | non => exact k rfl
  | bl b => cases h
  | int i => cases h
  | str i => cases h
  | tup ds => obtain ⟨a, vs, z, _⟩ := h; cases z
  | lst ds => obtain ⟨a, vs, z, _⟩ := h; cases z
  | obj n fs => obtain ⟨a, dx, vs, z, _⟩ := h; cases z
  | hand => obtain ⟨a, _, z⟩ := h; cases z
  | ptup ds => obtain ⟨a, ob, vs, z, _⟩ := h; cases z
  | edic => obtain ⟨a, z, _⟩ := h; cases z
  | slst ds => obtain ⟨a, vs, z, _⟩ := h; cases z
  | exv n fs => obtain ⟨a, dd, vs, z, _⟩ := h; cases z
theorem rv_isN : RV c rIsN fIsN := fun F H x y z vx vy ex q rx ry Q p => by
  unfold fIsN at q
  split at q
  · cases q; cases rx; cases ry
    exact ⟨rfl, p _ F H (.refl ex) rfl⟩
  · cases q
  · rename_i h1 h2
    cases q; cases ry
    refine ⟨rfl, p _ F H (.refl ex) ?_⟩
    rw [decide_eq_false (rep_non rx (fun e => h1 e))]
    rfl
  · cases q
theorem rv_notN : RV c rNotN fNotN := fun F H x y z vx vy ex q rx ry Q p => by
  unfold fNotN at q
  split at q
  · cases q; cases rx; cases ry
    exact ⟨rfl, p _ F H (.refl ex) rfl⟩
  · cases q
  · rename_i h1 h2
    cases q; cases ry
    refine ⟨rfl, p _ F H (.refl ex) ?_⟩
    rw [decide_eq_false (rep_non rx (fun e => h1 e))]
    rfl
  · cases q
theorem snd_isN (ha : SndE c O W ta a) : SndE c O W (tOp rIsN ta (tC .non)) (eOp fIsN a (eC .non)) := snd_op ha snd_non rv_isN
theorem snd_notN (ha : SndE c O W ta a) : SndE c O W (tOp rNotN ta (tC .non)) (eOp fNotN a (eC .non)) := snd_op ha snd_non rv_notN
end
end MP

set_option maxRecDepth 100000
set_option maxHeartbeats 1000000
namespace MP
open PySem L2
open Evl (Ex ex_rd ex_l ex_t)
/-! ### tests: a meaning is an SE whose value is a bool -/
def SndT (c : Ct) (O : List Nat) (W : WX) (tt : TT) (e : SE) : Prop := ∀ F0 H0 F H σ ρ g r g', SR c F0 H0 F H σ ρ O g → e ρ g = some (r, g') → ∀ Q : Bool → Hp → Prop,
  (match r with
  | .ok (.bl b) => ∀ F' H', Gr c F H F' H' → SR c F0 H0 F' H' σ ρ O g' → Q b H'
  | .ok _ => True
  | .exc n fs => PostX c F0 H0 σ ρ O W F H n fs g') → (match r with
  | .ok (.bl _) => True
  | .ok _ => False
  | .exc _ _ => True) → tt σ H Q
/-- the bool of a meaning, none if it gives anything else -/
def onlyB (e : SE) : SE := fun ρ g => match e ρ g with
  | some (.ok (.bl b), g') => some (.ok (.bl b), g')
  | some (.exc n f, g') => some (.exc n f, g')
  | _ => none
def PostT (c : Ct) (F0 H0 : Hp) (σ : St) (ρ : Env) (O : List Nat) (W : WX) (F H : Hp) (r : Out) (g' : G) (Q : Bool → Hp → Prop) : Prop := match r with
  | .ok (.bl b) => ∀ F' H', Gr c F H F' H' → SR c F0 H0 F' H' σ ρ O g' → Q b H'
  | .ok _ => True
  | .exc n fs => PostX c F0 H0 σ ρ O W F H n fs g'
/-- tt tests as e says; e gives bools alone -/
def SndB (c : Ct) (O : List Nat) (W : WX) (tt : TT) (e : SE) : Prop := ∀ F0 H0 F H σ ρ g r g', SR c F0 H0 F H σ ρ O g → e ρ g = some (r, g') → ∀ Q : Bool → Hp → Prop, PostT c F0 H0 σ ρ O W F H r g' Q → tt σ H Q
section
variable {c : Ct} {F0 H0 F H F' H' : Hp} {σ : St} {ρ : Env} {O : List Nat} {W : WX} {g g' : G} {te ta tb tc : TE} {tt tu : TT} {e a b : SE}
theorem PostT.gr {r Q} (G : Gr c F H F' H') (p : PostT c F0 H0 σ ρ O W F H r g Q) : PostT c F0 H0 σ ρ O W F' H' r g Q := by
  cases r with
  | ok d =>
    cases d with
    | bl b => exact fun F2 H2 G2 S => p F2 H2 (G.trans G2) S
    | _ => trivial
  | exc n fs => exact PostX.gr G p
theorem onlyB_some {ρ g r g'} (q : onlyB e ρ g = some (r, g')) : e ρ g = some (r, g') ∧ ((∃ b, r = .ok (.bl b)) ∨ ∃ n f, r = .exc n f) := by
  unfold onlyB at q
  split at q
  · rename_i b g2 h
    cases q
    exact ⟨h, .inl ⟨b, rfl⟩⟩
  · rename_i n f g2 h
    cases q
    exact ⟨h, .inr ⟨n, f, rfl⟩⟩
  · cases q
/-- a value that is a bool, as a test -/
theorem snd_test (h : SndE c O W te e) : SndB c O W (tTest te) (onlyB e) := fun F0 H0 F H σ ρ g r g' S q Q p => by
  obtain ⟨q, k⟩ := onlyB_some q
  rcases k with ⟨b, rfl⟩ | ⟨n, f, rfl⟩
  · exact h _ _ _ _ _ _ _ _ _ S q _ fun v F' H' G S' rv => ⟨b, rv, p F' H' G S'⟩
  · exact h _ _ _ _ _ _ _ _ _ S q _ p
theorem snd_tB (h : SndE c O W te e) : SndB c O W (tB te) (onlyB e) := fun F0 H0 F H σ ρ g r g' S q Q p => by
  obtain ⟨q, k⟩ := onlyB_some q
  rcases k with ⟨b, rfl⟩ | ⟨n, f, rfl⟩
  · exact h _ _ _ _ _ _ _ _ _ S q _ fun v F' H' G S' rv => ⟨b, rv, p F' H' G S'⟩
  · exact h _ _ _ _ _ _ _ _ _ S q _ p
/-- truth of a value -/
def truth : D → Option Bool
  | .non => some false
  | .bl b => some b
  | .int i => some (i != 0)
  | .tup ds => some (!ds.isEmpty)
  | .lst ds => some (!ds.isEmpty)
  | _ => none
def eTru (e : SE) : SE := fun ρ g => bE (e ρ g) fun d g => match truth d with
  | some b => some (.ok (.bl b), g)
  | none => none
theorem bE_some {x : R} {k : D → G → R} {r : Out} {g' : G} (q : bE x k = some (r, g')) : (∃ d g1, x = some (.ok d, g1) ∧ k d g1 = some (r, g')) ∨ ∃ n f, x = some (.exc n f, g') ∧ r = .exc n f := by
  unfold bE at q
  split at q
  · exact .inl ⟨_, _, rfl, q⟩
  · cases q
    exact .inr ⟨_, _, rfl, rfl⟩
  · cases q
theorem reps_empty {ds : List D} {vs : List V} {F : Hp} (h : Reps c F ds vs) : vs.isEmpty = ds.isEmpty := by
  have l := h.len
  cases ds <;> cases vs <;> simp_all
theorem truV_of {d : D} {v : V} {b : Bool} (e : Ex F H) (q : truth d = some b) (h : Rep c F d v) : TruV c.K v H b := by
  cases d with
  | non => cases q; cases h; exact rfl
  | bl i => cases q; cases h; exact rfl
  | int i => cases q; cases h; exact rfl
  | tup ds =>
    cases q
    obtain ⟨a, vs, rfl, h2, h3⟩ := h
    exact .inr (.inl ⟨vs, ex_t e h2, by rw [reps_empty h3]⟩)
  | lst ds =>
    cases q
    obtain ⟨a, vs, rfl, h2, h3⟩ := h
    exact .inl ⟨vs, SqL.of (e _ _ h2), by rw [reps_empty h3]⟩
  | str _ => cases q
  | obj _ _ => cases q
  | hand => cases q
  | ptup _ => cases q
  | edic => cases q
  | slst _ => cases q
  | exv _ _ => cases q
theorem snd_tru (h : SndE c O W te e) : SndB c O W (tTru c.K te) (eTru e) := fun F0 H0 F H σ ρ g r g' S q Q p => by
  unfold eTru at q
  rcases bE_some q with ⟨d, g1, q1, q2⟩ | ⟨n, f, q1, rfl⟩
  · cases z : truth d with
    | none => simp only [z] at q2; cases q2
    | some b =>
      simp only [z] at q2
      cases q2
      exact h _ _ _ _ _ _ _ _ _ S q1 _ fun v F' H' G S' rv => ⟨b, truV_of S'.ex z rv, p F' H' G S'⟩
  · exact h _ _ _ _ _ _ _ _ _ S q1 _ p
def eNot (e : SE) : SE := fun ρ g => match e ρ g with
  | some (.ok (.bl b), g') => some (.ok (.bl (!b)), g')
  | some (.exc n f, g') => some (.exc n f, g')
  | _ => none
def eAnd (a b : SE) : SE := fun ρ g => match a ρ g with
  | some (.ok (.bl true), g') => b ρ g'
  | some (.ok (.bl false), g') => some (.ok (.bl false), g')
  | some (.exc n f, g') => some (.exc n f, g')
  | _ => none
def eOr (a b : SE) : SE := fun ρ g => match a ρ g with
  | some (.ok (.bl false), g') => b ρ g'
  | some (.ok (.bl true), g') => some (.ok (.bl true), g')
  | some (.exc n f, g') => some (.exc n f, g')
  | _ => none
theorem snd_not (h : SndB c O W tt e) : SndB c O W (tNot tt) (eNot e) := fun F0 H0 F H σ ρ g r g' S q Q p => by
  unfold eNot at q
  split at q
  · rename_i b g2 z
    cases q
    exact h _ _ _ _ _ _ _ _ _ S z _ fun F' H' G S' => p F' H' G S'
  · rename_i n f g2 z
    cases q
    exact h _ _ _ _ _ _ _ _ _ S z _ p
  · cases q
theorem snd_and (h : SndB c O W tt a) (k : SndB c O W tu b) : SndB c O W (tAnd tt tu) (eAnd a b) := fun F0 H0 F H σ ρ g r g' S q Q p => by
  unfold eAnd at q
  split at q
  · rename_i g2 z
    refine h _ _ _ _ _ _ _ _ _ S z _ fun F' H' G S' => ?_
    show (if true = true then tu σ H' Q else Q false H')
    rw [if_pos rfl]
    exact k _ _ _ _ _ _ _ _ _ S' q _ (p.gr G)
  · rename_i g2 z
    cases q
    refine h _ _ _ _ _ _ _ _ _ S z _ fun F' H' G S' => ?_
    show (if false = true then tu σ H' Q else Q false H')
    rw [if_neg Bool.false_ne_true]
    exact p F' H' G S'
  · rename_i n f g2 z
    cases q
    exact h _ _ _ _ _ _ _ _ _ S z _ p
  · cases q
theorem snd_or (h : SndB c O W tt a) (k : SndB c O W tu b) : SndB c O W (tOr tt tu) (eOr a b) := fun F0 H0 F H σ ρ g r g' S q Q p => by
  unfold eOr at q
  split at q
  · rename_i g2 z
    refine h _ _ _ _ _ _ _ _ _ S z _ fun F' H' G S' => ?_
    show (if false = true then Q true H' else tu σ H' Q)
    rw [if_neg Bool.false_ne_true]
    exact k _ _ _ _ _ _ _ _ _ S' q _ (p.gr G)
  · rename_i g2 z
    cases q
    refine h _ _ _ _ _ _ _ _ _ S z _ fun F' H' G S' => ?_
    show (if true = true then Q true H' else tu σ H' Q)
    rw [if_pos rfl]
    exact p F' H' G S'
  · rename_i n f g2 z
    cases q
    exact h _ _ _ _ _ _ _ _ _ S z _ p
  · cases q
/-- not, and, or as values -/
theorem snd_notV (h : SndE c O W te e) : SndE c O W (tNotV te) (eNot e) := fun F0 H0 F H σ ρ g r g' S q Q p => by
  unfold eNot at q
  split at q
  · rename_i b g2 z
    cases q
    exact h _ _ _ _ _ _ _ _ _ S z _ fun v F' H' G S' rv => ⟨b, rv, p _ F' H' G S' rfl⟩
  · rename_i n f g2 z
    cases q
    exact h _ _ _ _ _ _ _ _ _ S z _ p
  · cases q
theorem snd_andV (h : SndE c O W ta a) (k : SndE c O W tb b) : SndE c O W (tAndV ta tb) (eAnd a b) := fun F0 H0 F H σ ρ g r g' S q Q p => by
  unfold eAnd at q
  split at q
  · rename_i g2 z
    refine h _ _ _ _ _ _ _ _ _ S z _ fun v F' H' G S' rv => ⟨true, rv, ?_⟩
    rw [if_pos rfl]
    exact k _ _ _ _ _ _ _ _ _ S' q _ (p.gr G)
  · rename_i g2 z
    cases q
    refine h _ _ _ _ _ _ _ _ _ S z _ fun v F' H' G S' rv => ⟨false, rv, ?_⟩
    rw [if_neg Bool.false_ne_true]
    exact p _ F' H' G S' rfl
  · rename_i n f g2 z
    cases q
    exact h _ _ _ _ _ _ _ _ _ S z _ p
  · cases q
theorem snd_orV (h : SndE c O W ta a) (k : SndE c O W tb b) : SndE c O W (tOrV ta tb) (eOr a b) := fun F0 H0 F H σ ρ g r g' S q Q p => by
  unfold eOr at q
  split at q
  · rename_i g2 z
    refine h _ _ _ _ _ _ _ _ _ S z _ fun v F' H' G S' rv => ⟨false, rv, ?_⟩
    rw [if_neg Bool.false_ne_true]
    exact k _ _ _ _ _ _ _ _ _ S' q _ (p.gr G)
  · rename_i g2 z
    cases q
    refine h _ _ _ _ _ _ _ _ _ S z _ fun v F' H' G S' rv => ⟨true, rv, ?_⟩
    rw [if_pos rfl]
    exact p _ F' H' G S' rfl
  · rename_i n f g2 z
    cases q
    exact h _ _ _ _ _ _ _ _ _ S z _ p
  · cases q
/-- a if t else b -/
def eIf (t a b : SE) : SE := fun ρ g => match t ρ g with
  | some (.ok (.bl true), g') => a ρ g'
  | some (.ok (.bl false), g') => b ρ g'
  | some (.exc n f, g') => some (.exc n f, g')
  | _ => none
theorem snd_if {t : SE} (h : SndB c O W tt t) (ka : SndE c O W ta a) (kb : SndE c O W tb b) : SndE c O W (tIf tt ta tb) (eIf t a b) := fun F0 H0 F H σ ρ g r g' S q Q p => by
  unfold eIf at q
  split at q
  · rename_i g2 z
    refine h _ _ _ _ _ _ _ _ _ S z _ fun F' H' G S' => ?_
    rw [if_pos rfl]
    exact ka _ _ _ _ _ _ _ _ _ S' q _ (p.gr G)
  · rename_i g2 z
    refine h _ _ _ _ _ _ _ _ _ S z _ fun F' H' G S' => ?_
    rw [if_neg Bool.false_ne_true]
    exact kb _ _ _ _ _ _ _ _ _ S' q _ (p.gr G)
  · rename_i n f g2 z
    cases q
    exact h _ _ _ _ _ _ _ _ _ S z _ p
  · cases q
/-! ### arguments -/
inductive OutA where
  | ok (ds : List D) | exc (n : Str) (fs : List (Str × D))
abbrev SA := Env → G → Option (OutA × G)
def PostA (c : Ct) (F0 H0 : Hp) (σ : St) (ρ : Env) (O : List Nat) (W : WX) (F H : Hp) (r : OutA) (g' : G) (Q : List V → Hp → Prop) : Prop := match r with
  | .ok ds => ∀ vs F' H', Gr c F H F' H' → SR c F0 H0 F' H' σ ρ O g' → Reps c F' ds vs → Q vs H'
  | .exc n fs => PostX c F0 H0 σ ρ O W F H n fs g'
def SndA (c : Ct) (O : List Nat) (W : WX) (ta : TA) (e : SA) : Prop := ∀ F0 H0 F H σ ρ g r g', SR c F0 H0 F H σ ρ O g → e ρ g = some (r, g') → ∀ Q, PostA c F0 H0 σ ρ O W F H r g' Q → ta σ H Q
def aNil : SA := fun _ g => some (.ok [], g)
def aCons (a : SE) (r : SA) : SA := fun ρ g => match a ρ g with
  | some (.ok d, g) => (match r ρ g with
    | some (.ok ds, g) => some (.ok (d :: ds), g)
    | some (.exc n f, g) => some (.exc n f, g)
    | none => none)
  | some (.exc n f, g) => some (.exc n f, g)
  | none => none
theorem snd_anil : SndA c O W tNil aNil := fun F0 H0 F H σ ρ g r g' S q Q p => by
  cases q
  exact p [] F H (Gr.refl ..) S rfl
theorem snd_acons {tr : TA} {r : SA} (h : SndE c O W ta a) (k : SndA c O W tr r) : SndA c O W (tCons ta tr) (aCons a r) := fun F0 H0 F H σ ρ g o g' S q Q p => by
  unfold aCons at q
  cases z : a ρ g with
  | none => rw [z] at q; cases q
  | some y =>
    obtain ⟨oa, g1⟩ := y
    rw [z] at q
    cases oa with
    | exc n f =>
      cases q
      exact h _ _ _ _ _ _ _ _ _ S z _ p
    | ok d =>
      refine h _ _ _ _ _ _ _ _ _ S z _ fun v F1 H1 G1 S1 rv => ?_
      cases z2 : r ρ g1 with
      | none => simp only [z2] at q; cases q
      | some y2 =>
        obtain ⟨or, g2⟩ := y2
        simp only [z2] at q
        cases or with
        | exc n f =>
          cases q
          exact k _ _ _ _ _ _ _ _ _ S1 z2 _ (PostX.gr G1 p)
        | ok ds =>
          cases q
          exact k _ _ _ _ _ _ _ _ _ S1 z2 _ fun vs F2 H2 G2 S2 rs => p _ F2 H2 (G1.trans G2) S2 ⟨v, vs, rfl, rv.mono G2.ex, rs⟩
/-- a meaning of the arguments' values -/
def eArgs (f : List D → G → R) (r : SA) : SE := fun ρ g => match r ρ g with
  | some (.ok ds, g) => f ds g
  | some (.exc n fs, g) => some (.exc n fs, g)
  | none => none
theorem SndA.bind {tr : TA} {r : SA} (h : SndA c O W tr r) {f : List D → G → R} {o : Out} (S : SR c F0 H0 F H σ ρ O g) (q : eArgs f r ρ g = some (o, g')) {Q : VK} {Q' : List V → Hp → Prop} (p : PostE c F0 H0 σ ρ O W F H o g' Q)
    (n : ∀ ds g1 vs F1 H1, f ds g1 = some (o, g') → Gr c F H F1 H1 → SR c F0 H0 F1 H1 σ ρ O g1 → Reps c F1 ds vs → Q' vs H1) : tr σ H Q' := by
  unfold eArgs at q
  cases z : r ρ g with
  | none => rw [z] at q; cases q
  | some y =>
    obtain ⟨oa, g1⟩ := y
    rw [z] at q
    cases oa with
    | exc m f =>
      cases q
      exact h _ _ _ _ _ _ _ _ _ S z _ p
    | ok ds => exact h _ _ _ _ _ _ _ _ _ S z _ fun vs F1 H1 G1 S1 rs => n ds g1 vs F1 H1 q G1 S1 rs
/-- a pure operation on the arguments' values -/
def pf (f : List D → Option D) : List D → G → R := fun ds g => match f ds with
  | some d => some (.ok d, g)
  | none => none
def RC (c : Cb) (r : List V → Hp → VK → Prop) (f : List D → Option D) : Prop := ∀ F H ds z vs, Ex F H → f ds = some z → Reps c F ds vs → ∀ Q : VK, (∀ v F' H', Gp F H F' H' → Rep c F' z v → Q v H') → r vs H Q
theorem snd_cb {r : List V → Hp → VK → Prop} {f : List D → Option D} {tr : TA} {ar : SA} (h : SndA c O W tr ar) (hr : RC c r f) : SndE c O W (tCB r tr) (eArgs (pf f) ar) := fun F0 H0 F H σ ρ g o g' S q Q p => by
  refine h.bind S q p fun ds g1 vs F1 H1 q1 G1 S1 rs => ?_
  unfold pf at q1
  cases z : f ds with
  | none => rw [z] at q1; cases q1
  | some d =>
    rw [z] at q1
    cases q1
    exact hr F1 H1 ds d vs S1.ex z rs Q fun v F' H' P rv => p v F' H' (G1.trans P.gr) (S1.pure P) rv
/-! displays -/
def szB (n : Nat) : Bool := decide (n.log2 < 20)
theorem szB_lt {n : Nat} (h : szB n = true) : n < 2 ^ 20 := by
  have h := of_decide_eq_true h
  by_cases z : n = 0
  · rw [z]; decide
  · exact (Nat.log2_lt z).mp h
theorem szB_of {n : Nat} (h : n < 2 ^ 20) : szB n = true := by
  refine decide_eq_true ?_
  by_cases z : n = 0
  · rw [z]; decide
  · exact (Nat.log2_lt z).mpr h
theorem szB_ok {n : Nat} (h : szB n = true) : n ≤ sizeLine := Nat.le_trans (Nat.le_of_lt (szB_lt h)) (by decide)
def fTup (ds : List D) : Option D := if szB ds.length = true then some (.tup ds) else none
def fLst (ds : List D) : Option D := if szB ds.length = true then some (.lst ds) else none
theorem snd_tup {tr : TA} {ar : SA} (h : SndA c O W tr ar) : SndE c O W (tTup tr) (eArgs (pf fTup) ar) := fun F0 H0 F H σ ρ g o g' S q Q p => by
  refine h.bind S q p fun ds g1 vs F1 H1 q1 G1 S1 rs => ?_
  unfold pf fTup at q1
  by_cases z : szB ds.length = true
  · rw [if_pos z] at q1
    cases q1
    refine ⟨by rw [rs.len]; exact szB_ok z, fun a ha => ?_⟩
    have P := gp_new (o := .tup vs) S1.ex ha
    exact p _ _ _ (G1.trans P.gr) (S1.pure P) ⟨a, vs, rfl, SqT.of upd_same, rs.mono P.ex⟩
  · rw [if_neg z] at q1
    cases q1
/-- a new list that is nobody else's -/
def PostL (c : Ct) (F0 H0 : Hp) (σ : St) (ρ : Env) (O : List Nat) (W : WX) (F H : Hp) (r : Out) (g' : G) (Q : VK) : Prop := match r with
  | .ok (.lst ds) => ∀ p vs F' H', Gr c F H F' H' → SR c F0 H0 F' H' σ ρ O g' → H p = none → F' p = none → c.hd ≠ some p → H' p = some (.lst vs) → Reps c F' ds vs → Q (.ref p) H'
  | .ok _ => True
  | .exc n fs => PostX c F0 H0 σ ρ O W F H n fs g'
def SndL (c : Ct) (O : List Nat) (W : WX) (te : TE) (e : SE) : Prop := ∀ F0 H0 F H σ ρ g r g', SR c F0 H0 F H σ ρ O g → e ρ g = some (r, g') → ∀ Q, PostL c F0 H0 σ ρ O W F H r g' Q → te σ H Q
theorem hd_ne {p : Addr} (S : SR c F0 H0 F H σ ρ O g) (h : H p = none) : c.hd ≠ some p := fun e => by
  have z := S.hand
  unfold HandAt at z
  rw [e] at z
  obtain ⟨_, vs, z, _⟩ := z
  rw [h] at z
  cases z
/-- an open list frozen -/
theorem gr_freeze {p : Addr} {o : HO} (G : Gr c F H F' H') (h : H p = none) (hf : F' p = none) : Gr c F H (upd F' p o) H' where
  ex := G.ex.trans (Ex.new hf)
  keep := G.keep
  new := fun a z k => by
    by_cases q : a = p
    · subst q
      exact h
    · rw [upd_ne q] at k
      exact G.new a z k
  dom := G.dom
theorem hand_freeze {p : Addr} {o : HO} (h : HandAt c F' H' g) (hf : F' p = none) (hp : c.hd ≠ some p) : HandAt c (upd F' p o) H' g := by
  unfold HandAt at h ⊢
  cases q : c.hd with
  | none => trivial
  | some a =>
    rw [q] at h
    obtain ⟨h1, vs, h2, h3⟩ := h
    have ne : a ≠ p := fun e => hp (by rw [q, e])
    exact ⟨by rw [upd_ne ne]; exact h1, vs, h2, h3.mono (Ex.new hf)⟩
/-- a new list as a value -/
theorem snd_l (h : SndL c O W te e) : SndE c O W te e := fun F0 H0 F H σ ρ g r g' S q Q p => by
  refine h _ _ _ _ _ _ _ _ _ S q _ ?_
  cases r with
  | exc n fs => exact p
  | ok d =>
    cases d with
    | lst ds =>
      intro a vs F1 H1 G1 S1 h0 hf hd hp rs
      have G2 := gr_freeze (o := .lst vs) G1 h0 hf
      exact p _ _ _ G2 (S.next G2 (S1.ex.frz hp) (hand_freeze S1.hand hf hd)) ⟨a, vs, rfl, upd_same, rs.mono (Ex.new hf)⟩
    | _ => trivial
theorem snd_lst {tr : TA} {ar : SA} (h : SndA c O W tr ar) : SndL c O W (tLst tr) (eArgs (pf fLst) ar) := fun F0 H0 F H σ ρ g o g' S q Q p => by
  unfold eArgs at q
  cases z : ar ρ g with
  | none => rw [z] at q; cases q
  | some y =>
    obtain ⟨oa, g1⟩ := y
    rw [z] at q
    cases oa with
    | exc m f =>
      cases q
      exact h _ _ _ _ _ _ _ _ _ S z _ p
    | ok ds =>
      refine h _ _ _ _ _ _ _ _ _ S z _ fun vs F1 H1 G1 S1 rs => ?_
      simp only [pf, fLst] at q
      by_cases k : szB ds.length = true
      · rw [if_pos k] at q
        cases q
        refine ⟨by rw [rs.len]; exact szB_ok k, fun a ha => ?_⟩
        have P := gp_open (o := .lst vs) S1.ex ha
        exact p a vs _ _ (G1.trans P.gr) (S1.pure P) (G1.dom a ha) (ex_none S1.ex ha) (hd_ne S1 ha) upd_same (rs.mono P.ex)
      · rw [if_neg k] at q
        cases q
/-! ### borrowed values: what may be read just now -/
def BRep (c : Cb) (F H : Hp) (d : D) (v : V) : Prop := Rep c F d v ∨ ∃ p o, v = .ref p ∧ c.hd ≠ some p ∧ H p = some o ∧ OwnO c F d o
theorem BRep.gr {d v} (G : Gr c F H F' H') (h : BRep c F H d v) : BRep c F' H' d v := by
  rcases h with h | ⟨p, o, h2, h3, h4, h5⟩
  · exact .inl (h.mono G.ex)
  · exact .inr ⟨p, o, h2, h3, G.keep _ _ h4 h3, h5.mono G.ex⟩
theorem BRep.lst {ds : List D} {v} (ex : Ex F H) (h : BRep c F H (.lst ds) v) : ∃ p vs, v = .ref p ∧ H p = some (.lst vs) ∧ Reps c F ds vs := by
  rcases h with ⟨a, vs, h1, h2, h3⟩ | ⟨p, o, h2, h3, h4, h5⟩
  · exact ⟨a, vs, h1, ex _ _ h2, h3⟩
  · obtain ⟨vs, rfl, h6⟩ := h5.lst
    exact ⟨p, vs, h2, h4, h6⟩
theorem BRep.obj {n : Str} {fs : List (Str × D)} {v} (ex : Ex F H) (h : BRep c F H (.obj n fs) v) : ∃ p dx vs, v = .ref p ∧ H p = some (.ins (c.ca n) dx vs) ∧ RepF c F fs vs := by
  rcases h with ⟨a, dx, vs, h1, h2, h3⟩ | ⟨p, o, h2, h3, h4, h5⟩
  · exact ⟨a, dx, vs, h1, ex _ _ h2, h3⟩
  · obtain ⟨dx, vs, rfl, h6⟩ := h5.obj
    exact ⟨p, dx, vs, h2, h4, h6⟩
/-- neither a list nor an object: nothing is owned -/
def solid : D → Bool
  | .lst _ => false
  | .obj _ _ => false
  | _ => true
theorem BRep.rep {d v} (h : BRep c F H d v) (k : solid d = true) : Rep c F d v := by
  rcases h with h | ⟨p, o, h2, h3, h4, h5⟩
  · exact h
  · cases d <;> first | exact h5.elim | cases k
theorem BRep.tup {ds : List D} {v} (ex : Ex F H) (h : BRep c F H (.tup ds) v) : ∃ p vs, v = .ref p ∧ SqT c.K H p vs ∧ Reps c F ds vs := by
  obtain ⟨a, vs, h1, h2, h3⟩ := h.rep rfl
  exact ⟨a, vs, h1, ex_t ex h2, h3⟩
def PostR (c : Ct) (F0 H0 : Hp) (σ : St) (ρ : Env) (O : List Nat) (W : WX) (F H : Hp) (r : Out) (g' : G) (Q : VK) : Prop := match r with
  | .ok d => ∀ v F' H', Gr c F H F' H' → SR c F0 H0 F' H' σ ρ O g' → BRep c F' H' d v → Q v H'
  | .exc n fs => PostX c F0 H0 σ ρ O W F H n fs g'
def SndR (c : Ct) (O : List Nat) (W : WX) (te : TE) (e : SE) : Prop := ∀ F0 H0 F H σ ρ g r g', SR c F0 H0 F H σ ρ O g → e ρ g = some (r, g') → ∀ Q, PostR c F0 H0 σ ρ O W F H r g' Q → te σ H Q
theorem snd_r (h : SndE c O W te e) : SndR c O W te e := fun F0 H0 F H σ ρ g r g' S q Q p => by
  refine h _ _ _ _ _ _ _ _ _ S q _ ?_
  cases r with
  | ok d => exact fun v F' H' G S' rv => p v F' H' G S' (.inl rv)
  | exc n fs => exact p
/-- a name that may own its list -/
theorem snd_rvar {i : Nat} : SndR c O W (tVar i) (eVar i) := fun F0 H0 F H σ ρ g r g' S q Q p => by
  unfold eVar at q
  split at q
  · rename_i d h
    cases q
    by_cases k : i ∈ O
    · obtain ⟨v, h1, a, o, h3, h4, h5, h6, h7, h8⟩ := S.own i d h k
      exact ⟨v, h1, p v F H (Gr.refl ..) S (.inr ⟨a, o, h3, h6, h7, h8⟩)⟩
    · obtain ⟨v, h1, h2⟩ := S.val i d h k
      exact ⟨v, h1, p v F H (Gr.refl ..) S (.inl h2)⟩
  · cases q
theorem SndR.bind (h : SndR c O W te e) {k : D → G → R} {r : Out} (S : SR c F0 H0 F H σ ρ O g) (q : bE (e ρ g) k = some (r, g')) {Q' : VK} (p : ∀ n fs, r = .exc n fs → PostX c F0 H0 σ ρ O W F H n fs g')
    (n : ∀ d g1 v F1 H1, k d g1 = some (r, g') → Gr c F H F1 H1 → SR c F0 H0 F1 H1 σ ρ O g1 → BRep c F1 H1 d v → Q' v H1) : te σ H Q' := by
  rcases bE_some q with ⟨d, g1, q1, q2⟩ | ⟨m, f, q1, rfl⟩
  · exact h _ _ _ _ _ _ _ _ _ S q1 _ fun v F1 H1 G1 S1 x => n d g1 v F1 H1 q2 G1 S1 x
  · exact h _ _ _ _ _ _ _ _ _ S q1 _ (p m f rfl)
theorem PostE.x {r : Out} {Q} (p : PostE c F0 H0 σ ρ O W F H r g' Q) : ∀ n fs, r = .exc n fs → PostX c F0 H0 σ ρ O W F H n fs g' := fun n fs e => by
  subst e
  exact p
/-! an item -/
def fIx : D → D → Option D
  | .lst ds, .int i => atI ds i
  | .tup ds, .int i => atI ds i
  | .ptup ds, .int i => atI ds i
  | _, _ => none
theorem atI_reps {ds : List D} {vs : List V} {i : Int} {d : D} (h : Reps c F ds vs) (q : atI ds i = some d) : ∃ v, atI vs i = some v ∧ Rep c F d v := by
  unfold atI at q ⊢
  rw [h.len]
  cases z : ixN ds.length i with
  | none => rw [z] at q; cases q
  | some j =>
    rw [z] at q
    exact h.get q
theorem snd_ix (ha : SndR c O W ta a) (hb : SndE c O W tb b) : SndE c O W (tOp (rIx c.K) ta tb) (eOp fIx a b) := fun F0 H0 F H σ ρ g ro g' S q Q p => by
  refine ha.bind S q p.x fun x g1 vx F1 H1 q1 G1 S1 rx => ?_
  refine hb.bind S1 q1 (p.gr G1) fun y g2 vy F2 H2 q2 G2 S2 ry => ?_
  have rx2 := rx.gr G2
  cases z : fIx x y with
  | none => simp only [z] at q2; cases q2
  | some d =>
    simp only [z] at q2
    cases q2
    have G3 := G1.trans G2
    unfold fIx at z
    split at z
    · rename_i ds i
      cases ry
      obtain ⟨a, vs, h1, h2, h3⟩ := rx2.lst S2.ex
      obtain ⟨v, e1, e2⟩ := atI_reps h3 z
      exact .inl ⟨a, vs, i, v, h1, rfl, SqL.of h2, e1, p v F2 H2 G3 S2 e2⟩
    · rename_i ds i
      cases ry
      obtain ⟨a, vs, h1, h2, h3⟩ := rx2.tup S2.ex
      obtain ⟨v, e1, e2⟩ := atI_reps h3 z
      exact .inr (.inl ⟨a, vs, i, v, h1, rfl, h2, e1, p v F2 H2 G3 S2 e2⟩)
    · rename_i ds i
      cases ry
      obtain ⟨a, ob, vs, h1, h2, _, _, h3⟩ := rx2.rep rfl
      obtain ⟨v, e1, e2⟩ := atI_reps h3 z
      exact .inr (.inl ⟨a, vs, i, v, h1, rfl, .inl (.inr ⟨ob, S2.ex _ _ h2⟩), e1, p v F2 H2 G3 S2 e2⟩)
    · cases z
/-! a built-in of one borrowed argument -/
def RB (c : Cb) (r : List V → Hp → VK → Prop) (f : D → Option D) : Prop := ∀ F H d z v, Ex F H → f d = some z → BRep c F H d v → ∀ Q : VK, (∀ v F' H', Gp F H F' H' → Rep c F' z v → Q v H') → r [v] H Q
theorem snd_b1 {r : List V → Hp → VK → Prop} {f : D → Option D} (h : SndR c O W ta a) (hr : RB c r f) : SndE c O W (tCB r (tCons ta tNil)) (eUn f a) := fun F0 H0 F H σ ρ g o g' S q Q p => by
  refine h.bind S q p.x fun x g1 vx F1 H1 q1 G1 S1 rx => ?_
  cases z : f x with
  | none => simp only [z] at q1; cases q1
  | some d =>
    simp only [z] at q1
    cases q1
    exact hr F1 H1 x d vx S1.ex z rx Q fun v F' H' P rv => p v F' H' (G1.trans P.gr) (S1.pure P) rv
def rLenX (K : PySem.W.Frag) : List V → Hp → VK → Prop := fun xs H Q => ∃ p ys, xs = [.ref p] ∧ (SqL K H p ys ∨ SqT K H p ys) ∧ Q (.int ys.length) H
def fLen : D → Option D
  | .lst ds => some (.int ds.length)
  | .tup ds => some (.int ds.length)
  | .slst ds => some (.int ds.length)
  | _ => none
theorem rb_len : RB c (rLenX c.K) fLen := fun F H d z v ex q rx Q p => by
  unfold fLen at q
  split at q
  · cases q
    obtain ⟨a, vs, h1, h2, h3⟩ := rx.lst ex
    exact ⟨a, vs, by rw [h1], .inl (SqL.of h2), p _ F H (.refl ex) (by rw [h3.len]; rfl)⟩
  · cases q
    obtain ⟨a, vs, h1, h2, h3⟩ := rx.tup ex
    exact ⟨a, vs, by rw [h1], .inr h2, p _ F H (.refl ex) (by rw [h3.len]; rfl)⟩
  · cases q
    obtain ⟨a, vs, h1, h2, h3⟩ := rx.rep rfl
    exact ⟨a, vs, by rw [h1], .inl (ex_l ex h2), p _ F H (.refl ex) (by rw [h3.len]; rfl)⟩
  · cases q
def rTupX (K : PySem.W.Frag) : List V → Hp → VK → Prop := fun xs H Q => ∃ p ys, xs = [.ref p] ∧ ((SqL K H p ys ∧ ∀ l, H l = none → Q (.ref l) (upd H l (.tup ys))) ∨ (SqT K H p ys ∧ Q (.ref p) H))
def fTuple : D → Option D
  | .lst ds => some (.tup ds)
  | .tup ds => some (.tup ds)
  | _ => none
theorem rb_tuple : RB c (rTupX c.K) fTuple := fun F H d z v ex q rx Q p => by
  unfold fTuple at q
  split at q
  · cases q
    obtain ⟨a, vs, h1, h2, h3⟩ := rx.lst ex
    refine ⟨a, vs, by rw [h1], .inl ⟨SqL.of h2, fun l hl => ?_⟩⟩
    have P := gp_new (o := .tup vs) ex hl
    exact p _ _ _ P ⟨l, vs, rfl, SqT.of upd_same, h3.mono P.ex⟩
  · cases q
    obtain ⟨a, vs, h1, h2, h3⟩ := rx.rep rfl
    exact ⟨a, vs, by rw [h1], .inr ⟨ex_t ex h2, p _ F H (.refl ex) ⟨a, vs, rfl, h2, h3⟩⟩⟩
  · cases q
/-- list(x): a new list -/
def rListX (K : PySem.W.Frag) : List V → Hp → VK → Prop := fun xs H Q => ∃ p ys, xs = [.ref p] ∧ (SqL K H p ys ∨ SqT K H p ys) ∧ ∀ l, H l = none → Q (.ref l) (upd H l (.lst ys))
def fList : D → Option D
  | .lst ds => some (.lst ds)
  | .tup ds => some (.lst ds)
  | _ => none
theorem snd_list (h : SndR c O W ta a) : SndL c O W (tCB (rListX c.K) (tCons ta tNil)) (eUn fList a) := fun F0 H0 F H σ ρ g o g' S q Q p => by
  refine h.bind S q (fun n fs e => by subst e; exact p) fun x g1 vx F1 H1 q1 G1 S1 rx => ?_
  have done : ∀ ds vs a, fList x = some (.lst ds) → vx = .ref a → (SqL c.K H1 a vs ∨ SqT c.K H1 a vs) → Reps c F1 ds vs → tNil σ H1 fun xs H2 => rListX c.K (vx :: xs) H2 Q := fun ds vs a z h1 h2 h3 => by
    simp only [z] at q1
    cases q1
    refine ⟨a, vs, by rw [h1], h2, fun l hl => ?_⟩
    have P := gp_open (o := .lst vs) S1.ex hl
    exact p l vs _ _ (G1.trans P.gr) (S1.pure P) (G1.dom l hl) (ex_none S1.ex hl) (hd_ne S1 hl) upd_same (h3.mono P.ex)
  cases x with
  | lst ds =>
    obtain ⟨a, vs, h1, h2, h3⟩ := rx.lst S1.ex
    exact done ds vs a rfl h1 (.inl (SqL.of h2)) h3
  | tup ds =>
    obtain ⟨a, vs, h1, h2, h3⟩ := rx.tup S1.ex
    exact done ds vs a rfl h1 (.inr h2) h3
  | _ => cases q1
/-! int(x), abs(x) -/
def rIntX : List V → Hp → VK → Prop := fun xs H Q => (∃ i, xs = [.int i] ∧ Q (.int i) H) ∨ ∃ k, xs = [.bl k] ∧ Q (.int (if k then 1 else 0)) H
def fInt : D → Option D
  | .int i => some (.int i)
  | .bl b => some (.int (if b then 1 else 0))
  | _ => none
theorem brep_int {i : Int} {v} (h : BRep c F H (.int i) v) : v = .int i := h.rep rfl
theorem brep_bl {i : Bool} {v} (h : BRep c F H (.bl i) v) : v = .bl i := h.rep rfl
theorem rb_int : RB c rIntX fInt := fun F H d z v ex q rx Q p => by
  unfold fInt at q
  split at q
  · cases q
    exact .inl ⟨_, by rw [brep_int rx], p _ F H (.refl ex) rfl⟩
  · cases q
    exact .inr ⟨_, by rw [brep_bl rx], p _ F H (.refl ex) rfl⟩
  · cases q
def rAbsX : List V → Hp → VK → Prop := fun xs H Q => ∃ i, xs = [.int i] ∧ Q (.int (if i < 0 then -i else i)) H
def fAbs : D → Option D
  | .int i => some (.int (if i < 0 then -i else i))
  | _ => none
theorem rb_abs : RB c rAbsX fAbs := fun F H d z v ex q rx Q p => by
  unfold fAbs at q
  split at q
  · cases q
    exact ⟨_, by rw [brep_int rx], p _ F H (.refl ex) rfl⟩
  · cases q
def onlyI : List D → Option (List Int)
  | [] => some []
  | .int i :: r => (onlyI r).map (i :: ·)
  | _ => none
theorem onlyI_ok : ∀ {ds : List D} {vs : List V} {ns : List Int}, onlyI ds = some ns → Reps c F ds vs → vs = ns.map V.int
  | [], _, _, q, h => by cases q; cases h; rfl
  | .int i :: r, _, ns, q, ⟨v, r', h1, h2, h3⟩ => by
    unfold onlyI at q
    cases z : onlyI r with
    | none => rw [z] at q; cases q
    | some ms =>
      rw [z] at q
      cases q
      cases h2
      rw [h1, List.map_cons, ← onlyI_ok z h3]
  | .non :: _, _, _, q, _ => by cases q
  | .bl _ :: _, _, _, q, _ => by cases q
  | .str _ :: _, _, _, q, _ => by cases q
  | .tup _ :: _, _, _, q, _ => by cases q
  | .lst _ :: _, _, _, q, _ => by cases q
  | .obj _ _ :: _, _, _, q, _ => by cases q
  | .hand :: _, _, _, q, _ => by cases q
def rSumX (K : PySem.W.Frag) : List V → Hp → VK → Prop := fun vs H Q => ∃ (a : Addr) (ns : List Int), vs = [V.ref a] ∧ SqL K H a (ns.map V.int) ∧ Q (.int ns.sum) H
def fSum : D → Option D
  | .lst ds => (onlyI ds).map fun ns => .int ns.sum
  | _ => none
theorem rb_sum : RB c (rSumX c.K) fSum := fun F H d z v ex q rx Q p => by
  unfold fSum at q
  split at q
  · rename_i ds
    cases z : onlyI ds with
    | none => rw [z] at q; cases q
    | some ns =>
      rw [z] at q
      cases q
      obtain ⟨a, vs, h1, h2, h3⟩ := rx.lst ex
      exact ⟨a, ns, by rw [h1], by rw [← onlyI_ok z h3]; exact SqL.of h2, p _ F H (.refl ex) rfl⟩
  · cases q
/-! isinstance(x, T), T a built-in class -/
def tyOf : D → Option String
  | .non => some "NoneType"
  | .bl _ => some "bool"
  | .int _ => some "int"
  | .str _ => some "str"
  | .tup _ => some "tuple"
  | .lst _ => some "list"
  | .edic => some "dict"
  | _ => none
def fIsi (T : String) (d : D) : Option D := match tyOf d with
  | some t => (kitB t T).map .bl
  | none => none
theorem tyX_of {d : D} {v : V} {t : String} (ex : Ex F H) (q : tyOf d = some t) (h : BRep c F H d v) : TyX c.K H v (.type t) := by
  cases d with
  | non => cases q; cases h.rep rfl; exact .base .non
  | bl i => cases q; cases h.rep rfl; exact .base (.bl _)
  | int i => cases q; cases h.rep rfl; exact .base (.int _)
  | str i => cases q; cases h.rep rfl; exact .base (.str _)
  | tup ds =>
    cases q
    obtain ⟨a, vs, h1, h2, h3⟩ := h.tup ex
    rw [h1]
    rcases h2 with (h2 | ⟨o, h2⟩) | ⟨o, its, n, k1, k2, _⟩
    · exact .base (.tup h2)
    · exact .fTuple h2
    · exact .kTuple k1 k2
  | lst ds =>
    cases q
    obtain ⟨a, vs, h1, h2, h3⟩ := h.lst ex
    rw [h1]
    exact .base (.lst h2)
  | obj _ _ => cases q
  | hand => cases q
  | ptup _ => cases q
  | edic =>
    cases q
    obtain ⟨a, h1, h2⟩ := h.rep rfl
    rw [h1]
    exact .base (.dK (ex _ _ h2))
  | slst _ => cases q
  | exv _ _ => cases q
theorem snd_isi {T : String} (h : SndR c O W ta a) : SndE c O W (tCB (rIsi c.K) (tCons ta (tCons (tC (.ty T)) tNil))) (eUn (fIsi T) a) := fun F0 H0 F H σ ρ g o g' S q Q p => by
  refine h.bind S q p.x fun x g1 vx F1 H1 q1 G1 S1 rx => ?_
  unfold fIsi at q1
  cases z : tyOf x with
  | none => simp only [z] at q1; cases q1
  | some t =>
    cases z2 : kitB t T with
    | none => simp only [z, z2] at q1; cases q1
    | some b =>
      simp only [z, z2] at q1
      cases q1
      exact ⟨vx, .ty T, .type t, .type T, b, rfl, .ty T, tyX_of S1.ex z rx, kit_ty z2, p _ F1 H1 G1 S1 rfl⟩
/-- isinstance(x, (T, U)), the tuple made on the way -/
def fIsi2 (T U : String) (d : D) : Option D := match tyOf d with
  | some t => (match kitB t T, kitB t U with
    | some x, some y => some (.bl (x || y))
    | _, _ => none)
  | none => none
end
end MP

set_option maxRecDepth 100000
set_option maxHeartbeats 1000000
namespace MP
open PySem L2
open Evl (Ex ex_rd ex_l ex_t)
/-! ### a def's promise, by its meaning m -/
abbrev FM := List D → G → R
def specOf (c : Cb) (m : FM) : Sp := fun vs H Q E => ∃ F ds g r g', Ex F H ∧ HandAt c F H g ∧ Reps c F ds vs ∧ m ds g = some (r, g') ∧ (match r with
  | .ok d => ∀ v F' H', Gr c F H F' H' → Ex F' H' → HandAt c F' H' g' → Rep c F' d v → Q v H'
  | .exc n fs => ∀ cls dd F' H', Gr c F H F' H' → Ex F' H' → HandAt c F' H' g' → ExcAt c F' H' n fs cls dd → E cls dd H')
/-! ### statements -/
inductive SOut where
  | nx (ρ : Env) | ret (d : D) | brk (ρ : Env) | cnt (ρ : Env) | exc (n : Str) (fs : List (Str × D)) (ρ : Env)
abbrev SS := Env → G → Option (SOut × G)
/-- what is wanted: O behind, OL at a break or continue -/
def SPost (c : Ct) (F0 H0 F : Hp) (O OL : List Nat) (W : WX) (D : Ends) (r : SOut) (g' : G) : Prop := match r with
  | .nx ρ => ∀ σ F' H', Ex F F' → SR c F0 H0 F' H' σ ρ O g' → D.nx σ H'
  | .brk ρ => ∀ σ F' H', Ex F F' → SR c F0 H0 F' H' σ ρ OL g' → D.bk σ H'
  | .cnt ρ => ∀ σ F' H', Ex F F' → SR c F0 H0 F' H' σ ρ OL g' → D.ct σ H'
  | .ret d => ∀ v F H, Gr c F0 H0 F H → Ex F H → HandAt c F H g' → Rep c F d v → D.rt v H
  | .exc n fs ρ => ∀ cls dd σ F' H, Ex F F' → SR c F0 H0 F' H σ ρ [] g' → ExcAt c F' H n fs cls dd → W cls dd σ H
def SndS (c : Ct) (O O' OL : List Nat) (W : WX) (ts : TS) (s : SS) : Prop := ∀ F0 H0 F H σ ρ g r g', SR c F0 H0 F H σ ρ O g → s ρ g = some (r, g') → ∀ D : Ends, SPost c F0 H0 F O' OL W D r g' → ts D σ H
section
variable {c : Ct} {F0 H0 F H F' H' : Hp} {σ : St} {ρ : Env} {O O1 O' OL : List Nat} {W : WX} {g g' : G} {te ta tb tc : TE} {tt tu : TT} {e a b : SE} {ts ts1 ts2 : TS} {s s1 s2 : SS} {En : Ends}
/-! owned lists frozen -/
/-- one owned slot frozen -/
theorem SR.freeze1 (S : SR c F0 H0 F H σ ρ O g) (i : Nat) : ∃ F', Ex F F' ∧ SR c F0 H0 F' H σ ρ (O.filter (· != i)) g := by
  by_cases hi : i ∈ O
  · cases z : ρ[i]? with
    | none =>
      refine ⟨F, .refl F, S.ex, S.gr, S.len, fun j d h k => ?_, fun j d h k => S.own j d h (List.mem_filter.mp k).1, fun j k d e hj hk ne h1 h2 => S.dis j k d e (List.mem_filter.mp hj).1 (List.mem_filter.mp hk).1 ne h1 h2, S.hand, S.bs, S.pn⟩
      by_cases q : j = i
      · subst q; rw [z] at h; cases h
      · exact S.val j d h (fun m => k (List.mem_filter.mpr ⟨m, by simpa using q⟩))
    | some od =>
      cases od with
      | none =>
        refine ⟨F, .refl F, S.ex, S.gr, S.len, fun j d h k => ?_, fun j d h k => S.own j d h (List.mem_filter.mp k).1, fun j k d e hj hk ne h1 h2 => S.dis j k d e (List.mem_filter.mp hj).1 (List.mem_filter.mp hk).1 ne h1 h2, S.hand, S.bs, S.pn⟩
        by_cases q : j = i
        · subst q; rw [z] at h; cases h
        · exact S.val j d h (fun m => k (List.mem_filter.mpr ⟨m, by simpa using q⟩))
      | some d0 =>
        obtain ⟨v, h1, p, o, h3, h4, h5, h6, h7, h8⟩ := S.own i d0 z hi
        have eF : Ex F (upd F p o) := Ex.new h5
        refine ⟨upd F p o, eF, S.ex.frz h7, ⟨S.gr.ex.trans eF, S.gr.keep, fun a z k => ?_, S.gr.dom⟩, S.len, fun j d h k => ?_, fun j d h k => ?_, fun j k d e hj hk ne h1 h2 => S.dis j k d e (List.mem_filter.mp hj).1 (List.mem_filter.mp hk).1 ne h1 h2, hand_freeze S.hand h5 h6, S.bs.trans eF, S.pn⟩
        · by_cases q : a = p
          · subst q; exact h4
          · rw [upd_ne q] at k; exact S.gr.new a z k
        · by_cases q : j = i
          · subst q
            rw [z] at h
            cases h
            exact ⟨v, h1, by rw [h3]; exact (h8.mono eF).rep upd_same⟩
          · obtain ⟨w, k1, k2⟩ := S.val j d h (fun m => k (List.mem_filter.mpr ⟨m, by simpa using q⟩))
            exact ⟨w, k1, k2.mono eF⟩
        · obtain ⟨hj, hne⟩ := List.mem_filter.mp k
          have hne : j ≠ i := by simpa using hne
          obtain ⟨w, k1, p2, o2, k3, k4, k5, k6, k7, k8⟩ := S.own j d h hj
          have pp : p2 ≠ p := fun e => S.dis j i d d0 hj hi hne h z (by rw [k1, h1, k3, h3, e])
          exact ⟨w, k1, p2, o2, k3, k4, by rw [upd_ne pp]; exact k5, k6, k7, k8.mono eF⟩
  · refine ⟨F, .refl F, ?_⟩
    have e : O.filter (· != i) = O := List.filter_eq_self.mpr fun a ha => by
      have : a ≠ i := fun e => hi (e ▸ ha)
      simpa using this
    rw [e]
    exact S
theorem SR.drop (S : SR c F0 H0 F H σ ρ O g) (O2 : List Nat) (h : ∀ i, i ∈ O2 ↔ i ∈ O) : SR c F0 H0 F H σ ρ O2 g :=
  ⟨S.ex, S.gr, S.len, fun i d k n => S.val i d k (fun m => n ((h i).mpr m)), fun i d k m => S.own i d k ((h i).mp m), fun i j d e hi hj ne k1 k2 => S.dis i j d e ((h i).mp hi) ((h j).mp hj) ne k1 k2, S.hand, S.bs, S.pn⟩
/-- all but those of O2 frozen -/
theorem SR.weaken : ∀ (L : List Nat) {F : Hp} {O : List Nat}, SR c F0 H0 F H σ ρ O g → ∃ F', Ex F F' ∧ SR c F0 H0 F' H σ ρ (O.filter fun i => !L.contains i) g
  | [], F, O, S => ⟨F, .refl F, S.drop _ fun i => by simp⟩
  | i :: L, F, O, S => by
    obtain ⟨F1, e1, S1⟩ := S.freeze1 i
    obtain ⟨F2, e2, S2⟩ := SR.weaken L S1
    exact ⟨F2, e1.trans e2, S2.drop _ fun j => by simp [and_comm, and_assoc, and_left_comm]⟩
theorem SR.bare (S : SR c F0 H0 F H σ ρ O g) : ∃ F', Ex F F' ∧ SR c F0 H0 F' H σ ρ [] g := by
  obtain ⟨F1, e1, S1⟩ := SR.weaken O S
  exact ⟨F1, e1, S1.drop _ fun i => by simp⟩
theorem SR.sub (S : SR c F0 H0 F H σ ρ O g) (h : ∀ i, i ∈ O' → i ∈ O) : ∃ F', Ex F F' ∧ SR c F0 H0 F' H σ ρ O' g := by
  obtain ⟨F1, e1, S1⟩ := SR.weaken (O.filter fun i => !O'.contains i) S
  exact ⟨F1, e1, S1.drop _ fun i => by
    simp only [List.mem_filter, List.contains_eq_mem, Bool.not_eq_true', decide_eq_false_iff_not, decide_eq_true_eq]
    constructor
    · intro k; exact ⟨h i k, fun z => z.2 k⟩
    · rintro ⟨k, z⟩
      by_cases q : i ∈ O'
      · exact q
      · exact absurd ⟨k, q⟩ z⟩
theorem SPost.gr {D : Ends} {r : SOut} (e : Ex F F') (p : SPost c F0 H0 F O OL W D r g) : SPost c F0 H0 F' O OL W D r g := by
  cases r with
  | nx ρ => exact fun σ F2 H2 e2 S => p σ F2 H2 (e.trans e2) S
  | brk ρ => exact fun σ F2 H2 e2 S => p σ F2 H2 (e.trans e2) S
  | cnt ρ => exact fun σ F2 H2 e2 S => p σ F2 H2 (e.trans e2) S
  | ret d => exact p
  | exc n fs ρ => exact fun cls dd σ F2 H2 e2 S x => p cls dd σ F2 H2 (e.trans e2) S x
/-- ahead of a statement owned lists may be frozen -/
theorem snd_less (h : SndS c O1 O' OL W ts s) (k : ∀ i, i ∈ O1 → i ∈ O) : SndS c O O' OL W ts s := fun F0 H0 F H σ ρ g r g' S q D p => by
  obtain ⟨F1, e1, S1⟩ := S.sub k
  exact h _ _ _ _ _ _ _ _ _ S1 q D (p.gr e1)
/-- behind it too -/
theorem snd_more (h : SndS c O O1 OL W ts s) (k : ∀ i, i ∈ O' → i ∈ O1) : SndS c O O' OL W ts s := fun F0 H0 F H σ ρ g r g' S q D p => by
  refine h _ _ _ _ _ _ _ _ _ S q D ?_
  cases r with
  | nx ρ =>
    intro σ' F1 H1 e1 S1
    obtain ⟨F2, e2, S2⟩ := S1.sub k
    exact p σ' F2 H1 (e1.trans e2) S2
  | _ => exact p
theorem ExcAt.mono {n fs cls dd} (e : Ex F F') (h : ExcAt c F H n fs cls dd) : ExcAt c F' H n fs cls dd := by
  obtain ⟨h1, h2⟩ := h
  refine ⟨h1, ?_⟩
  rcases h2 with h2 | ⟨d, vs, k1, k2, k3⟩
  · exact .inl h2
  · exact .inr ⟨d, vs, k1, k2, k3.mono e⟩
/-- an expression's exception is the statement's -/
theorem postX_of {n fs} (S : SR c F0 H0 F H σ ρ O g) (p : SPost c F0 H0 F O' OL W En (.exc n fs ρ) g') : PostX c F0 H0 σ ρ O W F H n fs g' := fun cls dd F1 H1 G1 S1 x => by
  obtain ⟨F2, e2, S2⟩ := S1.bare
  exact p cls dd σ F2 H1 (G1.ex.trans e2) S2 (x.mono e2)
/-! sequences -/
def bS (x : Option (SOut × G)) (k : Env → G → Option (SOut × G)) : Option (SOut × G) := match x with
  | some (.nx ρ, g) => k ρ g
  | y => y
def sSeq (s1 s2 : SS) : SS := fun ρ g => bS (s1 ρ g) s2
def sPass : SS := fun ρ g => some (.nx ρ, g)
def sBrk : SS := fun ρ g => some (.brk ρ, g)
def sCnt : SS := fun ρ g => some (.cnt ρ, g)
theorem snd_pass : SndS c O O OL W tNext sPass := fun F0 H0 F H σ ρ g r g' S q D p => by
  cases q
  exact p σ F H (.refl F) S
theorem snd_brk (k : ∀ i, i ∈ OL → i ∈ O) : SndS c O O' OL W tBreak sBrk := fun F0 H0 F H σ ρ g r g' S q D p => by
  cases q
  obtain ⟨F1, e1, S1⟩ := S.sub k
  exact p σ F1 H e1 S1
theorem snd_cnt (k : ∀ i, i ∈ OL → i ∈ O) : SndS c O O' OL W tCont sCnt := fun F0 H0 F H σ ρ g r g' S q D p => by
  cases q
  obtain ⟨F1, e1, S1⟩ := S.sub k
  exact p σ F1 H e1 S1
theorem snd_seq (h1 : SndS c O O1 OL W ts1 s1) (h2 : SndS c O1 O' OL W ts2 s2) : SndS c O O' OL W (tSeq ts1 ts2) (sSeq s1 s2) := fun F0 H0 F H σ ρ g r g' S q D p => by
  unfold sSeq bS at q
  cases z : s1 ρ g with
  | none => rw [z] at q; cases q
  | some y =>
    obtain ⟨o, g1⟩ := y
    rw [z] at q
    cases o with
    | nx ρ1 => exact h1 _ _ _ _ _ _ _ _ _ S z _ fun σ1 F1 H1 e1 S1 => h2 _ _ _ _ _ _ _ _ _ S1 q D (p.gr e1)
    | ret d =>
      cases q
      exact h1 _ _ _ _ _ _ _ _ _ S z _ p
    | brk ρ1 =>
      cases q
      exact h1 _ _ _ _ _ _ _ _ _ S z _ p
    | cnt ρ1 =>
      cases q
      exact h1 _ _ _ _ _ _ _ _ _ S z _ p
    | exc n fs ρ1 =>
      cases q
      exact h1 _ _ _ _ _ _ _ _ _ S z _ p
/-- a statement that ends in an expression's value -/
def bV (x : R) (ρ : Env) (k : D → G → Option (SOut × G)) : Option (SOut × G) := match x with
  | some (.ok d, g) => k d g
  | some (.exc n f, g) => some (.exc n f ρ, g)
  | none => none
theorem bV_some {x : R} {k : D → G → Option (SOut × G)} {r : SOut} {g' : G} (q : bV x ρ k = some (r, g')) : (∃ d g1, x = some (.ok d, g1) ∧ k d g1 = some (r, g')) ∨ ∃ n f, x = some (.exc n f, g') ∧ r = .exc n f ρ := by
  unfold bV at q
  split at q
  · exact .inl ⟨_, _, rfl, q⟩
  · cases q
    exact .inr ⟨_, _, rfl, rfl⟩
  · cases q
/-! x = e -/
def sSet (i : Nat) (e : SE) : SS := fun ρ g => bV (e ρ g) ρ fun d g => some (.nx (ρ.set i (some d)), g)
theorem SR.set {i : Nat} {d : L2.V → Prop} (S : SR c F0 H0 F H σ ρ O g) {x : MP.D} {v : V} (h : Rep c F x v) (hp : c.np i = true) : SR c F0 H0 F H (σ.set i (some v)) (ρ.set i (some x)) (O.filter (· != i)) g where
  ex := S.ex
  gr := S.gr
  len := by rw [List.length_set, List.length_set]; exact S.len
  val := fun j y k n => by
    by_cases q : i = j
    · subst q
      have hl : i < ρ.length := by
        by_cases l : i < ρ.length
        · exact l
        · rw [List.getElem?_eq_none (by rw [List.length_set]; omega)] at k
          cases k
      rw [List.getElem?_set_self hl] at k
      cases k
      exact ⟨v, List.getElem?_set_self (by rw [S.len]; exact hl), h⟩
    · rw [List.getElem?_set_ne q] at k ⊢
      exact S.val j y k (fun m => n (List.mem_filter.mpr ⟨m, by simpa using fun e : j = i => q e.symm⟩))
  own := fun j y k m => by
    obtain ⟨m1, m2⟩ := List.mem_filter.mp m
    have q : i ≠ j := fun e => by simp [e] at m2
    rw [List.getElem?_set_ne q] at k ⊢
    exact S.own j y k m1
  dis := fun j k y z hj hk ne h1 h2 => by
    obtain ⟨m1, m2⟩ := List.mem_filter.mp hj
    obtain ⟨m3, m4⟩ := List.mem_filter.mp hk
    have q1 : i ≠ j := fun e => by simp [e] at m2
    have q2 : i ≠ k := fun e => by simp [e] at m4
    rw [List.getElem?_set_ne q1] at h1 ⊢
    rw [List.getElem?_set_ne q2] at h2 ⊢
    exact S.dis j k y z m1 m3 ne h1 h2
  hand := S.hand
  bs := S.bs
  pn := fun j u m l => by
    rw [List.getElem?_set_ne (Ct.np_ne hp m)]
    exact S.pn j u m (by simpa using l)
theorem snd_set {i : Nat} (h : SndE c O W te e) (hp : c.np i = true := by rfl) : SndS c O (O.filter (· != i)) OL W (tAsg te (gName i)) (sSet i e) := fun F0 H0 F H σ ρ g r g' S q D p => by
  unfold sSet at q
  rcases bV_some q with ⟨d, g1, q1, q2⟩ | ⟨n, f, q1, rfl⟩
  · cases q2
    exact h _ _ _ _ _ _ _ _ _ S q1 _ fun v F1 H1 G1 S1 rv => p _ F1 H1 G1.ex (S1.set (d := fun _ => True) rv hp)
  · exact h _ _ _ _ _ _ _ _ _ S q1 _ (postX_of S p)
/-- x = a new list: x owns it -/
theorem SR.setOwn {i : Nat} (S : SR c F0 H0 F H σ ρ O g) {d0 : MP.D} {a : Addr} {o : HO} (hi : i < ρ.length) (h0 : H0 a = none) (hf : F a = none) (hd : c.hd ≠ some a) (hp : H a = some o) (hr : OwnO c F d0 o) (hpn : c.np i = true)
    (hn : ∀ j y, j ∈ O → j ≠ i → ρ[j]? = some (some y) → σ[j]? ≠ some (some (.ref a))) : SR c F0 H0 F H (σ.set i (some (.ref a))) (ρ.set i (some d0)) (i :: O) g where
  ex := S.ex
  gr := S.gr
  len := by rw [List.length_set, List.length_set]; exact S.len
  val := fun j y k n => by
    have q : i ≠ j := fun e => n (by simp [e])
    rw [List.getElem?_set_ne q] at k ⊢
    exact S.val j y k (fun m => n (List.mem_cons_of_mem _ m))
  own := fun j y k m => by
    by_cases q : i = j
    · subst q
      rw [List.getElem?_set_self hi] at k
      cases k
      exact ⟨_, List.getElem?_set_self (by rw [S.len]; exact hi), a, o, rfl, h0, hf, hd, hp, hr⟩
    · rw [List.getElem?_set_ne q] at k ⊢
      rcases List.mem_cons.mp m with m | m
      · exact absurd m.symm q
      · exact S.own j y k m
  dis := fun j k y z hj hk ne h1 h2 => by
    have hσ : i < σ.length := by rw [S.len]; exact hi
    by_cases q1 : i = j
    · subst q1
      have q2 : i ≠ k := ne
      rw [List.getElem?_set_self hσ, List.getElem?_set_ne q2]
      rw [List.getElem?_set_ne q2] at h2
      rcases List.mem_cons.mp hk with m | m
      · exact absurd m.symm q2
      · exact fun e => hn k z m (fun e => q2 e.symm) h2 e.symm
    · rw [List.getElem?_set_ne q1] at h1 ⊢
      rcases List.mem_cons.mp hj with m | mj
      · exact absurd m.symm q1
      by_cases q2 : i = k
      · subst q2
        rw [List.getElem?_set_self hσ]
        exact hn j y mj (fun e => q1 e.symm) h1
      · rw [List.getElem?_set_ne q2] at h2 ⊢
        rcases List.mem_cons.mp hk with m | mk
        · exact absurd m.symm q2
        exact S.dis j k y z mj mk ne h1 h2
  hand := S.hand
  bs := S.bs
  pn := fun j u m l => by
    rw [List.getElem?_set_ne (Ct.np_ne hpn m)]
    exact S.pn j u m (by simpa using l)
theorem snd_setL {i : Nat} (h : SndL c O W te e) (k : ∀ ρ g d g', e ρ g = some (.ok d, g') → ∃ ds, d = .lst ds) (hpn : c.np i = true := by rfl) : SndS c O (i :: O) OL W (tAsg te (gName i)) (sSet i e) := fun F0 H0 F H σ ρ g r g' S q D p => by
  unfold sSet at q
  rcases bV_some q with ⟨d, g1, q1, q2⟩ | ⟨n, f, q1, rfl⟩
  · cases q2
    obtain ⟨ds, rfl⟩ := k _ _ _ _ q1
    refine h _ _ _ _ _ _ _ _ _ S q1 _ fun a vs F1 H1 G1 S1 h0 hf hd hp hr => ?_
    by_cases hi : i < ρ.length
    · exact p _ F1 H1 G1.ex (S1.setOwn (d0 := .lst ds) (o := .lst vs) hi (S.gr.dom a h0) hf hd hp hr hpn fun j y hj ne hy e => by
        obtain ⟨v, k1, b, es, k3, k4, k5, k6, k7, k8⟩ := S.own j y hy hj
        rw [k1] at e
        have ev : v = .ref a := Option.some.inj (Option.some.inj e)
        rw [k3] at ev
        cases ev
        rw [k7] at h0
        cases h0)
    · refine p _ F1 H1 G1.ex ?_
      rw [List.set_eq_of_length_le (by rw [S.len]; omega), List.set_eq_of_length_le (by omega)]
      refine ⟨S1.ex, S1.gr, S1.len, fun j y k1 n => S1.val j y k1 (fun m => n (List.mem_cons_of_mem _ m)), fun j y k1 m => ?_, fun j k2 y z hj hk ne h1 h2 => ?_, S1.hand, S1.bs, S1.pn⟩
      · rcases List.mem_cons.mp m with m | m
        · subst m; rw [List.getElem?_eq_none (by omega)] at k1; cases k1
        · exact S1.own j y k1 m
      · have a1 : j ∈ O := by
          rcases List.mem_cons.mp hj with m | m
          · subst m; rw [List.getElem?_eq_none (by omega)] at h1; cases h1
          · exact m
        have a2 : k2 ∈ O := by
          rcases List.mem_cons.mp hk with m | m
          · subst m; rw [List.getElem?_eq_none (by omega)] at h2; cases h2
          · exact m
        exact S1.dis j k2 y z a1 a2 ne h1 h2
  · exact h _ _ _ _ _ _ _ _ _ S q1 _ (postX_of S p)
/-! return e -/
def sRet (e : SE) : SS := fun ρ g => bV (e ρ g) ρ fun d g => some (.ret d, g)
theorem snd_ret (h : SndE c O W te e) : SndS c O O' OL W (tRet te) (sRet e) := fun F0 H0 F H σ ρ g r g' S q D p => by
  unfold sRet at q
  rcases bV_some q with ⟨d, g1, q1, q2⟩ | ⟨n, f, q1, rfl⟩
  · cases q2
    exact h _ _ _ _ _ _ _ _ _ S q1 _ fun v F1 H1 G1 S1 rv => p v F1 H1 S1.gr S1.ex S1.hand rv
  · exact h _ _ _ _ _ _ _ _ _ S q1 _ (postX_of S p)
def sRetN : SS := fun _ g => some (.ret .non, g)
theorem snd_retN : SndS c O O' OL W tRetN sRetN := fun F0 H0 F H σ ρ g r g' S q D p => by
  cases q
  exact p .non F H S.gr S.ex S.hand rfl
/-! an expression alone -/
def sDrop (e : SE) : SS := fun ρ g => bV (e ρ g) ρ fun _ g => some (.nx ρ, g)
theorem snd_drop (h : SndE c O W te e) : SndS c O O OL W (tDrop te) (sDrop e) := fun F0 H0 F H σ ρ g r g' S q D p => by
  unfold sDrop at q
  rcases bV_some q with ⟨d, g1, q1, q2⟩ | ⟨n, f, q1, rfl⟩
  · cases q2
    exact h _ _ _ _ _ _ _ _ _ S q1 _ fun v F1 H1 G1 S1 rv => p σ F1 H1 G1.ex S1
  · exact h _ _ _ _ _ _ _ _ _ S q1 _ (postX_of S p)
/-! if -/
def sIf (t : SE) (s1 s2 : SS) : SS := fun ρ g => match t ρ g with
  | some (.ok (.bl true), g) => s1 ρ g
  | some (.ok (.bl false), g) => s2 ρ g
  | some (.exc n f, g) => some (.exc n f ρ, g)
  | _ => none
theorem snd_ifS {t : SE} (h : SndB c O W tt t) (h1 : SndS c O O' OL W ts1 s1) (h2 : SndS c O O' OL W ts2 s2) : SndS c O O' OL W (tIfS tt ts1 ts2) (sIf t s1 s2) := fun F0 H0 F H σ ρ g r g' S q D p => by
  unfold sIf at q
  split at q
  · rename_i g2 z
    refine h _ _ _ _ _ _ _ _ _ S z _ fun F' H' G S' => ?_
    rw [if_pos rfl]
    exact h1 _ _ _ _ _ _ _ _ _ S' q D (p.gr G.ex)
  · rename_i g2 z
    refine h _ _ _ _ _ _ _ _ _ S z _ fun F' H' G S' => ?_
    rw [if_neg Bool.false_ne_true]
    exact h2 _ _ _ _ _ _ _ _ _ S' q D (p.gr G.ex)
  · rename_i n f g2 z
    cases q
    exact h _ _ _ _ _ _ _ _ _ S z _ (postX_of S p)
  · cases q
end
end MP

set_option maxRecDepth 100000
set_option maxHeartbeats 1000000
namespace MP
open PySem L2
open Evl (Ex ex_rd ex_l ex_t)
/-! ### what is walked -/
structure ItOk (c : Cb) (F1 : Hp) (J : It) (ds : List D) : Prop where
  goes : ∀ i F' H', i < ds.length → Ex F1 F' → Ex F' H' → J.go i H'
  stops : ∀ F' H', Ex F1 F' → Ex F' H' → J.stop ds.length H'
  yields : ∀ i d F' H' x H'', ds[i]? = some d → Ex F1 F' → Ex F' H' → J.yld i H' x H'' → ∃ F'', Gp F' H' F'' H'' ∧ Rep c F'' d x
def PostI (c : Ct) (F0 H0 : Hp) (σ : St) (ρ : Env) (O : List Nat) (W : WX) (F H : Hp) (r : OutA) (g' : G) (R : It → Hp → Prop) : Prop := match r with
  | .ok ds => ∀ J F' H', Gr c F H F' H' → SR c F0 H0 F' H' σ ρ O g' → ItOk c F' J ds → R J H'
  | .exc n fs => PostX c F0 H0 σ ρ O W F H n fs g'
def SndI (c : Ct) (O : List Nat) (W : WX) (wi : TI) (e : SA) : Prop := ∀ F0 H0 F H σ ρ g r g', SR c F0 H0 F H σ ρ O g → e ρ g = some (r, g') → ∀ R, PostI c F0 H0 σ ρ O W F H r g' R → wi σ H R
section
variable {c : Ct} {F0 H0 F H F' H' F1 : Hp} {σ : St} {ρ : Env} {O O1 O' OL : List Nat} {W : WX} {g g' : G} {te ta tb tc : TE} {tt tu : TT} {e a b : SE} {ts ts1 ts2 : TS} {s s1 s2 : SS}
theorem itok_list {a : Addr} {vs : List V} {ds : List MP.D} (h : SqL c.K F1 a vs) (r : Reps c F1 ds vs) : ItOk c F1 (Itl c.K a) ds where
  goes := fun i F' H' hi e1 e2 => ⟨vs, vs[i]'(by rw [r.len]; exact hi), ex_l (e1.trans e2) h, by simp [r.len, hi]⟩
  stops := fun F' H' e1 e2 => ⟨vs, ex_l (e1.trans e2) h, by rw [r.len]; exact Nat.le_refl _⟩
  yields := fun i d F' H' x H'' hd e1 e2 y => by
    obtain ⟨rfl, y⟩ := y
    obtain ⟨v, k1, k2⟩ := r.get hd
    have := y vs (ex_l (e1.trans e2) h)
    rw [k1] at this
    cases this
    exact ⟨F', .refl e2, k2.mono e1⟩
theorem itok_tup {a : Addr} {vs : List V} {ds : List MP.D} (h : SqT c.K F1 a vs) (r : Reps c F1 ds vs) : ItOk c F1 (Itt c.K a) ds where
  goes := fun i F' H' hi e1 e2 => ⟨vs, vs[i]'(by rw [r.len]; exact hi), ex_t (e1.trans e2) h, by simp [r.len, hi]⟩
  stops := fun F' H' e1 e2 => ⟨vs, ex_t (e1.trans e2) h, by rw [r.len]; exact Nat.le_refl _⟩
  yields := fun i d F' H' x H'' hd e1 e2 y => by
    obtain ⟨rfl, y⟩ := y
    obtain ⟨v, k1, k2⟩ := r.get hd
    have := y vs (ex_t (e1.trans e2) h)
    rw [k1] at this
    cases this
    exact ⟨F', .refl e2, k2.mono e1⟩
/-- the numbers lo, lo + 1, .. -/
def rng (lo : Int) (n : Nat) : List MP.D := (List.range n).map fun i => .int (lo + (i : Nat))
theorem rng_get {lo : Int} {n i : Nat} {d : MP.D} (h : (rng lo n)[i]? = some d) : d = .int (lo + (i : Nat)) := by
  unfold rng at h
  rw [List.getElem?_map] at h
  by_cases q : i < n
  · rw [List.getElem?_range q] at h
    cases h
    rfl
  · rw [List.getElem?_eq_none (by simpa using q)] at h
    cases h
theorem itok_range {lo : Int} {n : Nat} : ItOk c F1 (Itr lo n) (rng lo n) where
  goes := fun i F' H' hi _ _ => by show i < n; simpa [rng] using hi
  stops := fun F' H' _ _ => by show n ≤ (rng lo n).length; simp [rng]
  yields := fun i d F' H' x H'' hd e1 e2 y => by
    obtain ⟨rfl, rfl⟩ := y
    rw [rng_get hd]
    exact ⟨F', .refl e2, rfl⟩
end
/-! a list or a tuple walked -/
def iSeq (K : PySem.W.Frag) (tl : TE) : TI := fun σ H R => tl σ H fun x H1 => ∃ a, x = .ref a ∧ (((∃ xs, SqL K H1 a xs) ∧ R (Itl K a) H1) ∨ ((∃ xs, SqT K H1 a xs) ∧ R (Itt K a) H1))
theorem pi_seq {X : Cx} {tg l : Expr} {tl : TE} (hl : PE X l tl) : PI X tg l (iSeq X.K tl) := ⟨fun ps st0 τ Ha R Ia h0 =>
  thn (hl.run ps st0 τ Ha _ Ia h0) fun v sb ⟨y, Hb, Ib, ry, adr, ey, q⟩ => by
  subst ey
  cases ry
  have fp : ∀ z ∈ [sb.heap.objs.size], FpOk X ps Hb z := fun z hz => by
    rw [List.mem_singleton.mp hz]
    exact Ib.fpOk (Nat.le_refl sb.heap.objs.size) (Ib.hok.fresh (Nat.le_refl sb.heap.objs.size))
  rcases q with ⟨⟨ys, hq⟩, q⟩ | ⟨⟨ys, hq⟩, q⟩
  · obtain ⟨vals, _, isl, _⟩ := Ib.list hq
    exact wpAny_pyIter_list isl.isList ⟨_, [sb.heap.objs.size], _, _, Hb, rfl, Ib.kept (t' := sb.toks) (fun _ _ k => Heap.get?_push_of_some _ k), turn_list adr _, ⟨_, Heap.get?_push_size _ rfl, rfl, rfl⟩, fp, q⟩
  · obtain ⟨vals, _, ist, _⟩ := Ib.tuple hq
    exact wpAny_pyIter_tuple (items := vals.toArray) ist ⟨_, [sb.heap.objs.size], _, _, Hb, rfl, Ib.kept (t' := sb.toks) (fun _ _ k => Heap.get?_push_of_some _ k), turn_tuple adr _, ⟨_, Heap.get?_push_size _ rfl, rfl, rfl⟩, fp, q⟩⟩
def items : D → Option (List D)
  | .lst ds => some ds
  | .tup ds => some ds
  | _ => none
def itemsI : D → Option (List D)
  | .lst ds => some ds
  | .tup ds => some ds
  | .slst ds => some ds
  | _ => none
/-- a meaning of one value's items -/
def aItems (e : SE) : SA := fun ρ g => match e ρ g with
  | some (.ok d, g) => (itemsI d).map fun ds => (.ok ds, g)
  | some (.exc n f, g) => some (.exc n f, g)
  | none => none
section
variable {c : Ct} {F0 H0 F H F' H' F1 : Hp} {σ : St} {ρ : Env} {O O1 O' OL : List Nat} {W : WX} {g g' : G} {te ta tb tc : TE} {tt tu : TT} {e a b : SE} {ts ts1 ts2 : TS} {s s1 s2 : SS}
theorem snd_iseq (h : SndE c O W te e) : SndI c O W (iSeq c.K te) (aItems e) := fun F0 H0 F H σ ρ g r g' S q R p => by
  unfold aItems at q
  cases z : e ρ g with
  | none => rw [z] at q; cases q
  | some y =>
    obtain ⟨o, g1⟩ := y
    rw [z] at q
    cases o with
    | exc n f => cases q; exact h _ _ _ _ _ _ _ _ _ S z _ p
    | ok d =>
      refine h _ _ _ _ _ _ _ _ _ S z _ fun v F1 H1 G1 S1 rv => ?_
      cases d with
      | lst ds =>
        cases q
        obtain ⟨a, vs, h1, h2, h3⟩ := rv
        exact ⟨a, h1, .inl ⟨⟨vs, SqL.of (S1.ex _ _ h2)⟩, p _ F1 H1 G1 S1 (itok_list (SqL.of h2) h3)⟩⟩
      | slst ds =>
        cases q
        obtain ⟨a, vs, h1, h2, h3⟩ := rv
        exact ⟨a, h1, .inl ⟨⟨vs, ex_l S1.ex h2⟩, p _ F1 H1 G1 S1 (itok_list h2 h3)⟩⟩
      | tup ds =>
        cases q
        obtain ⟨a, vs, h1, h2, h3⟩ := rv
        exact ⟨a, h1, .inr ⟨⟨vs, ex_t S1.ex h2⟩, p _ F1 H1 G1 S1 (itok_tup h2 h3)⟩⟩
      | _ => cases q
/-- range(n), range(a, b) -/
def small62 (i : Int) : Bool := decide (i.natAbs.log2 < 60)
theorem small62_lt {i : Int} (h : small62 i = true) : i.natAbs < 2 ^ 60 := by
  have h := of_decide_eq_true h
  by_cases z : i.natAbs = 0
  · rw [z]; decide
  · exact (Nat.log2_lt z).mp h
theorem small62_of {i : Int} (h : i.natAbs < 2 ^ 60) : small62 i = true := by
  refine decide_eq_true ?_
  by_cases z : i.natAbs = 0
  · rw [z]; decide
  · exact (Nat.log2_lt z).mpr h
theorem small62_ok {i : Int} (h : small62 i = true) : -(2 ^ 62) ≤ i ∧ i < 2 ^ 62 := by
  have h := small62_lt h
  omega
def fRng1 : List MP.D → Option (List MP.D)
  | [.int n] => if small62 n = true then some (rng 0 n.toNat) else none
  | _ => none
def fRng2 : List MP.D → Option (List MP.D)
  | [.int a, .int b] => if (small62 a && small62 b) = true then some (rng a (b - a).toNat) else none
  | _ => none
def aVia (f : List MP.D → Option (List MP.D)) (r : SA) : SA := fun ρ g => match r ρ g with
  | some (.ok ds, g) => (f ds).map fun xs => (.ok xs, g)
  | some (.exc n f, g) => some (.exc n f, g)
  | none => none
theorem snd_via {f : List MP.D → Option (List MP.D)} {ar : SA} {ta : TA} {wi : TI} {rr : List V → Hp → (It → Hp → Prop) → Prop} (hw : wi = fun σ H R => ta σ H fun vs H1 => rr vs H1 R) (h : SndA c O W ta ar)
    (k : ∀ F H ds xs vs, Ex F H → f ds = some xs → Reps c F ds vs → ∀ R, (∀ J, ItOk c F J xs → R J H) → rr vs H R) : SndI c O W wi (aVia f ar) := fun F0 H0 F H σ ρ g r g' S q R p => by
  subst hw
  unfold aVia at q
  cases z : ar ρ g with
  | none => rw [z] at q; cases q
  | some y =>
    obtain ⟨o, g1⟩ := y
    rw [z] at q
    cases o with
    | exc n f => cases q; exact h _ _ _ _ _ _ _ _ _ S z _ p
    | ok ds =>
      cases z2 : f ds with
      | none => simp only [z2] at q; cases q
      | some xs =>
        simp only [z2] at q
        cases q
        exact h _ _ _ _ _ _ _ _ _ S z _ fun vs F1 H1 G1 S1 rs => k F1 H1 ds xs vs S1.ex z2 rs R fun J i => p J F1 H1 G1 S1 i
theorem snd_rng1 {ar : SA} {tr : TA} (h : SndA c O W tr ar) : SndI c O W (iRng1 tr) (aVia fRng1 ar) := snd_via rfl h fun F H ds xs vs ex q rs R p => by
  unfold fRng1 at q
  split at q
  · rename_i n
    split at q
    · rename_i hn
      cases q
      obtain ⟨v, r, h1, h2, h3⟩ := rs
      cases h2
      cases h3
      obtain ⟨k1, k2⟩ := small62_ok hn
      exact ⟨n, h1, k1, k2, p _ itok_range⟩
    · cases q
  · cases q
theorem snd_rng2 {ar : SA} {tr : TA} (h : SndA c O W tr ar) : SndI c O W (iRng2 tr) (aVia fRng2 ar) := snd_via rfl h fun F H ds xs vs ex q rs R p => by
  unfold fRng2 at q
  split at q
  · rename_i a b
    split at q
    · rename_i hn
      cases q
      obtain ⟨v, r, h1, h2, v2, r2, h3, h4, h5⟩ := rs
      cases h2
      cases h4
      cases h5
      obtain ⟨n1, n2⟩ := Bool.and_eq_true_iff.mp hn
      obtain ⟨k1, k2⟩ := small62_ok n1
      obtain ⟨k3, k4⟩ := small62_ok n2
      exact ⟨a, b, by rw [h1, h3], ⟨k1, k2, k3, k4⟩, p _ itok_range⟩
    · cases q
  · cases q
/-! ### targets -/
abbrev ST := MP.D → Env → Option Env
def SndG (c : Ct) (O O1 : List Nat) (tv : List Nat) (tg : TG) (f : ST) : Prop := ∀ F0 H0 F H σ ρ g d ρ1 v, SR c F0 H0 F H σ ρ O g → f d ρ = some ρ1 → Rep c F d v → ∀ Q : St → Hp → Prop,
  (∀ σ', SR c F0 H0 F H σ' ρ1 O1 g → (∀ vs : List Nat, (∀ i ∈ tv, i ∈ vs) → wipe σ' vs = wipe σ vs) → Q σ' H) → tg v σ H Q
theorem wipe_set {σ : St} {i : Nat} {x : Option V} : ∀ {vs : List Nat}, i ∈ vs → wipe (σ.set i x) vs = wipe σ vs
  | [], h => by cases h
  | v :: vs, h => by
    unfold wipe
    by_cases e : i ∈ vs
    · rw [wipe_set e]
    · have : i = v := by
        rcases List.mem_cons.mp h with k | k
        · exact k
        · exact absurd k e
      subst this
      have key : ∀ (ws : List Nat) (τ : St), i ∉ ws → (wipe (τ.set i x) ws) = (wipe τ ws).set i x := fun ws => by
        induction ws with
        | nil => intro τ _; rfl
        | cons w ws ih =>
          intro τ hw
          unfold wipe
          rw [ih τ (fun m => hw (List.mem_cons_of_mem _ m))]
          exact List.set_comm _ _ (fun e => hw (by rw [e]; exact List.mem_cons_self))
      rw [key vs σ e, List.set_set]
def gVar (i : Nat) : ST := fun d ρ => some (ρ.set i (some d))
theorem snd_gvar {i : Nat} (hp : c.np i = true := by rfl) : SndG c O (O.filter (· != i)) [i] (gName i) (gVar i) := fun F0 H0 F H σ ρ g d ρ1 v S q rv Q p => by
  cases q
  exact p _ (S.set (d := fun _ => True) rv hp) fun vs h => wipe_set (h i (by simp))
def SndGs (c : Ct) (O O1 : List Nat) (tv : List Nat) (n : Nat) (tg : TGs) (f : List MP.D → Env → Option Env) : Prop := (∀ ds ρ ρ1, f ds ρ = some ρ1 → ds.length = n) ∧ ∀ F0 H0 F H σ ρ g ds ρ1 vs, SR c F0 H0 F H σ ρ O g → f ds ρ = some ρ1 → Reps c F ds vs → ∀ Q : St → Hp → Prop,
  (∀ σ', SR c F0 H0 F H σ' ρ1 O1 g → (∀ vs : List Nat, (∀ i ∈ tv, i ∈ vs) → wipe σ' vs = wipe σ vs) → Q σ' H) → tg vs σ H Q
def gsNil (ds : List MP.D) (ρ : Env) : Option Env := match ds with
  | [] => some ρ
  | _ :: _ => none
def gsCons (t : ST) (u : List MP.D → Env → Option Env) (ds : List MP.D) (ρ : Env) : Option Env := match ds with
  | d :: ds => (match t d ρ with
    | some ρ1 => u ds ρ1
    | none => none)
  | [] => none
theorem snd_gsnil : SndGs c O O [] 0 gNil gsNil := ⟨fun ds ρ ρ1 q => by
  cases ds with
  | nil => rfl
  | cons d ds => (cases q), fun F0 H0 F H σ ρ g ds ρ1 vs S q rs Q p => by
  cases ds with
  | nil =>
    cases q
    cases rs
    exact ⟨rfl, p σ S fun _ _ => rfl⟩
  | cons d ds => cases q⟩
theorem snd_gscons {tv tw : List Nat} {n : Nat} {t : TG} {u : TGs} {f : ST} {fs : List MP.D → Env → Option Env} (h : SndG c O O1 tv t f) (k : SndGs c O1 O' tw n u fs) : SndGs c O O' (tv ++ tw) (n + 1) (gCons t u) (gsCons f fs) := ⟨fun ds ρ ρ1 q => by
  cases ds with
  | nil => cases q
  | cons d ds =>
    simp only [gsCons] at q
    cases z : f d ρ with
    | none => rw [z] at q; cases q
    | some ρ2 =>
      rw [z] at q
      rw [List.length_cons, k.1 _ _ _ q], fun F0 H0 F H σ ρ g ds ρ1 vs S q rs Q p => by
  cases ds with
  | nil => cases q
  | cons d ds =>
    obtain ⟨v, r, h1, h2, h3⟩ := rs
    subst h1
    simp only [gsCons] at q
    cases z : f d ρ with
    | none => rw [z] at q; cases q
    | some ρ2 =>
      rw [z] at q
      exact ⟨v, r, rfl, h _ _ _ _ _ _ _ _ _ _ S z h2 _ fun σ2 S2 w2 => k.2 _ _ _ _ _ _ _ _ _ _ S2 q h3 Q fun σ3 S3 w3 => p σ3 S3 fun vs hv => by
          rw [w3 vs (fun i hi => hv i (List.mem_append_right _ hi)), w2 vs (fun i hi => hv i (List.mem_append_left _ hi))]⟩⟩
def gTupD (f : List MP.D → Env → Option Env) : ST := fun d ρ => match d with
  | .tup ds => f ds ρ
  | _ => none
theorem snd_gtup {tv : List Nat} {n : Nat} {u : TGs} {fs : List MP.D → Env → Option Env} (k : SndGs c O O' tv n u fs) : SndG c O O' tv (gTup c.K n u) (gTupD fs) := fun F0 H0 F H σ ρ g d ρ1 v S q rv Q p => by
  unfold gTupD at q
  split at q
  · rename_i ds
    obtain ⟨a, vs, h1, h2, h3⟩ := rv
    exact ⟨a, vs, h1, ex_t S.ex h2, by rw [h3.len]; exact k.1 _ _ _ q, k.2 _ _ _ _ _ _ _ _ _ _ S q h3 Q p⟩
  · cases q
/-! x, y = e -/
def sUnp (f : ST) (e : SE) : SS := fun ρ g => bV (e ρ g) ρ fun d g => match f d ρ with
  | some ρ1 => some (.nx ρ1, g)
  | none => none
theorem snd_unp {tv : List Nat} {tg : TG} {f : ST} (h : SndE c O W te e) (k : SndG c O O' tv tg f) : SndS c O O' OL W (tAsg te tg) (sUnp f e) := fun F0 H0 F H σ ρ g r g' S q D p => by
  unfold sUnp at q
  rcases bV_some q with ⟨d, g1, q1, q2⟩ | ⟨n, f, q1, rfl⟩
  · cases z : f d ρ with
    | none => simp only [z] at q2; cases q2
    | some ρ1 =>
      simp only [z] at q2
      cases q2
      exact h _ _ _ _ _ _ _ _ _ S q1 _ fun v F1 H1 G1 S1 rv => k _ _ _ _ _ _ _ _ _ _ S1 z rv _ fun σ' S' _ => p σ' F1 H1 G1.ex S'
  · exact h _ _ _ _ _ _ _ _ _ S q1 _ (postX_of S p)
/-! ### for -/
def forGo (f : ST) (body : SS) : List MP.D → Env → G → Option (SOut × G)
  | [], ρ, g => some (.nx ρ, g)
  | d :: ds, ρ, g => match f d ρ with
    | none => none
    | some ρ1 => match body ρ1 g with
      | some (.nx ρ2, g2) => forGo f body ds ρ2 g2
      | some (.cnt ρ2, g2) => forGo f body ds ρ2 g2
      | some (.brk ρ2, g2) => some (.nx ρ2, g2)
      | some (.ret d, g2) => some (.ret d, g2)
      | some (.exc n fs ρ2, g2) => some (.exc n fs ρ2, g2)
      | none => none
def sFor (it : SA) (f : ST) (body : SS) : SS := fun ρ g => match it ρ g with
  | some (.ok ds, g) => forGo f body ds ρ g
  | some (.exc n fs, g) => some (.exc n fs ρ, g)
  | none => none
theorem Gp.ex2 (P : Gp F H F' H') : Ex F F' := P.ex
theorem snd_for {tv : List Nat} {wi : TI} {it : SA} {tg : TG} {f : ST} {tb : TS} {sb : SS} (hi : SndI c O W wi it) (ht : SndG c O O1 tv tg f) (hb : SndS c O1 O O W tb sb) : SndS c O O OL W (tFor wi tg tb) (sFor it f sb) := fun F0 H0 F H σ ρ g r g' S q D p => by
  unfold sFor at q
  cases z : it ρ g with
  | none => rw [z] at q; cases q
  | some y =>
    obtain ⟨o, g1⟩ := y
    rw [z] at q
    cases o with
    | exc n fs =>
      cases q
      exact hi _ _ _ _ _ _ _ _ _ S z _ (postX_of S p)
    | ok ds =>
      refine hi _ _ _ _ _ _ _ _ _ S z _ fun J F1 H1 G1 S1 ok => ?_
      refine ⟨fun i m σ H => m = ds.length - i ∧ i ≤ ds.length ∧ ∃ F ρ g, Ex F1 F ∧ SR c F0 H0 F H σ ρ O g ∧ forGo f sb (ds.drop i) ρ g = some (r, g'), ⟨ds.length, by simp, Nat.zero_le _, F1, ρ, g1, .refl F1, S1, by simpa using q⟩, ?_⟩
      rintro i m σ2 H2 ⟨rfl, hle, F2, ρ2, g2, e2, S2, q2⟩
      by_cases hlt : i < ds.length
      · refine .inr ⟨ok.goes i F2 H2 hlt e2 S2.ex, fun σ' H' => ∃ F ρ g, Ex F1 F ∧ SR c F0 H0 F H' σ' ρ O g ∧ forGo f sb (ds.drop (i + 1)) ρ g = some (r, g'), fun σ' H' ⟨F3, ρ3, g3, e3, S3, q3⟩ => ⟨ds.length - (i + 1), by omega, rfl, hlt, F3, ρ3, g3, e3, S3, q3⟩, fun x H3 hy => ?_⟩
        have hd : ds[i]? = some ds[i] := by simp [hlt]
        obtain ⟨F3, P3, rx⟩ := ok.yields i _ F2 H2 x H3 hd e2 S2.ex hy
        rw [List.drop_eq_getElem_cons hlt] at q2
        unfold forGo at q2
        cases z2 : f ds[i] ρ2 with
        | none => rw [z2] at q2; cases q2
        | some ρ3 =>
          rw [z2] at q2
          have S3 := S2.pure P3
          refine ht _ _ _ _ _ _ _ _ _ _ S3 z2 rx _ fun σ4 S4 _ => ?_
          have e3 : Ex F1 F3 := e2.trans P3.ex
          cases z3 : sb ρ3 g2 with
          | none => simp only [z3] at q2; cases q2
          | some y3 =>
            obtain ⟨o3, g3⟩ := y3
            simp only [z3] at q2
            refine hb _ _ _ _ _ _ _ _ _ S4 z3 _ ?_
            cases o3 with
            | nx ρ5 => exact fun σ5 F5 H5 e5 S5 => ⟨F5, ρ5, g3, e3.trans e5, S5, q2⟩
            | cnt ρ5 => exact fun σ5 F5 H5 e5 S5 => ⟨F5, ρ5, g3, e3.trans e5, S5, q2⟩
            | brk ρ5 =>
              cases q2
              exact fun σ5 F5 H5 e5 S5 => p σ5 F5 H5 ((G1.ex.trans e3).trans e5) S5
            | ret d =>
              cases q2
              exact p
            | exc n fs ρ5 =>
              cases q2
              exact fun cls dd σ5 F5 H5 e5 S5 x => p cls dd σ5 F5 H5 ((G1.ex.trans e3).trans e5) S5 x
      · have e : i = ds.length := by omega
        subst e
        rw [List.drop_length] at q2
        cases q2
        exact .inl ⟨ok.stops F2 H2 e2 S2.ex, p σ2 F2 H2 (G1.ex.trans e2) S2⟩
end
end MP

set_option maxRecDepth 100000
set_option maxHeartbeats 1000000
namespace MP
open PySem PySem.Spec PyProof.Rows L2
/-- room, and no repr that is under way -/
structure RG (k : Nat) (A : Around) : Prop extends Room k A where
  gd : A.guards = some []
theorem RG.mono {j k : Nat} {A : Around} (r : RG k A) (h : j ≤ k) : RG j A := ⟨r.toRoom.mono h, r.gd⟩
theorem RG.deeper {k : Nat} {A : Around} (r : RG (k + 1) A) (env : PySem.Env) : RG k (A.deeper env) := ⟨r.toRoom.deeper env, r.gd⟩
theorem RG.in1 {k : Nat} {A : Around} (r : RG (k + 1) A) : RG k A.in1 := ⟨r.toRoom.in1, r.gd⟩
theorem make_guards {A : Around} {C : Addr} {us : List Value} {kw : List (Str × Value)} : (A.under (.builtin "type.__call__" ⟨.ref C :: us, kw⟩)).guards = A.guards := by
  first
    | rfl
    | (simp [Around.under, Code.guards, Code.isGuard, Code.isFrame, pushGuards, guardIds] <;> (cases A.guards <;> rfl))
theorem RG.make {k : Nat} {A : Around} (r : RG (k + 1) A) (C : Addr) (us : List Value) (kw : List (Str × Value)) : RG k (A.under (.builtin "type.__call__" ⟨.ref C :: us, kw⟩)) := ⟨r.toRoom.make C us kw, by rw [make_guards]; exact r.gd⟩
/-- a def keeps a promise where no repr is under way -/
structure FnG (P : Program) (w : World) (K : PySem.W.Frag) (mg : Str → Option Value) (base : Heap) (CX : CXT) (k : Nat) (f : Addr) (fd : FuncData) (ps : List Str) (sp : Sp) : Prop where
  len : ∀ vs H Q E, sp vs H Q E → vs.length = ps.length
  run : ∀ (A : Around) (outer : List PySem.Env) (s : Shared) (H : Hp) (args : Args) (us : List Value) (vs : List V) (Q : VK) (E : XK), RG k A → Env0 P w K mg base A outer s H → BindsTo s fd args (ps.zip us) → Vals vs us →
    sp vs H Q E → codeAny (model P w) A (.call (.ref f) args) (CR CX outer P w H s Q E) s
section
variable {P : Program} {w : World} {K : PySem.W.Frag} {mg : Str → Option Value} {base : Heap} {CX : CXT}
theorem FnG.of {k : Nat} {f : Addr} {fd : FuncData} {ps : List Str} {sp : Sp} (F : FnOk P w K mg base CX k f fd ps sp) : FnG P w K mg base CX k f fd ps sp := ⟨F.len, fun A o s H a us vs Q E r => F.run A o s H a us vs Q E r.toRoom⟩
theorem FnG.mono {j k : Nat} {f : Addr} {fd : FuncData} {ps : List Str} {sp : Sp} (F : FnG P w K mg base CX j f fd ps sp) (h : j ≤ k) : FnG P w K mg base CX k f fd ps sp := ⟨F.len, fun A o s H a us vs Q E r => F.run A o s H a us vs Q E (r.mono h)⟩
theorem FnG.imp {k : Nat} {f : Addr} {fd : FuncData} {ps : List Str} {sp sp' : Sp} (F : FnG P w K mg base CX k f fd ps sp) (h : ∀ vs H Q E, sp' vs H Q E → sp vs H Q E) : FnG P w K mg base CX k f fd ps sp' :=
  ⟨fun vs H Q E q => F.len vs H Q E (h _ _ _ _ q), fun A o s H a us vs Q E r e b v q => F.run A o s H a us vs Q E r e b v (h _ _ _ _ q)⟩
/-- by its body -/
theorem fnG_of {k : Nat} {f : Addr} {name qual : Str} {params : Arguments} {body : List Stmt} {scope : Scope} {dV kV doc pm cdv ct oc : Value} {an od : Option Addr} {osl : Array (Option Value)} {N ps : List Str} {sp : Sp}
    (lk : K.lookup f = some ⟨oc, od, .func (PySem.W.fnOf name qual params body scope dV kV doc pm an cdv ct), osl⟩) (hcd : PySem.W.codeIn K cdv qual = true) (S : FnScope N ps scope) (len : ∀ vs H Q E, sp vs H Q E → vs.length = ps.length)
    (hb : ∀ (A : Around) (outer : List PySem.Env) (s : Shared) (H : Hp) (vs : List V) (Q : VK) (E : XK), RG k (A.deeper (envOfC qual scope s.heap.objs.size f cdv)) → sp vs H Q E → ∃ t, PSs (cxOf CX P w K mg base N qual scope f cdv A outer s H E) body t ∧ t { nx := fun _ H' => Q .non H', rt := Q } (L2.start N vs) H) :
    FnG P w K mg base CX (k + 1) f (PySem.W.fnOf name qual params body scope dV kV doc pm an cdv ct) ps sp := by
  refine ⟨len, fun A outer s H args us vs Q E rm en bd rl q => ?_⟩
  have inK : K.In s.heap := en.mod.kin.keeps (fun b o e => (en.bs b o e).1)
  have nol : s.heap.NoLimit := en.mod.nolimit.keeps (fun b o e => (en.bs b o e).1)
  refine codeAny_call_function rm.depth (inK _ _ lk) rfl S.co S.gen rfl (PySem.W.codeRec_of inK hcd) (bd _ _ _ _ (wpAny_newFunctionEnv_cells S.kind (fun y hy => ?_) fun env ee s1 st => ?_))
  · obtain ⟨n, v⟩ := y
    exact (S.par n (List.of_mem_zip hy).1).imp (fun z => z) fun z => ⟨z, PySem.W.cellsFrom_some _ _ _ (.inl z)⟩
  · subst ee
    obtain ⟨t, ht, tq⟩ := hb A outer s H vs Q E (rm.deeper _) q
    have J : Inv (cxOf CX P w K mg base N qual scope f cdv A outer s H E) [] (L2.start N vs) H s1 := inv_start S rm.hd en (len _ _ _ _ q) rl st
    refine ⟨nol.keeps st.toInCall.keep, codeAny_func (wpAny_mono (ht.run [] s1 (L2.start N vs) H _ J tq) (fun fl s' hs => ?_) fun e s' hs => hs)⟩
    match fl, hs with
    | .ret u, ⟨v, _, H', J', rv, z⟩ => exact ⟨v, H', J'.os, J'.bare, J'.base, J'.hok, rv, z⟩
    | .next, ⟨_, H', J', z⟩ => exact ⟨V.non, H', J'.os, J'.bare, J'.base, J'.hok, rfl, z⟩
    | .brk, ⟨_, _, _, z⟩ => exact z.elim
    | .cont, ⟨_, _, _, z⟩ => exact z.elim
theorem funD_okG {k : Nat} {x qual : Str} {params : Arguments} {body : List Stmt} {scope : Scope} {dvs : List V} {kws : List (Str × V)} {f : Addr} {fd : FuncData} {N ps : List Str} {sp : Sp} (F : FunD K x qual params body scope dvs kws f fd) (S : FnScope N ps scope) (len : ∀ vs H Q E, sp vs H Q E → vs.length = ps.length)
    (hb : ∀ (cdv : Value) (A : Around) (outer : List PySem.Env) (s : Shared) (H : Hp) (vs : List V) (Q : VK) (E : XK), RG k (A.deeper (envOfC qual scope s.heap.objs.size f cdv)) → sp vs H Q E → ∃ t, PSs (cxOf CX P w K mg base N qual scope f cdv A outer s H E) body t ∧ t { nx := fun _ H' => Q .non H', rt := Q } (L2.start N vs) H) :
    FnG P w K mg base CX (k + 1) f fd ps sp := by
  obtain ⟨oc, od, dV, kV, doc, pm, an, cdv, ct, osl, rfl, lk, hcd, _⟩ := F.ex
  exact fnG_of lk hcd S len fun A outer s H vs Q E r q => hb cdv A outer s H vs Q E r q
/-- the law's call from outside -/
theorem lawG {k : Nat} {fa a : Addr} {fd : FuncData} {x : Str} {sp : Sp} {mb : Str → Option Value} {s₁ : Shared} {vs : List Value} {ns : List Int} (KX : K.In s₁.heap) (hns : s₁.heap.Ns mainGlobals mg) (hb : s₁.heap.Ns builtinsNs mb) (hbb : ∀ x : Str, x ≠ "__name__" → mb x = bootBuiltins x) (hlim : s₁.heap.NoLimit) (hg : s₁.gens = #[])
    (ha : s₁.heap.get? a = some { cls := .type "list", data := .seq vs.toArray }) (hi : IntsAre vs ns) (hl : ns.length ≤ sizeLine) (hr : RG k callerA) (F : ∀ base : Heap, K.In base → base.Ns mainGlobals mg → FnG P w K mg base CX k fa fd [x] sp) (hbind : ∀ (s : Shared) (u : Value), BindsTo s fd ⟨[u], []⟩ [(x, u)])
    (hsp : ∀ H : Hp, Only H → SqL K H a (ns.map V.int) → sp [.ref a] H (fun v _ => v = .bl true) fun _ _ _ => False) (hCX : ∀ H e s', CX [] H s₁ (fun _ _ _ => False) e s' → False) :
    codeAny (model P w) callerA (.call (.ref fa) ⟨[.ref a], []⟩) (fun r s' => r = .ok (.ret (.bool true)) ∧ OldK s₁.heap s'.heap ∧ s'.os = s₁.os ∧ AllBare s'.gens) s₁ := by
  -- the script tracked as locked, or among the module's own objects
  have main : ∀ H : Hp, Only H → SqL K H a (ns.map V.int) → HOk P w H s₁.heap → (∀ b, H b ≠ none → b = a ∧ K.lookup b = none) → codeAny (model P w) callerA (.call (.ref fa) ⟨[.ref a], []⟩) (fun r s' => r = .ok (.ret (.bool true)) ∧ OldK s₁.heap s'.heap ∧ s'.os = s₁.os ∧ AllBare s'.gens) s₁ := fun H hO hS hok hA => by
    have nd : ∀ {b : Addr} {o : Obj} {es : Array DictEntry} {ep : Nat}, s₁.heap.get? b = some o → o.data = .dict es ep → H b = none := fun {b o es ep} e d => by
      by_cases q : H b = none
      · exact q
      · obtain ⟨z, _⟩ := hA b q
        rw [z, ha] at e
        cases e
        cases d
    have nsH : ∀ {b : Addr} {m : Str → Option Value}, s₁.heap.Ns b m → (hidT s₁.heap H).Ns b m := fun {b m} z => by
      obtain ⟨o, es, ep, e, d, r⟩ := z
      exact ⟨o, es, ep, hidT_get e (nd e d), d, r⟩
    have kH : K.In (hidT s₁.heap H) := fun b o e => hidT_get (KX b o e) (by
      by_cases q : H b = none
      · exact q
      · rw [(hA b q).2] at e; cases e)
    have en : Env0 P w K mg (hidT s₁.heap H) callerA [] s₁ H := by
      refine ⟨rfl, ⟨kH, nsH hns, ⟨mb, nsH hb, hbb⟩, ?_⟩, fun b o e => of_hidT e, Nat.le_of_eq (hidT_size _ _), trivial, fun b z => ?_, hok, .of_eq hg⟩
      · obtain ⟨mc, h1, h2⟩ := hlim
        exact ⟨mc, nsH h1, h2⟩
      · exact absurd (show b ∈ ([] : List Addr) from z) (by simp)
    refine codeAny_mono ((F _ kH (nsH hns)).run callerA [] s₁ H ⟨[.ref a], []⟩ [.ref a] [.ref a] _ _ hr en (hbind s₁ (.ref a)) (.cons rfl .nil) (hsp H hO hS)) fun r s' h => ?_
    match r, h with
    | .error e, h => exact (hCX H e s' h).elim
    | .ok .next, h => exact h.elim
    | .ok .brk, h => exact h.elim
    | .ok .cont, h => exact h.elim
    | .ok (.ret u), ⟨v, H', os, bare, un, ok', rv, q⟩ =>
      cases (show v = .bl true from q)
      cases (show u = Value.bool true from rv)
      refine ⟨rfl, OldK.of_keep fun b o e => ?_, os, bare⟩
      rcases hO b with z | ⟨ob, xs, z⟩
      · exact un.keep b o e z (fun m => absurd (show b ∈ ([] : List Addr) from m) (by simp)) (by simp)
      · obtain ⟨e1, _⟩ := hok b _ z
        obtain ⟨e2, _⟩ := ok' b _ (un.frzs b ob _ z)
        rw [e] at e1
        cases e1
        exact e2
  have rv := vals_ints hi
  cases hk : K.lookup a with
  | some o =>
    have e := KX a o hk
    rw [ha] at e
    cases e
    exact main (fun _ => none) (fun _ => .inl rfl) (.inr ⟨_, vs.toArray, _, hk, rfl, rfl, rfl, by rw [List.size_toArray, hi.length]; exact hl, by simpa using rv⟩) (fun b u z => by have z2 : (none : Option HO) = some u := z; cases z2) fun b z => absurd rfl z
  | none =>
    have one : ∀ {b : Addr} {u : HO}, (if b = a then some (HO.frz { cls := .type "list", data := .seq vs.toArray } (.lst (ns.map V.int))) else none) = some u → b = a ∧ u = .frz { cls := .type "list", data := .seq vs.toArray } (.lst (ns.map V.int)) := fun {b u} z => by
      split at z
      · rename_i e
        cases z
        exact ⟨e, rfl⟩
      · cases z
    refine main (fun b => if b = a then some (.frz { cls := .type "list", data := .seq vs.toArray } (.lst (ns.map V.int))) else none) (fun b => ?_) (.inl (.inr ⟨_, if_pos rfl⟩)) (fun b u z => ?_) fun b z => ?_
    · by_cases e : b = a
      · exact .inr ⟨_, _, if_pos e⟩
      · exact .inl (if_neg e)
    · obtain ⟨e1, e2⟩ := one z
      subst e1 e2
      exact ⟨ha, by rw [List.length_map]; exact hl, vs, _, rv, ha⟩
    · by_cases e : b = a
      · rw [e]; exact ⟨rfl, hk⟩
      · exact absurd (if_neg e) z
end
theorem walkG {l : PySem.W.OpenLaw} {n k : Nat} {q : Program} {loose : List Str} {XP : (Str → Option Value) → Heap → Prop} {YP : World → Heap → Prop} {d : DefRec} {CX : CXT} {x : Str} (hn : l.most = some n) (hn2 : n ≤ sizeLine) (hdf : d.params.defaults = []) (hr : RG k callerA)
    (F : ∀ (w : World) (mg : Str → Option Value) (fa : Addr) (h : Heap), YP w h → h.Ns mainGlobals mg → mg d.name = some (.ref fa) → ∃ (K : PySem.W.Frag) (fd : FuncData) (sp : Sp), K.In h ∧ (∀ (s : Shared) (u : Value), BindsTo s fd ⟨[u], []⟩ [(x, u)]) ∧
      (∀ (H : Hp) (a : Addr) (ns : List Int), ns.length ≤ n → Only H → SqL K H a (ns.map V.int) → sp [.ref a] H (fun v _ => v = .bl true) fun _ _ _ => False) ∧ ∀ base : Heap, K.In base → base.Ns mainGlobals mg → FnG l.prog w K mg base CX k fa fd [x] sp)
    (hCX : ∀ (H : Hp) (s : Shared) (e : Value) (s' : Shared), CX [] H s (fun _ _ _ => False) e s' → False) : PySem.W.WalkO q loose XP YP l.row.toRowW d [] (fun f vs => PySem.call f vs) := by
  refine Att.attach_call hn hdf fun w s₀ s₁ mg mb fa o pm cd doc a vs ns G Y ho hd hcd hmg hobj hints hlen hg => ?_
  obtain ⟨K, fd, sp, KX, hb, hsp, hF⟩ := F w mg fa _ Y G.T.g hmg
  exact lawG KX G.T.g G.T.b G.T.builtins G.T.nolimit hg hobj hints (Nat.le_trans hlen hn2) hr hF hb (fun H hO hS => hsp H a ns hlen hO hS) fun H e s' => hCX H s₁ e s'
end MP

set_option maxRecDepth 100000
set_option maxHeartbeats 1000000
namespace MP
open PySem L2
open Evl (Ex ex_rd ex_l ex_t)
/-- nothing is raised -/
abbrev W0 : WX := fun _ _ _ _ => False
section
variable {c : Ct} {F0 H0 F H F' H' F1 : Hp} {σ : St} {ρ : Env} {O O1 O' OL : List Nat} {W : WX} {g g' : G} {te ta tb tc : TE} {tt tu : TT} {e a b : SE} {ts ts1 ts2 : TS} {s s1 s2 : SS}
/-! ### comprehensions -/
def wipeD (ρ : Env) : List Nat → Env
  | [] => ρ
  | v :: vs => (wipeD ρ vs).set v none
theorem SR.unset (S : SR c F0 H0 F H σ ρ O g) (i : Nat) (hp : c.np i = true) : SR c F0 H0 F H (σ.set i none) (ρ.set i none) O g where
  ex := S.ex
  gr := S.gr
  len := by rw [List.length_set, List.length_set]; exact S.len
  val := fun j y k n => by
    by_cases q : i = j
    · subst q
      by_cases l : i < ρ.length
      · rw [List.getElem?_set_self l] at k; cases k
      · rw [List.getElem?_eq_none (by rw [List.length_set]; omega)] at k; cases k
    · rw [List.getElem?_set_ne q] at k ⊢
      exact S.val j y k n
  own := fun j y k m => by
    by_cases q : i = j
    · subst q
      by_cases l : i < ρ.length
      · rw [List.getElem?_set_self l] at k; cases k
      · rw [List.getElem?_eq_none (by rw [List.length_set]; omega)] at k; cases k
    · rw [List.getElem?_set_ne q] at k ⊢
      exact S.own j y k m
  dis := fun j k y z hj hk ne h1 h2 => by
    have nn : ∀ {j y}, (ρ.set i none)[j]? = some (some y) → i ≠ j := fun {j y} k q => by
      subst q
      by_cases l : i < ρ.length
      · rw [List.getElem?_set_self l] at k; cases k
      · rw [List.getElem?_eq_none (by rw [List.length_set]; omega)] at k; cases k
    have n1 := nn h1
    have n2 := nn h2
    rw [List.getElem?_set_ne n1] at h1 ⊢
    rw [List.getElem?_set_ne n2] at h2 ⊢
    exact S.dis j k y z hj hk ne h1 h2
  hand := S.hand
  bs := S.bs
  pn := fun j u m l => by
    rw [List.getElem?_set_ne (Ct.np_ne hp m)]
    exact S.pn j u m (by simpa using l)
theorem wipe_wipe {σ : St} : ∀ {vs : List Nat}, L2.wipe (L2.wipe σ vs) vs = L2.wipe σ vs := fun {vs} => by
  have key : ∀ (us : List Nat) (τ : St), (∀ i ∈ us, τ[i]? = some none ∨ τ[i]? = none) → L2.wipe τ us = τ := fun us => by
    induction us with
    | nil => intro τ _; rfl
    | cons u us ih =>
      intro τ h
      unfold L2.wipe
      rw [ih τ (fun i hi => h i (List.mem_cons_of_mem _ hi))]
      apply List.ext_getElem?
      intro i
      by_cases q : u = i
      · subst q
        by_cases l : u < τ.length
        · rw [List.getElem?_set_self l]
          rcases h u List.mem_cons_self with k | k
          · exact k.symm
          · rw [List.getElem?_eq_getElem l] at k; cases k
        · rw [List.getElem?_eq_none (by rw [List.length_set]; omega), List.getElem?_eq_none (by omega)]
      · rw [List.getElem?_set_ne q]
  refine key vs _ fun i hi => ?_
  cases z : (L2.wipe σ vs)[i]? with
  | none => exact .inr rfl
  | some o =>
    cases o with
    | none => exact .inl rfl
    | some x => exact absurd hi (wipe_some z).2
/-- an open list changed -/
theorem gr_mut {p : Addr} {o : HO} (G : Gr c F H F' H') (h : H p = none) : Gr c F H F' (upd H' p o) where
  ex := G.ex
  keep := fun a u e k => by
    rw [upd_ne (ne_of_none e h)]
    exact G.keep a u e k
  new := G.new
  dom := fun a e => by
    by_cases q : a = p
    · subst q; exact h
    · rw [upd_ne q] at e; exact G.dom a e
theorem SR.mut {p : Addr} {o : HO} (S : SR c F0 H0 F H σ ρ O g) (h0 : H0 p = none) (hF : F p = none) (hd : c.hd ≠ some p) (hn : ∀ i d, i ∈ O → ρ[i]? = some (some d) → σ[i]? ≠ some (some (.ref p))) : SR c F0 H0 F (upd H p o) σ ρ O g where
  ex := S.ex.mut hF
  gr := gr_mut S.gr h0
  len := S.len
  val := S.val
  own := fun i d h k => by
    obtain ⟨v, h1, a, o', h3, h4, h5, h6, h7, h8⟩ := S.own i d h k
    have ne : a ≠ p := fun e => hn i d k h (by rw [h1, h3, e])
    exact ⟨v, h1, a, o', h3, h4, h5, h6, by rw [upd_ne ne]; exact h7, h8⟩
  dis := S.dis
  bs := S.bs
  pn := S.pn
  hand := by
    have z := S.hand
    unfold HandAt at z ⊢
    cases q : c.hd with
    | none => trivial
    | some a =>
      rw [q] at z
      obtain ⟨h1, vs, h2, h3⟩ := z
      have ne : a ≠ p := fun e => hd (by rw [q, e])
      exact ⟨h1, vs, by rw [upd_ne ne]; exact h2, h3⟩
theorem SR.wipe (S : SR c F0 H0 F H σ ρ O g) : ∀ vs : List Nat, (vs.all fun i => c.np i) = true → SR c F0 H0 F H (L2.wipe σ vs) (wipeD ρ vs) O g
  | [], _ => S
  | v :: vs, h => by
    rw [List.all_cons, Bool.and_eq_true] at h
    exact (SR.wipe S vs h.2).unset v h.1
def compGo (f : ST) (cond elt : SE) (ρ : Env) : List MP.D → G → List MP.D → Option (List MP.D × G)
  | [], g, acc => some (acc, g)
  | d :: ds, g, acc => match f d ρ with
    | none => none
    | some ρ1 => match cond ρ1 g with
      | some (.ok (.bl true), g2) => (match elt ρ1 g2 with
        | some (.ok y, g3) => if szB (acc.length + 1) = true then compGo f cond elt ρ ds g3 (acc ++ [y]) else none
        | _ => none)
      | some (.ok (.bl false), g2) => compGo f cond elt ρ ds g2 acc
      | _ => none
def eComp (own : List Nat) (it : SA) (f : ST) (cond elt : SE) : SE := fun ρ g => match it ρ g with
  | some (.ok ds, g) => (match compGo f cond elt (wipeD ρ own) ds g [] with
    | some (acc, g) => some (.ok (.lst acc), g)
    | none => none)
  | some (.exc n fs, g) => some (.exc n fs, g)
  | none => none
def eYes : SE := fun _ g => some (.ok (.bl true), g)
theorem snd_yes : SndB c O W tYes eYes := fun F0 H0 F H σ ρ g r g' S q Q p => by
  cases q
  exact p F H (Gr.refl ..) S
theorem snd_comp {tv own : List Nat} {wi : TI} {it : SA} {tg : TG} {f : ST} {cond elt : SE} (hi : SndI c O W wi it) (ht : SndG c O O1 tv tg f) (hc : SndB c O1 W0 tt cond) (he : SndE c O1 W0 te elt) (hv : ∀ i ∈ tv, i ∈ own) (hO : ∀ i ∈ O, i ∈ O1) (hpn : (own.all fun i => c.np i) = true := by rfl) :
    SndL c O W (tLc wi tg tt te own) (eComp own it f cond elt) := fun F0 H0 F H σ ρ g r g' S q Q p => by
  unfold eComp at q
  cases z : it ρ g with
  | none => rw [z] at q; cases q
  | some y =>
    obtain ⟨o, g1⟩ := y
    rw [z] at q
    cases o with
    | exc n fs =>
      cases q
      exact hi _ _ _ _ _ _ _ _ _ S z _ p
    | ok ds =>
      refine hi _ _ _ _ _ _ _ _ _ S z _ fun J F1 H1 G1 S1 ok D hD => ?_
      cases z1 : compGo f cond elt (wipeD ρ own) ds g1 [] with
      | none => simp only [z1] at q; cases q
      | some y1 =>
        obtain ⟨all, ge⟩ := y1
        simp only [z1] at q
        cases q
        have hDd := hd_ne S1 hD
        have fr : ∀ i d, i ∈ O → ρ[i]? = some (some d) → σ[i]? ≠ some (some (.ref D)) := fun i d hi hd e => by
          obtain ⟨v, h1, a, es, h3, h4, h5, h6, h7, h8⟩ := S1.own i d hd hi
          rw [h1] at e
          have ev : v = .ref D := Option.some.inj (Option.some.inj e)
          rw [h3] at ev
          cases ev
          rw [hD] at h7
          cases h7
        refine ⟨fun i m H => m = ds.length - i ∧ i ≤ ds.length ∧ ∃ F2 g2 acc vs, Ex F1 F2 ∧ Gr c F1 H1 F2 H ∧ SR c F0 H0 F2 H σ ρ O g2 ∧ F2 D = none ∧ H D = some (.lst vs) ∧ Reps c F2 acc vs ∧ compGo f cond elt (wipeD ρ own) (ds.drop i) g2 acc = some (all, g'), ?_, ?_⟩
        · have P := gp_open (o := .lst []) S1.ex hD
          exact ⟨ds.length, by simp, Nat.zero_le _, F1, g1, [], [], .refl F1, P.gr, S1.pure P, ex_none S1.ex hD, upd_same, rfl, by simpa using z1⟩
        · rintro i m H2 ⟨rfl, hle, F2, g2, acc, vs, e2, G2, S2, nD, hl, rs, q2⟩
          by_cases hlt : i < ds.length
          · refine .inr ⟨ok.goes i F2 H2 hlt e2 S2.ex, fun H' => ∃ F2 g2 acc vs, Ex F1 F2 ∧ Gr c F1 H1 F2 H' ∧ SR c F0 H0 F2 H' σ ρ O g2 ∧ F2 D = none ∧ H' D = some (.lst vs) ∧ Reps c F2 acc vs ∧ compGo f cond elt (wipeD ρ own) (ds.drop (i + 1)) g2 acc = some (all, g'), fun H' hh => ⟨ds.length - (i + 1), by omega, rfl, hlt, hh⟩, fun x H3 hy => ?_⟩
            have hd : ds[i]? = some ds[i] := by simp [hlt]
            obtain ⟨F3, P3, rx⟩ := ok.yields i _ F2 H2 x H3 hd e2 S2.ex hy
            rw [List.drop_eq_getElem_cons hlt] at q2
            unfold compGo at q2
            cases z2 : f ds[i] (wipeD ρ own) with
            | none => rw [z2] at q2; cases q2
            | some ρ3 =>
              rw [z2] at q2
              have S3 := S2.pure P3
              have open_ : ∀ {Fa Ha Fb Hb}, Gr c Fa Ha Fb Hb → Fa D = none → (∃ u, Ha D = some u) → Fb D = none := fun {Fa Ha Fb Hb} G n ⟨u, hu⟩ => by
                cases w : Fb D with
                | none => rfl
                | some y =>
                  have := G.new D n (by rw [w]; exact Option.some_ne_none y)
                  rw [hu] at this
                  cases this
              have nD3 : F3 D = none := open_ P3.gr nD ⟨_, hl⟩
              have hl3 : H3 D = some (.lst vs) := P3.keep _ _ hl
              have G3 : Gr c F1 H1 F3 H3 := G2.trans P3.gr
              refine ht _ _ _ _ _ _ _ _ _ _ (S3.wipe own hpn) z2 rx _ fun σ4 S4 w4 => ⟨?_, ?_⟩
              · rw [w4 own hv]
                exact wipe_wipe
              · cases z3 : cond ρ3 g2 with
                | none => simp only [z3] at q2; cases q2
                | some y3 =>
                  obtain ⟨o3, g3⟩ := y3
                  simp only [z3] at q2
                  refine hc _ _ _ _ _ _ _ _ _ S4 z3 _ ?_
                  cases o3 with
                  | exc n fs => simp only at q2; cases q2
                  | ok d3 =>
                    cases d3 with
                    | bl bb =>
                      intro F5 H5 G5 S5
                      have nD5 := open_ G5 nD3 ⟨_, hl3⟩
                      have hl5 : H5 D = some (.lst vs) := G5.keep _ _ hl3 hDd
                      have S5' : SR c F0 H0 F5 H5 σ ρ O g3 := S3.next G5 S5.ex S5.hand
                      cases bb with
                      | false =>
                        simp only at q2
                        rw [if_neg Bool.false_ne_true]
                        exact ⟨F5, g3, acc, vs, (e2.trans P3.ex).trans G5.ex, G3.trans G5, S5', nD5, hl5, rs.mono (P3.ex.trans G5.ex), q2⟩
                      | true =>
                        simp only at q2
                        rw [if_pos rfl]
                        cases z4 : elt ρ3 g3 with
                        | none => simp only [z4] at q2; cases q2
                        | some y4 =>
                          obtain ⟨o4, g4⟩ := y4
                          simp only [z4] at q2
                          cases o4 with
                          | exc n fs => simp only at q2; cases q2
                          | ok y =>
                            simp only at q2
                            by_cases hz : szB (acc.length + 1) = true
                            · rw [if_pos hz] at q2
                              refine he _ _ _ _ _ _ _ _ _ S5 z4 _ fun v F6 H6 G6 S6 rv => ?_
                              have nD6 := open_ G6 nD5 ⟨_, hl5⟩
                              have hl6 : H6 D = some (.lst vs) := G6.keep _ _ hl5 hDd
                              have S6' : SR c F0 H0 F6 H6 σ ρ O g4 := S5'.next G6 S6.ex S6.hand
                              have rs6 : Reps c F6 acc vs := rs.mono ((P3.ex.trans G5.ex).trans G6.ex)
                              refine ⟨vs, hl6, ?_, F6, g4, acc ++ [y], vs ++ [v], ((e2.trans P3.ex).trans G5.ex).trans G6.ex, gr_mut ((G3.trans G5).trans G6) hD, S6'.mut (S1.gr.dom D hD) nD6 hDd fr, nD6, upd_same, rs6.append (.one rv), q2⟩
                              have := szB_ok hz
                              rw [rs6.len]
                              omega
                            · rw [if_neg hz] at q2
                              cases q2
                    | _ => simp only at q2; cases q2
          · have e : i = ds.length := by omega
            subst e
            rw [List.drop_length] at q2
            cases q2
            exact .inl ⟨ok.stops F2 H2 e2 S2.ex, p D vs F2 H2 (G1.trans G2) S2 (G1.dom D hD) nD hDd hl rs⟩
theorem lst_comp {own : List Nat} {it : SA} {f : ST} {cond elt : SE} : ∀ ρ g d g', eComp own it f cond elt ρ g = some (.ok d, g') → ∃ ds, d = .lst ds := fun ρ g d g' q => by
  unfold eComp at q
  split at q
  · split at q
    · cases q
      exact ⟨_, rfl⟩
    · cases q
  · cases q
  · cases q
theorem lst_disp {ar : SA} : ∀ ρ g d g', eArgs (pf fLst) ar ρ g = some (.ok d, g') → ∃ ds, d = .lst ds := fun ρ g d g' q => by
  unfold eArgs at q
  split at q
  · rename_i ds g1 _
    simp only [pf, fLst] at q
    by_cases z : szB ds.length = true
    · rw [if_pos z] at q
      cases q
      exact ⟨_, rfl⟩
    · rw [if_neg z] at q
      cases q
  · cases q
  · cases q
theorem lst_list {e : SE} : ∀ ρ g d g', eUn fList e ρ g = some (.ok d, g') → ∃ ds, d = .lst ds := fun ρ g d g' q => by
  unfold eUn at q
  rcases bE_some q with ⟨x, g1, q1, q2⟩ | ⟨n, f, _, q1⟩
  · cases x with
    | lst ds => cases q2; exact ⟨_, rfl⟩
    | tup ds => cases q2; exact ⟨_, rfl⟩
    | _ => cases q2
  · cases q1
/-! ### while -/
def whileGo (t : SE) (body : SS) : Nat → Env → G → Option (SOut × G)
  | 0, _, _ => none
  | n + 1, ρ, g => match t ρ g with
    | some (.ok (.bl true), g1) => (match body ρ g1 with
      | some (.nx ρ2, g2) => whileGo t body n ρ2 g2
      | some (.cnt ρ2, g2) => whileGo t body n ρ2 g2
      | some (.brk ρ2, g2) => some (.nx ρ2, g2)
      | some (.ret d, g2) => some (.ret d, g2)
      | some (.exc m fs ρ2, g2) => some (.exc m fs ρ2, g2)
      | none => none)
    | some (.ok (.bl false), g1) => some (.nx ρ, g1)
    | some (.exc m fs, g1) => some (.exc m fs ρ, g1)
    | _ => none
def sWhile (n : Nat) (t : SE) (body : SS) : SS := whileGo t body n
theorem snd_while {n : Nat} {t : SE} {tb : TS} {sb : SS} (ht : SndB c O W tt t) (hb : SndS c O O O W tb sb) : SndS c O O OL W (tWhile tt tb) (sWhile n t sb) := fun F0 H0 F H σ ρ g r g' S q D p => by
  refine ⟨fun m σ H => ∃ F2 ρ g, Ex F F2 ∧ SR c F0 H0 F2 H σ ρ O g ∧ whileGo t sb m ρ g = some (r, g'), ⟨n, F, ρ, g, .refl F, S, q⟩, ?_⟩
  rintro m σ2 H2 ⟨F2, ρ2, g2, e2, S2, q2⟩
  cases m with
  | zero => cases q2
  | succ m =>
    unfold whileGo at q2
    cases z : t ρ2 g2 with
    | none => rw [z] at q2; cases q2
    | some y =>
      obtain ⟨o, g3⟩ := y
      rw [z] at q2
      refine ht _ _ _ _ _ _ _ _ _ S2 z _ ?_
      cases o with
      | exc n fs =>
        cases q2
        exact postX_of S2 (SPost.gr e2 p)
      | ok d =>
        cases d with
        | bl bb =>
          intro F3 H3 G3 S3
          cases bb with
          | false =>
            cases q2
            rw [if_neg Bool.false_ne_true]
            exact p σ2 F3 H3 (e2.trans G3.ex) S3
          | true =>
            rw [if_pos rfl]
            refine ⟨fun σ' H' => ∃ F2 ρ g, Ex F F2 ∧ SR c F0 H0 F2 H' σ' ρ O g ∧ whileGo t sb m ρ g = some (r, g'), fun σ' H' hh => ⟨m, Nat.lt_succ_self m, hh⟩, ?_⟩
            cases z3 : sb ρ2 g3 with
            | none => simp only [z3] at q2; cases q2
            | some y3 =>
              obtain ⟨o3, g4⟩ := y3
              simp only [z3] at q2
              refine hb _ _ _ _ _ _ _ _ _ S3 z3 _ ?_
              cases o3 with
              | nx ρ5 => exact fun σ5 F5 H5 e5 S5 => ⟨F5, ρ5, g4, (e2.trans G3.ex).trans e5, S5, q2⟩
              | cnt ρ5 => exact fun σ5 F5 H5 e5 S5 => ⟨F5, ρ5, g4, (e2.trans G3.ex).trans e5, S5, q2⟩
              | brk ρ5 =>
                cases q2
                exact fun σ5 F5 H5 e5 S5 => p σ5 F5 H5 ((e2.trans G3.ex).trans e5) S5
              | ret d =>
                cases q2
                exact p
              | exc n fs ρ5 =>
                cases q2
                exact fun cls dd σ5 F5 H5 e5 S5 x => p cls dd σ5 F5 H5 ((e2.trans G3.ex).trans e5) S5 x
        | _ => cases q2
/-! ### x.append(e), x[i] = e of an owned list -/
def sApp (i : Nat) (e : SE) : SS := fun ρ g => match ρ[i]? with
  | some (some (.lst _)) => bV (e ρ g) ρ fun d g => (match ρ[i]? with
    | some (some (.lst ds)) => if szB (ds.length + 1) = true then some (.nx (ρ.set i (some (.lst (ds ++ [d])))), g) else none
    | _ => none)
  | _ => none
theorem SR.setMutO {i : Nat} {p : Addr} {d1 : MP.D} {o : HO} (S : SR c F0 H0 F H σ ρ O g) (hi : i ∈ O) {d0 : MP.D} (h : ρ[i]? = some (some d0)) (hv : σ[i]? = some (some (.ref p))) (rs : OwnO c F d1 o) :
    SR c F0 H0 F (upd H p o) σ (ρ.set i (some d1)) O g := by
  obtain ⟨v, h1, a, ws, h3, h4, h5, h6, h7, h8⟩ := S.own i d0 h hi
  have ea : a = p := by
    rw [h1] at hv
    have := Option.some.inj (Option.some.inj hv)
    rw [h3] at this
    cases this
    rfl
  subst ea
  have hl : i < ρ.length := by
    by_cases l : i < ρ.length
    · exact l
    · rw [List.getElem?_eq_none (by omega)] at h; cases h
  refine ⟨S.ex.mut h5, gr_mut S.gr h4, by rw [List.length_set]; exact S.len, fun j y k n => ?_, fun j y k m => ?_, fun j k y z hj hk ne k1 k2 => ?_, ?_, S.bs, S.pn⟩
  · have q : i ≠ j := fun e => n (e ▸ hi)
    rw [List.getElem?_set_ne q] at k
    exact S.val j y k n
  · by_cases q : i = j
    · subst q
      rw [List.getElem?_set_self hl] at k
      cases k
      exact ⟨_, hv, a, o, rfl, h4, h5, h6, upd_same, rs⟩
    · rw [List.getElem?_set_ne q] at k
      obtain ⟨w, k1, b, ws2, k3, k4, k5, k6, k7, k8⟩ := S.own j y k m
      have ne : b ≠ a := fun e => S.dis j i y d0 m hi (fun e => q e.symm) k h (by rw [k1, hv, k3, e])
      exact ⟨w, k1, b, ws2, k3, k4, k5, k6, by rw [upd_ne ne]; exact k7, k8⟩
  · have back : ∀ {j y}, (ρ.set i (some d1))[j]? = some (some y) → ∃ y', ρ[j]? = some (some y') := fun {j y} k => by
      by_cases q : i = j
      · subst q; exact ⟨d0, h⟩
      · rw [List.getElem?_set_ne q] at k; exact ⟨y, k⟩
    obtain ⟨y', k1⟩ := back k1
    obtain ⟨z', k2⟩ := back k2
    exact S.dis j k y' z' hj hk ne k1 k2
  · have z := S.hand
    unfold HandAt at z ⊢
    cases q : c.hd with
    | none => trivial
    | some b =>
      rw [q] at z
      obtain ⟨k1, us, k2, k3⟩ := z
      have ne : b ≠ a := fun e => h6 (by rw [q, e])
      exact ⟨k1, us, by rw [upd_ne ne]; exact k2, k3⟩
theorem SR.setMut {i : Nat} {p : Addr} {ds : List MP.D} {vs : List V} (S : SR c F0 H0 F H σ ρ O g) (hi : i ∈ O) {d0 : MP.D} (h : ρ[i]? = some (some d0)) (hv : σ[i]? = some (some (.ref p))) (rs : Reps c F ds vs) :
    SR c F0 H0 F (upd H p (.lst vs)) σ (ρ.set i (some (.lst ds))) O g := S.setMutO hi h hv (d1 := .lst ds) (o := .lst vs) rs
theorem snd_app {i : Nat} (hi : i ∈ O) (h : SndE c O W te e) : SndS c O O OL W (tDrop (tBM c.K "list" rAppend (tVar i) (tCons te tNil))) (sApp i e) := fun F0 H0 F H σ ρ g r g' S q D p => by
  unfold sApp at q
  split at q
  · rename_i ds hρ
    obtain ⟨v, h1, hw⟩ := S.own i _ hρ hi
    obtain ⟨a, vs, h3, h4, h5, h6, h7, h8⟩ := hw.lst
    subst h3
    refine ⟨.ref a, h1, .inl ⟨rfl, vs, SqL.of h7⟩, ?_⟩
    rcases bV_some q with ⟨d, g1, q1, q2⟩ | ⟨n, f, q1, rfl⟩
    · simp only [hρ] at q2
      by_cases hz : szB (ds.length + 1) = true
      · rw [if_pos hz] at q2
        cases q2
        refine h _ _ _ _ _ _ _ _ _ S q1 _ fun v1 F1 H1 G1 S1 rv => ?_
        have hl : H1 a = some (.lst vs) := G1.keep _ _ h7 h6
        refine ⟨a, vs, v1, rfl, rfl, hl, ?_, p σ F1 _ G1.ex (S1.setMut hi hρ h1 ((h8.mono G1.ex).append (.one rv)))⟩
        have := szB_ok hz
        rw [h8.len]
        omega
      · rw [if_neg hz] at q2
        cases q2
    · exact h _ _ _ _ _ _ _ _ _ S q1 _ (postX_of S p)
  · cases q
def sSetIx (i : Nat) (ix e : SE) : SS := fun ρ g => match ρ[i]? with
  | some (some (.lst ds)) => bV (e ρ g) ρ fun d g => bV (ix ρ g) ρ fun k g => (match k with
    | .int k => (match ixN ds.length k with
      | some j => some (.nx (ρ.set i (some (.lst (ds.set j d)))), g)
      | none => none)
    | _ => none)
  | _ => none
theorem snd_setix {i : Nat} {ix : SE} {ti : TE} (hi : i ∈ O) (hx : SndE c O W ti ix) (h : SndE c O W te e) : SndS c O O OL W (tAsg te (gSub (tVar i) ti rSetL)) (sSetIx i ix e) := fun F0 H0 F H σ ρ g r g' S q D p => by
  unfold sSetIx at q
  split at q
  · rename_i ds hρ
    rcases bV_some q with ⟨d, g1, q1, q2⟩ | ⟨n, f, q1, rfl⟩
    · refine h _ _ _ _ _ _ _ _ _ S q1 _ fun v1 F1 H1 G1 S1 rv => ?_
      obtain ⟨v, h1, hw⟩ := S1.own i _ hρ hi
      obtain ⟨a, vs, h3, h4, h5, h6, h7, h8⟩ := hw.lst
      subst h3
      refine ⟨.ref a, h1, ?_⟩
      rcases bV_some q2 with ⟨k, g2, q3, q4⟩ | ⟨n, f, q3, rfl⟩
      · refine hx _ _ _ _ _ _ _ _ _ S1 q3 _ fun v2 F2 H2 G2 S2 rv2 => ?_
        cases k with
        | int kk =>
          cases rv2
          simp only at q4
          cases z : ixN ds.length kk with
          | none => rw [z] at q4; cases q4
          | some j =>
            rw [z] at q4
            cases q4
            have hl : H2 a = some (.lst vs) := G2.keep _ _ h7 h6
            exact ⟨a, vs, kk, j, rfl, rfl, hl, by rw [h8.len]; exact z, p σ F2 _ (G1.ex.trans G2.ex) (S2.setMut hi hρ h1 ((h8.mono G2.ex).set (rv.mono G2.ex)))⟩
        | _ => cases q4
      · exact hx _ _ _ _ _ _ _ _ _ S1 q3 _ (postX_of S1 (SPost.gr G1.ex p))
    · exact h _ _ _ _ _ _ _ _ _ S q1 _ (postX_of S p)
  · cases q
end
/-! ### calls of own defs -/
def tCallD (sp : Sp) (dvs : List V) (E : St → XK) (t : TA) : TE := fun σ H Q => t σ H fun vs H1 => sp (vs ++ dvs) H1 Q (E σ)
section
variable {X : Cx} {CX : CXT} {k : Nat} {f C : Addr} {fd : FuncData} {ps : List Str} {sp : Sp} {E : St → XK} {x m : Str} {p pos apos : Pos} {e o : Expr} {es : List Expr} {ta : TE} {t : TA} {dvs : List V} {us0 : List Value}
theorem run_fnD {pins : List (Addr × Obj)} {σ : St} {H : Hp} {s : Shared} {Q : VK} {us : List Value} {vs : List V} (F : FnG X.prog X.w X.K X.mg X.base CX k f fd ps sp) (hr : RG k X.A) (hb : Binds X.K fd ps us0) (hd : Vals dvs us0) (hx : PassesAt CX X σ (E σ))
    (I : Inv X pins σ H s) (r : Vals vs us) (h : sp (vs ++ dvs) H Q (E σ)) : wpAny (model X.prog X.w) X.A (call (.ref f) us) (EP X pins σ Q) X.xe s := by
  have r2 : Vals (vs ++ dvs) (us ++ us0) := r.append hd
  have hl : (us ++ us0).length = ps.length := by
    rw [← r2.length]
    exact F.len _ _ _ _ h
  refine wpAny_call (codeAny_mono (F.run X.A X.stack s H ⟨us, []⟩ (us ++ us0) (vs ++ dvs) Q (E σ) hr I.env0 (hb s us I.kIn hl) r2 h) fun r s' hq => ?_)
  cases r with
  | error y => exact hx pins H s y s' I hq
  | ok fl =>
    cases fl with
    | ret u => exact I.after hq
    | next => exact hq.elim
    | brk => exact hq.elim
    | cont => exact hq.elim
theorem pe_callD (F : FnG X.prog X.w X.K X.mg X.base CX k f fd ps sp) (hr : RG k X.A) (hg : Gl X x) (hm : X.mg x = some (.ref f)) (hk : PySem.W.keepIn X.K (.ref f) = true) (hb : Binds X.K fd ps us0) (hd : Vals dvs us0) (hx : ∀ σ, PassesAt CX X σ (E σ))
    (ha : PA X (e :: es) t) (hdb : (x == ("__debug__" : Str)) = false := by decide) (he : starEach (e :: es) X.env = (false, eval e X.env) :: starEach es X.env := by rfl) (hpl : (backTo pos (starEach es X.env)).any (·.1) = false := by rfl) :
    PE X (.Call (.Name x p) (e :: es) [] pos) (tCallD sp dvs E t) := by
  refine ⟨fun pins s σ H Q I h => wpAny_Call_Name_kw (ld_glob I hg hm ?_ hdb)⟩
  refine PySem.W.callWith_K (h₀ := X.base) I.ok.mod.kin hk (thn (ha.run pos pins s σ H _ I h) fun us s1 y => ?_) he hpl
  obtain ⟨vs, H1, I1, r, q⟩ := y
  exact ⟨I1.kIn, run_fnD F hr hb hd (hx σ) I1 r q⟩
end
section
variable {c : Ct} {F0 H0 F H F' H' F1 : Hp} {σ : St} {ρ : Env} {O O1 O' OL : List Nat} {W : WX} {g g' : G} {te ta tb tc : TE} {e a b : SE}
def eCall (m : FM) (dd : List MP.D) (r : SA) : SE := eArgs (fun ds g => m (ds ++ dd) g) r
/-- the promise whatever the hand -/
abbrev ct (K : PySem.W.Frag) (ca : Str → Addr) (h : Option Addr) : Ct := ⟨⟨K, ca, h⟩, [], fun _ => none⟩
def specA (K : PySem.W.Frag) (ca : Str → Addr) (m : FM) : Sp := fun vs H Q E => ∃ h, specOf ⟨K, ca, h⟩ m vs H Q E
theorem snd_call {m : FM} {dd : List MP.D} {dvs : List V} {tr : TA} {ar : SA} {E : St → XK} (h : SndA c O W tr ar) (hd : ∀ F, Reps c F dd dvs) (hE : ∀ σ, E σ = fun cls d H => W cls d σ H) : SndE c O W (tCallD (specA c.K c.ca m) dvs E tr) (eCall m dd ar) := fun F0 H0 F H σ ρ g o g' S q Q p => by
  refine h.bind S q p fun ds g1 vs F1 H1 q1 G1 S1 rs => ?_
  refine ⟨c.hd, F1, ds ++ dd, g1, o, g', S1.ex, S1.hand, rs.append (hd F1), q1, ?_⟩
  cases o with
  | ok d => exact fun v F2 H2 G2 ex hh rv => p v F2 H2 (G1.trans G2) (S1.next G2 ex hh) rv
  | exc n fs =>
    intro cls dd F2 H2 G2 ex hh x
    rw [hE]
    exact p cls dd F2 H2 (G1.trans G2) (S1.next G2 ex hh) x
/-! ### a def by its body -/
def mkFn (nn np : Nat) (s : SS) : FM := fun ds g => if ds.length = np then (match s (ds.map some ++ List.replicate (nn - np) none) g with
  | some (.nx _, g) => some (.ok .non, g)
  | some (.ret d, g) => some (.ok d, g)
  | some (.exc n f _, g) => some (.exc n f, g)
  | _ => none) else none
theorem spec_len {c : Cb} {m : FM} {n : Nat} (h : ∀ ds g r, m ds g = some r → ds.length = n) : ∀ vs H Q E, specOf c m vs H Q E → vs.length = n := fun vs H Q E q => by
  obtain ⟨F, ds, g, r, g', _, _, rs, q, _⟩ := q
  rw [rs.len, h _ _ _ q]
theorem mkFn_len {nn np : Nat} {s : SS} : ∀ ds g r, mkFn nn np s ds g = some r → ds.length = np := fun ds g r q => by
  unfold mkFn at q
  by_cases z : ds.length = np
  · exact z
  · rw [if_neg z] at q
    cases q
theorem reps_start {c : Ct} (hx : c.fx = fun _ => none) (hpn : c.pin = []) {ds : List MP.D} {vs : List V} {N : List Str} {np : Nat} (h : Reps c F ds vs) (hn : ds.length = np) (ex : Ex F H) (hh : HandAt c F H g) : SR c F H F H (L2.start N vs) (ds.map some ++ List.replicate (N.length - np) none) [] g where
  ex := ex
  gr := Gr.refl ..
  len := by simp [L2.start, h.len, hn]
  val := fun i d k _ => by
    unfold L2.start
    by_cases l : i < ds.length
    · rw [List.getElem?_append_left (by simpa using l)] at k
      rw [List.getElem?_append_left (by simpa [h.len] using l)]
      rw [List.getElem?_map] at k
      cases z : ds[i]? with
      | none => rw [z] at k; cases k
      | some y =>
        rw [z] at k
        cases k
        obtain ⟨v, k1, k2⟩ := h.get z
        exact ⟨v, by rw [List.getElem?_map, k1]; rfl, k2⟩
    · rw [List.getElem?_append_right (by simpa using l)] at k
      have := List.mem_of_getElem? k
      rw [List.mem_replicate] at this
      exact absurd this.2 (Option.some_ne_none d)
  own := fun i d _ m => by cases m
  dis := fun i j d e m => by cases m
  hand := hh
  bs := by rw [hx]; intro a o e; cases e
  pn := by rw [hpn]; intro i v m; cases m
/-- the body's meaning answers the def's promise -/
theorem body_ok {c : Ct} (hx : c.fx = fun _ => none) (hpn : c.pin = []) {N : List Str} {np : Nat} {ts : TS} {s : SS} {vs : List V} {Q : VK} {E : XK} (h : SndS c [] O' OL (fun cls d _ H => E cls d H) ts s) (q : specOf c (mkFn N.length np s) vs H Q E) : ts { nx := fun _ H' => Q .non H', rt := Q } (L2.start N vs) H := by
  obtain ⟨F, ds, g, r, g', ex, hh, rs, q, p⟩ := q
  have hn := mkFn_len _ _ _ q
  unfold mkFn at q
  rw [if_pos hn] at q
  cases z : s (ds.map some ++ List.replicate (N.length - np) none) g with
  | none => rw [z] at q; cases q
  | some y =>
    obtain ⟨o, g1⟩ := y
    rw [z] at q
    refine h _ _ _ _ _ _ _ _ _ (reps_start hx hpn rs hn ex hh) z _ ?_
    cases o with
    | nx ρ =>
      cases q
      exact fun σ' F1 H1 e1 S1 => p .non F1 H1 S1.gr S1.ex S1.hand rfl
    | ret d =>
      cases q
      exact fun v F1 H1 G1 ex hh rv => p v F1 H1 G1 ex hh rv
    | exc n fs ρ =>
      cases q
      exact fun cls dd σ F1 H1 _ S1 x => p cls dd F1 H1 S1.gr S1.ex S1.hand x
    | brk ρ => cases q
    | cnt ρ => cases q
end
section
variable {P : Program} {w : World} {K : PySem.W.Frag} {mg : Str → Option Value} {base : Heap} {x qual : Str} {params : Arguments} {body : List Stmt} {scope : Scope} {dvs : List V} {kws : List (Str × V)} {f : Addr} {fd : FuncData}
theorem fn_ok {ca : Str → Addr} {N ps : List Str} {k : Nat} {s : SS} (F : FunD K x qual params body scope dvs kws f fd) (S : FnScope N ps scope)
    (hb : ∀ (h : Option Addr) (cdv : Value) (A : Around) (outer : List PySem.Env) (st : Shared) (H : Hp) (E : XK), RG k (A.deeper (PyProof.Rows.envOfC qual scope st.heap.objs.size f cdv)) → ∃ ts O' OL, PSs (cxOf (L2.CX P w) P w K mg base N qual scope f cdv A outer st H E) body ts ∧ SndS (ct K ca h) [] O' OL (fun cls d _ H => E cls d H) ts s) :
    FnG P w K mg base (L2.CX P w) (k + 1) f fd ps (specA K ca (mkFn N.length ps.length s)) :=
  funD_okG F S (fun vs H Q E ⟨_, q⟩ => spec_len mkFn_len vs H Q E q) fun cdv A outer st H vs Q E hr ⟨h, q⟩ => by
    obtain ⟨ts, O', OL, h1, h2⟩ := hb h cdv A outer st H E hr
    exact ⟨ts, h1, body_ok rfl rfl h2 q⟩
/-- a def that is known to do what m says -/
theorem fn_as {ca : Str → Addr} {ps : List Str} {k : Nat} {CX : CXT} {m m' : FM} (F : FnG P w K mg base CX k f fd ps (specA K ca m)) (h : ∀ ds g r, m' ds g = some r → m ds g = some r) : FnG P w K mg base CX k f fd ps (specA K ca m') :=
  F.imp fun vs H Q E ⟨hd, q⟩ => by
    obtain ⟨F, ds, g, r, g', ex, hh, rs, q, p⟩ := q
    exact ⟨hd, F, ds, g, r, g', ex, hh, rs, h _ _ _ q, p⟩
end
end MP

set_option maxRecDepth 100000
set_option maxHeartbeats 1000000
namespace MP
open PySem L2
open Evl (Ex ex_rd ex_l ex_t)
section
variable {c : Ct} {F0 H0 F H F' H' F1 : Hp} {σ : St} {ρ : Env} {O O1 O2 O' OL : List Nat} {W : WX} {g g' : G} {te ta tb tc : TE} {tt tu : TT} {e a b e1 e2 : SE} {ts ts1 ts2 : TS} {s s1 s2 : SS}
def subB (A B : List Nat) : Bool := A.all fun i => B.contains i
theorem subB_ok {A B : List Nat} (h : subB A B = true) : ∀ i, i ∈ A → i ∈ B := fun i hi => by
  have := List.all_eq_true.mp h i hi
  simpa using this
theorem snd_lessB (O1 : List Nat) (h : SndS c O1 O' OL W ts s) (k : subB O1 O = true := by rfl) : SndS c O O' OL W ts s := snd_less h (subB_ok k)
theorem snd_moreB (O1 : List Nat) (h : SndS c O O1 OL W ts s) (k : subB O' O1 = true := by rfl) : SndS c O O' OL W ts s := snd_more h (subB_ok k)
theorem snd_brkB (k : subB OL O = true := by rfl) : SndS c O O' OL W tBreak sBrk := snd_brk (subB_ok k)
theorem snd_cntB (k : subB OL O = true := by rfl) : SndS c O O' OL W tCont sCnt := snd_cnt (subB_ok k)
/-! a < b < c -/
def eChain (f h : MP.D → MP.D → Option MP.D) (a b d : SE) : SE := fun ρ g => bE (a ρ g) fun x g => bE (b ρ g) fun y g => match f x y with
  | some (.bl true) => bE (d ρ g) fun z g => (match h y z with
    | some u => some (.ok u, g)
    | none => none)
  | some (.bl false) => some (.ok (.bl false), g)
  | _ => none
theorem snd_chain {r r' : R2} {f h : MP.D → MP.D → Option MP.D} {d : SE} (ha : SndE c O W ta a) (hb : SndE c O W tb b) (hd : SndE c O W tc d) (hr : RV c r f) (hr' : RV c r' h) : SndE c O W (tChain r r' ta tb tc) (eChain f h a b d) := fun F0 H0 F H σ ρ g ro g' S q Q p => by
  refine ha.bind S q p fun x g1 vx F1 H1 q1 G1 S1 rx => ?_
  refine hb.bind S1 q1 (p.gr G1) fun y g2 vy F2 H2 q2 G2 S2 ry => ?_
  cases z : f x y with
  | none => simp only [z] at q2; cases q2
  | some u =>
    simp only [z] at q2
    refine hr F2 H2 x y u vx vy S2.ex z (rx.mono G2.ex) ry _ fun v F3 H3 P rv => ?_
    cases u with
    | bl k =>
      cases rv
      refine ⟨k, rfl, ?_⟩
      have G3 := (G1.trans G2).trans P.gr
      cases k with
      | true =>
        rw [if_pos rfl]
        refine hd.bind (S2.pure P) q2 (p.gr G3) fun w g3 vw F4 H4 q3 G4 S4 rw_ => ?_
        cases z2 : h y w with
        | none => simp only [z2] at q3; cases q3
        | some u2 =>
          simp only [z2] at q3
          cases q3
          exact hr' F4 H4 y w u2 vy vw S4.ex z2 ((ry.mono P.ex).mono G4.ex) rw_ Q fun v F5 H5 P5 rv => p v F5 H5 ((G3.trans G4).trans P5.gr) (S4.pure P5) rv
      | false =>
        rw [if_neg Bool.false_ne_true]
        cases q2
        exact p _ F3 H3 G3 (S2.pure P) rfl
    | _ => simp only at q2; cases q2
/-! x = y = e -/
def sAsg2 (i j : Nat) (e : SE) : SS := fun ρ g => bV (e ρ g) ρ fun d g => some (.nx ((ρ.set i (some d)).set j (some d)), g)
theorem snd_asg2 {i j : Nat} (h : SndE c O W te e) (hpi : c.np i = true := by rfl) (hpj : c.np j = true := by rfl) : SndS c O ((O.filter (· != i)).filter (· != j)) OL W (tAsg2 te (gName i) (gName j)) (sAsg2 i j e) := fun F0 H0 F H σ ρ g r g' S q D p => by
  unfold sAsg2 at q
  rcases bV_some q with ⟨d, g1, q1, q2⟩ | ⟨n, fs, q1, rfl⟩
  · cases q2
    exact h _ _ _ _ _ _ _ _ _ S q1 _ fun v F1 H1 G1 S1 rv => p _ F1 H1 G1.ex ((S1.set (d := fun _ => True) rv hpi).set (d := fun _ => True) rv hpj)
  · exact h _ _ _ _ _ _ _ _ _ S q1 _ (postX_of S p)
/-! x -= e, x += e of whole numbers -/
def sAug (i : Nat) (f : Int → Int → Int) (e : SE) : SS := fun ρ g => match ρ[i]? with
  | some (some (.int x)) => bV (e ρ g) ρ fun d g => (match d with
    | .int y => some (.nx (ρ.set i (some (.int (f x y)))), g)
    | _ => none)
  | _ => none
theorem snd_aug {i : Nat} {f : Int → Int → Int} (hi : i ∉ O) (h : SndE c O W te e) (hpi : c.np i = true := by rfl) : SndS c O (O.filter (· != i)) OL W (tAug i te (fun x y H Q => ∃ a b, x = .int a ∧ y = .int b ∧ Q (.int (f a b)) H)) (sAug i f e) := fun F0 H0 F H σ ρ g r g' S q D p => by
  unfold sAug at q
  split at q
  · rename_i x hρ
    obtain ⟨v, h1, h2⟩ := S.val i _ hρ hi
    cases h2
    refine ⟨_, h1, ?_⟩
    rcases bV_some q with ⟨d, g1, q1, q2⟩ | ⟨n, fs, q1, rfl⟩
    · refine h _ _ _ _ _ _ _ _ _ S q1 _ fun v F1 H1 G1 S1 rv => ?_
      cases d with
      | int y =>
        cases rv
        cases q2
        exact ⟨x, y, rfl, rfl, p _ F1 H1 G1.ex (S1.set (d := fun _ => True) (x := .int (f x y)) rfl hpi)⟩
      | _ => cases q2
    · exact h _ _ _ _ _ _ _ _ _ S q1 _ (postX_of S p)
  · cases q
/-! the hand -/
def eHix (i : Nat) (k : Int) : SE := fun ρ g => match ρ[i]? with
  | some (some .hand) => (match atI g k with
    | some d => some (.ok d, g)
    | none => none)
  | _ => none
theorem hand_at {hdp : Addr} (S : SR c F0 H0 F H σ ρ O g) (h : c.hd = some hdp) : F hdp = none ∧ ∃ vs, H hdp = some (.lst vs) ∧ Reps c F g vs := by
  have z := S.hand
  unfold HandAt at z
  rw [h] at z
  exact z
theorem snd_hix {i : Nat} {k : Int} (hi : i ∉ O) : SndE c O W (tOp (rIx c.K) (tVar i) (tC (.int k))) (eHix i k) := fun F0 H0 F H σ ρ g r g' S q Q p => by
  unfold eHix at q
  split at q
  · rename_i hρ
    obtain ⟨v, h1, b, h2, h3⟩ := S.val i _ hρ hi
    obtain ⟨_, vs, h4, h5⟩ := hand_at S h2
    cases z : atI g k with
    | none => rw [z] at q; cases q
    | some d =>
      rw [z] at q
      cases q
      obtain ⟨w, k1, k2⟩ := atI_reps h5 z
      exact ⟨v, h1, .inl ⟨b, vs, k, w, h3, rfl, SqL.of h4, k1, p w F H (Gr.refl ..) S k2⟩⟩
  · cases q
def sHset (i : Nat) (k : Int) (e : SE) : SS := fun ρ g => match ρ[i]? with
  | some (some .hand) => bV (e ρ g) ρ fun d g => (match ixN g.length k with
    | some j => some (.nx ρ, g.set j d)
    | none => none)
  | _ => none
theorem snd_hset {i : Nat} {k : Int} (hi : i ∉ O) (h : SndE c O W te e) : SndS c O O OL W (tAsg te (gSub (tVar i) (tC (.int k)) rSetL)) (sHset i k e) := fun F0 H0 F H σ ρ g r g' S q D p => by
  unfold sHset at q
  split at q
  · rename_i hρ
    rcases bV_some q with ⟨d, g1, q1, q2⟩ | ⟨n, f, q1, rfl⟩
    · refine h _ _ _ _ _ _ _ _ _ S q1 _ fun v1 F1 H1 G1 S1 rv => ?_
      obtain ⟨v, h1, b, h2, h3⟩ := S1.val i _ hρ hi
      obtain ⟨nF, vs, h4, h5⟩ := hand_at S1 h2
      cases z : ixN g1.length k with
      | none => rw [z] at q2; cases q2
      | some j =>
        rw [z] at q2
        cases q2
        refine ⟨v, h1, b, vs, k, j, h3, rfl, h4, by rw [h5.len]; exact z, p σ F1 _ G1.ex ?_⟩
        refine ⟨S1.ex.mut nF, ⟨S1.gr.ex, fun x o e ne => ?_, S1.gr.new, fun x e => ?_⟩, S1.len, S1.val, fun i d k m => ?_, S1.dis, ?_, S1.bs, S1.pn⟩
        · have ne' : x ≠ b := fun q => ne (by rw [h2, q])
          rw [upd_ne ne']
          exact S1.gr.keep x o e ne
        · by_cases q : x = b
          · subst q; rw [upd_same] at e; cases e
          · rw [upd_ne q] at e; exact S1.gr.dom x e
        · obtain ⟨w, k1, b2, vs2, k3, k4, k5, k6, k7, k8⟩ := S1.own i d k m
          have ne : b2 ≠ b := fun q => k6 (by rw [h2, q])
          exact ⟨w, k1, b2, vs2, k3, k4, k5, k6, by rw [upd_ne ne]; exact k7, k8⟩
        · unfold HandAt
          rw [h2]
          exact ⟨nF, _, upd_same, h5.set rv⟩
    · exact h _ _ _ _ _ _ _ _ _ S q1 _ (postX_of S p)
  · cases q
end
theorem pt_truthX {X : Cx} {a : Expr} {ta : TE} (ha : PE X a ta) (he : ∀ whole, isTrue a X.env whole = (do let v ← whole; standAt a.pos; holding [v] (truthy v)) := by intro _; rfl) : PT X a (tTru X.K ta) := pt_truth ha he
theorem passB {X : Cx} (σ : St) : PassesAt (L2.CX X.prog X.w) X σ (WE W0 σ) := fun _ _ _ _ _ _ h => by
  obtain ⟨_, _, _, _, _, _, _, _, _, _, _, _, z⟩ := h
  exact z.elim
/-! ### what is around a program's defs -/
structure Pk (fa : List He.Fa) (fn : List He.DefD) (K : PySem.W.Frag) (mg : Str → Option Value) : Prop where
  says : He.SaysD fa fn K
  mod : ∃ h : Heap, K.In h ∧ h.Ns mainGlobals mg
section
variable {fa : List He.Fa} {fn : List He.DefD} {K : PySem.W.Frag} {mg : Str → Option Value}
theorem Pk.glo (Z : Pk fa fn K mg) (i : Nat) {x : Str} (h : fa[i]? = some (.glo x) := by rfl) : mg x = some (.ref (He.ga K x)) := by
  obtain ⟨h0, X, G⟩ := Z.mod
  exact He.glo_ok X G (Z.says.fact i h)
theorem Pk.free (Z : Pk fa fn K mg) (i : Nat) {x : Str} (h : fa[i]? = some (.free x) := by rfl) : mg x = none := by
  obtain ⟨h0, X, G⟩ := Z.mod
  exact He.free_ok X G (Z.says.fact i h)
end
/-- the def x of the text does what m says; called with the arguments ps, or with the last ones left out (their values: dvs) -/
def Good (P : Program) (w : World) (K : PySem.W.Frag) (mg : Str → Option Value) (base : Heap) (ca : Str → Addr) (x : Str) (ps : List Str) (k : Nat) (m : FM) : Prop :=
  ∃ fd, FnG P w K mg base (L2.CX P w) k (He.ga K x) fd ps (specA K ca m) ∧ Binds K fd ps [] ∧ PySem.W.keepIn K (.ref (He.ga K x)) = true ∧ mg x = some (.ref (He.ga K x))
theorem Good.as {P : Program} {w : World} {K : PySem.W.Frag} {mg : Str → Option Value} {base : Heap} {ca : Str → Addr} {x : Str} {ps : List Str} {k : Nat} {m m' : FM} (h : Good P w K mg base ca x ps k m) (e : ∀ ds g r, m' ds g = some r → m ds g = some r) : Good P w K mg base ca x ps k m' := by
  obtain ⟨fd, a, b⟩ := h
  exact ⟨fd, fn_as a e, b⟩
end MP

set_option maxRecDepth 100000
set_option maxHeartbeats 1000000
namespace MP
open PySem L2
open Evl (Ex ex_rd ex_l ex_t)
/-! ### the hand that a law draws from -/
def hTot (t : Int) (ns : List Int) : Int := ns.foldl (fun t x => (t * 2003 + x) % 2147483563) t
def hCells (ns : List Int) : List Int := ns.map fun x => if x < 0 then -x else x
def hand0 (ns : List Int) : G := [.lst ((hCells ns).map .int), .int 0, .int 0, .int (hTot ((ns.length : Int) + 43) ns)]
def spHand (K : PySem.W.Frag) : Sp := fun vs H Q _ => ∃ (a : Addr) (ns : List Int), vs = [.ref a] ∧ SqL K H a (ns.map V.int) ∧ ns.length ≤ 63 ∧
  ∀ p cl H', H p = none → p ≠ cl → (∀ b o, H b = some o → H' b = some o) → H' cl = some (.lst ((hCells ns).map V.int)) → H' p = some (.lst [.ref cl, .int 0, .int 0, .int (hTot ((ns.length : Int) + 43) ns)]) → Q (.ref p) H'
theorem hTot_bd (t : Int) (ns : List Int) (h : t.natAbs < 2147483700) : (hTot t ns).natAbs < 2147483700 := by
  induction ns generalizing t with
  | nil => exact h
  | cons x r ih =>
    refine ih _ ?_
    show ((t * 2003 + x) % 2147483563).natAbs < 2147483700
    have h1 := Int.emod_nonneg (t * 2003 + x) (show (2147483563 : Int) ≠ 0 by decide)
    have h2 := Int.emod_lt_of_pos (t * 2003 + x) (show (0 : Int) < 2147483563 by decide)
    omega
theorem hTot_app (t : Int) (ns : List Int) (x : Int) : hTot t (ns ++ [x]) = (hTot t ns * 2003 + x) % 2147483563 := by
  unfold hTot
  rw [List.foldl_append]
  rfl
/-- what the hand's def does, by its reading -/
theorem hand_reads {K : PySem.W.Frag} {vs : List V} {H : Hp} {Q : VK} {E : XK} (h : spHand K vs H Q E) :
    tSeq (tAsg (tOp (rI0 fun i j => .int (i + j)) (tCB (rLenX K) (tCons (tVar 0) tNil)) (tC (.int 43))) (gName 1))
      (tSeq (tAsg (tLst tNil) (gName 2))
      (tSeq (tFor (iList K (tVar 0)) (gName 3)
        (tSeq (tAsg (tOp (rI (fun _ j => 0 < j) fun i j => .int (i % j)) (tCB rIntX (tCons (tOp (rI0 fun i j => .int (i + j)) (tOp (rI CMulX fun i j => .int (i * j)) (tVar 1) (tC (.int 2003))) (tCB rIntX (tCons (tVar 3) tNil))) tNil)) (tC (.int 2147483563))) (gName 1))
          (tDrop (tBM K "list" rAppend (tVar 2) (tCons (tCB rAbsX (tCons (tCB rIntX (tCons (tVar 3) tNil)) tNil)) tNil)))))
      (tRet (tLst (tCons (tVar 2) (tCons (tC (.int 0)) (tCons (tC (.int 0)) (tCons (tVar 1) tNil)))))))) { nx := fun _ H' => Q .non H', rt := Q } (vs.map some ++ [none, none, none]) H := by
  obtain ⟨a, ns, rfl, hS, hl, k⟩ := h
  refine ⟨_, rfl, a, ns.map V.int, rfl, .inl hS, _, _, rfl, rfl, Nat.zero_le _, fun cl hcl => ?_⟩
  have s1 : Same H (upd H cl (.lst [])) := fun b o e => by
    rw [upd_ne (ne_of_none e hcl)]
    exact e
  refine ⟨_, rfl, a, rfl, ⟨_, s1.seq hS⟩, for_list (K := K) (a := a) (xs := ns.map V.int) (fun i σ H' => ∃ v3, σ = [some (.ref a), some (.int (hTot ((ns.length : Int) + 43) (ns.take i))), some (.ref cl), v3] ∧ Same H H' ∧ H' cl = some (.lst ((hCells (ns.take i)).map V.int)))
    ⟨none, by simp [hTot], s1, by simp [hCells, upd_same]⟩ (fun i σ H' _ ⟨_, _, s, _⟩ => s.seq hS) ?_ ?_⟩
  · rintro i y σ H' hi ⟨v3, rfl, s, hc⟩
    rw [List.getElem?_map] at hi
    cases z : ns[i]? with
    | none => rw [z] at hi; cases hi
    | some x =>
      rw [z] at hi
      have ey : V.int x = y := Option.some.inj hi
      subst ey
      have hlt : i < ns.length := by
        by_cases q : i < ns.length
        · exact q
        · rw [List.getElem?_eq_none (by omega)] at z; cases z
      have et : ns.take (i + 1) = ns.take i ++ [x] := by
        rw [List.take_add_one, z]
        rfl
      have bd := hTot_bd ((ns.length : Int) + 43) (ns.take i) (by omega)
      refine ⟨_, rfl, _, _, rfl, rfl, cMul_ok (by unfold cMul; simp only [Bool.or_eq_true]; left; left; exact lt64_of (by omega)), _, rfl, .inl ⟨_, rfl, _, _, rfl, rfl, .inl ⟨_, rfl, _, _, rfl, rfl, (show (0 : Int) < 2147483563 by decide), ?_⟩⟩⟩
      refine ⟨_, rfl, .inl ⟨rfl, _, SqL.of hc⟩, _, rfl, .inl ⟨_, rfl, _, rfl, cl, _, _, rfl, rfl, hc, ?_, ?_⟩⟩
      · rw [List.length_map]
        unfold hCells
        rw [List.length_map, List.length_take]
        exact Nat.lt_of_le_of_lt (Nat.min_le_left _ _) (small1000 (by omega))
      · refine ⟨some (.int x), ?_, fun b o e => ?_, ?_⟩
        · rw [et, hTot_app]
          rfl
        · rw [upd_ne (ne_of_none e hcl)]
          exact s b o e
        · rw [upd_same, et]
          unfold hCells
          rw [List.map_append, List.map_append]
          rfl
  · rintro σ H' ⟨v3, rfl, s, hc⟩
    have e : ns.take (ns.map V.int).length = ns := List.take_of_length_le (by rw [List.length_map]; exact Nat.le_refl _)
    rw [e] at hc ⊢
    refine ⟨_, rfl, _, rfl, (by show 4 ≤ sizeLine; decide), fun p hp => ?_⟩
    have np : p ≠ cl := fun q => by rw [q, hc] at hp; cases hp
    exact k p cl _ (s.free hp) np (fun b o q => by rw [upd_ne (ne_of_none (s b o q) hp)]; exact s b o q) (by rw [upd_ne (Ne.symm np)]; exact hc) upd_same
/-- what follows the hand's making, by its meaning -/
theorem law_rest {K : PySem.W.Frag} {ca : Str → Addr} {O' OL : List Nat} {ts : TS} {s : SS} {Q : VK} {H : Hp} {p cl : Addr} {ns : List Int} {σ : St} {n i : Nat} {g' : G} (h : SndS (ct K ca (some p)) [] O' OL W0 ts s) (hn : σ.length = n) (hi : σ[i]? = some (some (.ref p)))
    (np : p ≠ cl) (hc : H cl = some (.lst ((hCells ns).map V.int))) (hp : H p = some (.lst [.ref cl, .int 0, .int 0, .int (hTot ((ns.length : Int) + 43) ns)])) (q : s ((List.replicate n none).set i (some .hand)) (hand0 ns) = some (.ret (.bl true), g')) (k : ∀ H', Q (.bl true) H') :
    ts { nx := fun _ H' => Q .non H', rt := Q } σ H := by
  have hF : ∀ a o, upd (fun _ => none) cl (HO.lst ((hCells ns).map V.int)) a = some o → H a = some o := fun a o e => by
    by_cases z : a = cl
    · subst z
      rw [upd_same] at e
      rw [hc]
      exact e
    · rw [upd_ne z] at e
      cases e
  have nF : upd (fun _ => none) cl (HO.lst ((hCells ns).map V.int)) p = none := by rw [upd_ne np]
  have rc : ∀ l : List Int, Reps ⟨K, ca, some p⟩ (upd (fun _ => none) cl (HO.lst ((hCells ns).map V.int))) (l.map MP.D.int) (l.map V.int) := fun l => by
    induction l with
    | nil => rfl
    | cons x r ih => exact ⟨_, _, rfl, rfl, ih⟩
  refine h (upd (fun _ => none) cl (.lst ((hCells ns).map V.int))) H (upd (fun _ => none) cl (.lst ((hCells ns).map V.int))) H σ _ _ _ _ ⟨hF, Gr.refl .., by rw [List.length_set, List.length_replicate]; exact hn, fun j d e _ => ?_, fun j d e m => (by cases m), fun j _ _ _ m => (by cases m), ?_, (by intro a o e; cases e), (by intro i v m; cases m)⟩ q _ ?_
  · by_cases z : i = j
    · subst z
      have hl : i < n := by
        by_cases l : i < n
        · exact l
        · rw [List.getElem?_eq_none (by omega)] at hi; cases hi
      rw [List.getElem?_set_self (by rw [List.length_replicate]; exact hl)] at e
      cases e
      exact ⟨_, hi, p, rfl, rfl⟩
    · rw [List.getElem?_set_ne z] at e
      have := List.mem_of_getElem? e
      rw [List.mem_replicate] at this
      exact absurd this.2 (Option.some_ne_none d)
  · refine ⟨nF, _, hp, _, _, rfl, ⟨cl, _, rfl, upd_same, rc _⟩, _, _, rfl, rfl, _, _, rfl, rfl, _, _, rfl, rfl, rfl⟩
  · intro v F' H' G ex hh rv
    cases rv
    exact k H'
end MP

set_option maxRecDepth 100000
set_option maxHeartbeats 1000000
namespace MP
open PySem L2
open Evl (Ex ex_rd ex_l ex_t)
/-! ### meanings reckoned -/
theorem forGo_inv {f : ST} {body : SS} {ds : List D} (I : Nat → Env → G → Prop) {ρ : Env} {g : G} (h0 : I 0 ρ g)
    (hs : ∀ i ρ g d, ds[i]? = some d → I i ρ g → ∃ ρ1, f d ρ = some ρ1 ∧ ∃ ρ2 g2, (body ρ1 g = some (.nx ρ2, g2) ∨ body ρ1 g = some (.cnt ρ2, g2)) ∧ I (i + 1) ρ2 g2) :
    ∃ ρ' g', forGo f body ds ρ g = some (.nx ρ', g') ∧ I ds.length ρ' g' := by
  have key : ∀ (n i : Nat) ρ g, ds.length - i = n → i ≤ ds.length → I i ρ g → ∃ ρ' g', forGo f body (ds.drop i) ρ g = some (.nx ρ', g') ∧ I ds.length ρ' g' := by
    intro n
    induction n with
    | zero =>
      intro i ρ g hn hi h
      have e : i = ds.length := by omega
      subst e
      rw [List.drop_length]
      exact ⟨ρ, g, rfl, h⟩
    | succ n ih =>
      intro i ρ g hn hi h
      have hlt : i < ds.length := by omega
      obtain ⟨ρ1, e1, ρ2, g2, e2, h2⟩ := hs i ρ g ds[i] (by simp [hlt]) h
      obtain ⟨ρ', g', e3, h3⟩ := ih (i + 1) ρ2 g2 (by omega) (by omega) h2
      refine ⟨ρ', g', ?_, h3⟩
      rw [List.drop_eq_getElem_cons hlt]
      unfold forGo
      simp only [e1]
      rcases e2 with e2 | e2 <;> simp only [e2] <;> exact e3
  have := key ds.length 0 ρ g (by omega) (by omega) h0
  rwa [List.drop_zero] at this
theorem rng_len (lo : Int) (n : Nat) : (rng lo n).length = n := by simp [rng]
theorem rng_at {lo : Int} {n i : Nat} {d : D} (h : (rng lo n)[i]? = some d) : i < n ∧ d = .int (lo + (i : Nat)) := by
  refine ⟨?_, rng_get h⟩
  have h2 : i < (rng lo n).length := by
    by_cases q : i < (rng lo n).length
    · exact q
    · rw [List.getElem?_eq_none (by omega)] at h; cases h
  rwa [rng_len] at h2
/-- a comprehension without draws: each element by a function -/
theorem compGo_map {f : ST} {elt : SE} {ρ : Env} {g : G} (F : D → D) : ∀ (ds acc : List D), (∀ d ∈ ds, ∃ ρ1, f d ρ = some ρ1 ∧ elt ρ1 g = some (.ok (F d), g)) → acc.length + ds.length < 2 ^ 20 → compGo f eYes elt ρ ds g acc = some (acc ++ ds.map F, g)
  | [], acc, _, _ => by simp [compGo]
  | d :: ds, acc, h, hl => by
    obtain ⟨ρ1, e1, e2⟩ := h d List.mem_cons_self
    rw [List.length_cons] at hl
    unfold compGo
    simp only [e1, eYes, e2]
    rw [if_pos (szB_of (by omega))]
    rw [compGo_map F ds (acc ++ [F d]) (fun x hx => h x (List.mem_cons_of_mem _ hx)) (by rw [List.length_append, List.length_singleton]; omega)]
    simp
/-! ### step by step -/
def fin (x : Option (SOut × G)) : R := match x with
  | some (.nx _, g) => some (.ok .non, g)
  | some (.ret d, g) => some (.ok d, g)
  | some (.exc n f _, g) => some (.exc n f, g)
  | _ => none
theorem mkFn_eq {nn np : Nat} {s : SS} {ds : List D} {g : G} (h : ds.length = np) : mkFn nn np s ds g = fin (s (ds.map some ++ List.replicate (nn - np) none) g) := by
  unfold mkFn
  rw [if_pos h]
  rfl
theorem sSeq_nx {s1 s2 : SS} {ρ ρ1 : Env} {g g1 : G} (h : s1 ρ g = some (.nx ρ1, g1)) : sSeq s1 s2 ρ g = s2 ρ1 g1 := by
  unfold sSeq
  rw [h]
  rfl
theorem sSeq_ret {s1 s2 : SS} {ρ : Env} {d : D} {g g1 : G} (h : s1 ρ g = some (.ret d, g1)) : sSeq s1 s2 ρ g = some (.ret d, g1) := by
  unfold sSeq
  rw [h]
  rfl
theorem sSeq_exc {s1 s2 : SS} {ρ ρ1 : Env} {n : Str} {fs : List (Str × D)} {g g1 : G} (h : s1 ρ g = some (.exc n fs ρ1, g1)) : sSeq s1 s2 ρ g = some (.exc n fs ρ1, g1) := by
  unfold sSeq
  rw [h]
  rfl
theorem sSet_ok {i : Nat} {e : SE} {ρ : Env} {d : D} {g g1 : G} (h : e ρ g = some (.ok d, g1)) : sSet i e ρ g = some (.nx (ρ.set i (some d)), g1) := by
  unfold sSet
  rw [h]
  rfl
theorem sRet_ok {e : SE} {ρ : Env} {d : D} {g g1 : G} (h : e ρ g = some (.ok d, g1)) : sRet e ρ g = some (.ret d, g1) := by
  unfold sRet
  rw [h]
  rfl
theorem sIf_T {t : SE} {s1 s2 : SS} {ρ : Env} {g g1 : G} (h : t ρ g = some (.ok (.bl true), g1)) : sIf t s1 s2 ρ g = s1 ρ g1 := by
  unfold sIf
  rw [h]
theorem sIf_F {t : SE} {s1 s2 : SS} {ρ : Env} {g g1 : G} (h : t ρ g = some (.ok (.bl false), g1)) : sIf t s1 s2 ρ g = s2 ρ g1 := by
  unfold sIf
  rw [h]
theorem eIf_T {t a b : SE} {ρ : Env} {g g1 : G} (h : t ρ g = some (.ok (.bl true), g1)) : eIf t a b ρ g = a ρ g1 := by
  unfold eIf
  rw [h]
theorem eIf_F {t a b : SE} {ρ : Env} {g g1 : G} (h : t ρ g = some (.ok (.bl false), g1)) : eIf t a b ρ g = b ρ g1 := by
  unfold eIf
  rw [h]
theorem sFor_run {it : SA} {f : ST} {body : SS} {ds : List D} {ρ : Env} {g g1 : G} {r : Option (SOut × G)} (h : it ρ g = some (.ok ds, g1)) (e : forGo f body ds ρ g1 = r) : sFor it f body ρ g = r := by
  unfold sFor
  rw [h]
  exact e
theorem aVia_ok {f : List D → Option (List D)} {ar : SA} {ρ : Env} {g g1 : G} {ds xs : List D} (h : ar ρ g = some (.ok ds, g1)) (k : f ds = some xs) : aVia f ar ρ g = some (.ok xs, g1) := by
  unfold aVia
  rw [h]
  simp [k]
theorem eComp_run {own : List Nat} {it : SA} {f : ST} {cond elt : SE} {ds acc : List D} {ρ : Env} {g g1 g2 : G} (h : it ρ g = some (.ok ds, g1)) (e : compGo f cond elt (wipeD ρ own) ds g1 [] = some (acc, g2)) : eComp own it f cond elt ρ g = some (.ok (.lst acc), g2) := by
  unfold eComp
  rw [h]
  simp [e]
theorem small_nat {n : Nat} (h : n ≤ 1000000) : small62 (n : Int) = true := small62_of (by omega)
theorem fRng1_nat {n : Nat} (h : n ≤ 1000000) : fRng1 [.int (n : Int)] = some (rng 0 n) := by
  show (if small62 (n : Int) = true then some (rng 0 (n : Int).toNat) else none) = some (rng 0 n)
  rw [if_pos (small_nat h), Int.toNat_natCast]
/-! ### the hand -/
/-- a hand as the draws leave it -/
def HandOk (g : G) : Prop := ∃ (ns : List Int) (i : Nat) (r s : Int), g = [.lst (ns.map .int), .int i, .int r, .int s] ∧ (∀ n ∈ ns, 0 ≤ n) ∧ 0 ≤ r
theorem hand0_ok (ns : List Int) : HandOk (hand0 ns) := ⟨hCells ns, 0, 0, _, rfl, fun n h => by
  unfold hCells at h
  obtain ⟨x, _, rfl⟩ := List.mem_map.mp h
  split <;> omega, Int.le_refl 0⟩
def mixF (a b : Int) : Int :=
  let once := (a * 39373 + b * 6151 + 50021) % 2147483399
  let twice := (once * once + b * 81071 + once / 137) % 2147483629
  (twice * 62089 + once / 11) % 2147483587 / 64
theorem cMul_r {i j : Int} (h : j.natAbs < 2 ^ 64) : cMul i j = true := by
  unfold cMul
  rw [lt64_of h]
  simp
theorem cMul_l {i j : Int} (h : i.natAbs < 2 ^ 64) : cMul i j = true := by
  unfold cMul
  rw [lt64_of h]
  simp
theorem cMul_of {i j : Int} {a b : Nat} (ha : i.natAbs < 2 ^ a) (hb : j.natAbs < 2 ^ b) (h : a + b ≤ 20000) : cMul i j = true := by
  by_cases z : i.natAbs = 0
  · exact cMul_l (by rw [z]; decide)
  by_cases z2 : j.natAbs = 0
  · exact cMul_r (by rw [z2]; decide)
  have x := (Nat.log2_lt z).mpr ha
  have y := (Nat.log2_lt z2).mpr hb
  unfold cMul
  simp only [Bool.or_eq_true, decide_eq_true_eq]
  right
  omega
theorem cMod_ok {i j : Int} (h : 0 < j) : cMod i j = true := decide_eq_true h
theorem cDiv_ok {i j : Int} (h : 0 < j) (h2 : j.natAbs.log2 < 9000) : cDiv i j = true := by
  unfold cDiv
  simp [h, h2]
end MP

set_option maxRecDepth 100000
set_option maxHeartbeats 1000000
namespace MP
open PySem L2
open Evl (Ex ex_rd ex_l ex_t)
section
variable {c : Ct} {F0 H0 F H F' H' F1 : Hp} {σ : St} {ρ : Env} {O O1 O' OL : List Nat} {W : WX} {g g' : G} {te ta tb tc : TE} {tt tu : TT} {e a b : SE}
/-! an attribute of an object: of one of the classes cs -/
def fFld (cs : List Str) (f : Str) : D → Option D
  | .obj n fs => if cs.contains n = true then fs.lookup f else none
  | _ => none
structure FldOk (c : Cb) (cs : List Str) (f : Str) : Prop where
  cls : ∀ n ∈ cs, Cls c.K (c.ca n)
  noat : ∀ n ∈ cs, NoAttr c.K (c.ca n) f
theorem snd_fld {cs : List Str} {f : Str} (k : FldOk c cs f) (h : SndR c O W ta a) : SndE c O W (tFld c.K ta f) (eUn (fFld cs f) a) := fun F0 H0 F H σ ρ g o g' S q Q p => by
  refine h.bind S q p.x fun x g1 vx F1 H1 q1 G1 S1 rx => ?_
  cases z : fFld cs f x with
  | none => simp only [z] at q1; cases q1
  | some d =>
    simp only [z] at q1
    cases q1
    unfold fFld at z
    split at z
    · rename_i n fs
      split at z
      · rename_i hc
        have hc : n ∈ cs := by simpa using hc
        obtain ⟨l, dx, vs, h1, h2, h3⟩ := rx.obj S1.ex
        obtain ⟨v, e1, e2⟩ := h3.look z
        exact ⟨l, c.ca n, dx, vs, v, h1, h2, k.cls n hc, k.noat n hc, e1, p v F1 H1 G1 S1 e2⟩
      · cases z
    · cases z
/-! in, not in: flat items -/
def flatD : D → Bool
  | .non => true
  | .bl _ => true
  | .int _ => true
  | .str _ => true
  | _ => false
def eqF : D → D → Bool
  | .non, .non => true
  | .bl i, .bl j => i == j
  | .bl i, .int j => (if i then 1 else 0) == j
  | .int i, .bl j => i == (if j then 1 else 0)
  | .int i, .int j => i == j
  | .str i, .str j => i == j
  | _, _ => false
def fIn (neg : Bool) (x y : D) : Option D := match items y with
  | some ds => if (flatD x && ds.all flatD) = true then some (.bl (if neg then !(ds.any fun z => eqF z x) else ds.any fun z => eqF z x)) else none
  | none => none
theorem flat_rep {d : D} {v : V} (h : Rep c F d v) (k : flatD d = true) : flatV v = true := by
  cases d <;> first | (cases h; rfl) | cases k
theorem eq_rep {d e : D} {v w : V} (h : Rep c F d v) (k : flatD d = true) (h' : Rep c F e w) (k' : flatD e = true) : eqV v w = eqF d e := by
  cases d <;> first | (cases e <;> first | (cases h; cases h'; rfl) | (cases k'; done)) | (cases k; done)
theorem flats_rep : ∀ {ds : List D} {vs : List V}, Reps c F ds vs → ds.all flatD = true → vs.all flatV = true
  | [], _, h, _ => by cases h; rfl
  | d :: ds, _, ⟨v, r, h1, h2, h3⟩, k => by
    rw [List.all_cons, Bool.and_eq_true] at k
    rw [h1, List.all_cons, Bool.and_eq_true]
    exact ⟨flat_rep h2 k.1, flats_rep h3 k.2⟩
theorem any_rep {x : D} {vx : V} (hx : Rep c F x vx) (kx : flatD x = true) : ∀ {ds : List D} {vs : List V}, Reps c F ds vs → ds.all flatD = true → inV vx vs = ds.any fun z => eqF z x
  | [], _, h, _ => by cases h; rfl
  | d :: ds, _, ⟨v, r, h1, h2, h3⟩, k => by
    rw [List.all_cons, Bool.and_eq_true] at k
    have := any_rep hx kx h3 k.2
    unfold inV at this ⊢
    rw [h1, List.any_cons, List.any_cons, this, eq_rep h2 k.1 hx kx]
theorem snd_inN {neg : Bool} (ha : SndE c O W ta a) (hb : SndR c O W tb b) : SndE c O W (tOp (rIn c.K neg) ta tb) (eOp (fIn neg) a b) := fun F0 H0 F H σ ρ g ro g' S q Q p => by
  refine ha.bind S q p fun x g1 vx F1 H1 q1 G1 S1 rx => ?_
  refine hb.bind S1 q1 (PostE.x (p.gr G1)) fun y g2 vy F2 H2 q2 G2 S2 ry => ?_
  have rx2 := rx.mono G2.ex
  cases z : fIn neg x y with
  | none => simp only [z] at q2; cases q2
  | some d =>
    simp only [z] at q2
    cases q2
    have G3 := G1.trans G2
    unfold fIn at z
    cases w : items y with
    | none => rw [w] at z; cases z
    | some ds =>
      rw [w] at z
      simp only at z
      split at z
      · rename_i hk
        obtain ⟨k1, k2⟩ := Bool.and_eq_true_iff.mp hk
        cases z
        have fin : ∀ (l : Addr) (vs : List V), vy = .ref l → (SqL c.K H2 l vs ∨ SqT c.K H2 l vs) → Reps c F2 ds vs → rIn c.K neg vx vy H2 Q := fun l vs e1 e2 e3 => by
          refine ⟨l, vs, e1, e2, flat_rep rx2 k1, flats_rep e3 k2, ?_⟩
          rw [any_rep rx2 k1 e3 k2]
          exact p _ F2 H2 G3 S2 rfl
        cases y with
        | lst ds' =>
          cases w
          obtain ⟨l, vs, h1, h2, h3⟩ := ry.lst S2.ex
          exact fin l vs h1 (.inl (SqL.of h2)) h3
        | tup ds' =>
          cases w
          obtain ⟨l, vs, h1, h2, h3⟩ := ry.tup S2.ex
          exact fin l vs h1 (.inr h2) h3
        | _ => cases w
      · cases z
/-! slices -/
def cutD (ds : List D) (lo hi : Option Int) : List D := (ds.drop (HT.sIx ds.length 0 lo)).take (HT.sIx ds.length ds.length hi - HT.sIx ds.length 0 lo)
theorem cut_rep {ds : List D} {vs : List V} (h : Reps c F ds vs) (lo hi : Option Int) : Reps c F (cutD ds lo hi) (cutV vs lo hi) := by
  unfold cutD cutV
  rw [h.len]
  exact (h.drop _).take _
end
/-! reversed -/
def aRev (e : SE) : SA := fun ρ g => match e ρ g with
  | some (.ok d, g) => (items d).map fun ds => (.ok ds.reverse, g)
  | some (.exc n f, g) => some (.exc n f, g)
  | none => none
section
variable {c : Ct} {F0 H0 F H F' H' F1 : Hp} {σ : St} {ρ : Env} {O O1 O' OL : List Nat} {W : WX} {g g' : G} {te ta tb tc : TE} {e a b : SE}
theorem itok_revL {l : Addr} {vs : List V} {ds : List D} (h : F1 l = some (.lst vs)) (r : Reps c F1 ds vs) : ItOk c F1 (Itv c.K l vs.length) ds.reverse where
  goes := fun i F' H' hi e1 e2 => by
    have hi : i < vs.length := by rw [r.len]; simpa using hi
    exact ⟨hi, vs, vs[vs.length - 1 - i]'(by omega), SqL.of (e2 _ _ (e1 _ _ h)), List.getElem?_eq_getElem _⟩
  stops := fun F' H' e1 e2 => by
    show vs.length ≤ _
    rw [r.len]; simp
  yields := fun i d F' H' x H'' hd e1 e2 y => by
    obtain ⟨rfl, y⟩ := y
    obtain ⟨v, k1, k2⟩ := r.reverse.get hd
    have hi : i < vs.length := by
      have := (List.getElem?_eq_some_iff.mp k1).1
      simpa using this
    have := y vs (SqL.of (e2 _ _ (e1 _ _ h)))
    rw [List.getElem?_reverse hi] at k1
    rw [k1] at this
    cases this
    exact ⟨F', .refl e2, k2.mono e1⟩
theorem itok_revT {l : Addr} {vs : List V} {ds : List D} (h : SqT c.K F1 l vs) (r : Reps c F1 ds vs) : ItOk c F1 (RT.ItvT c.K l vs.length) ds.reverse where
  goes := fun i F' H' hi e1 e2 => by
    have hi : i < vs.length := by rw [r.len]; simpa using hi
    exact ⟨hi, vs, vs[vs.length - 1 - i]'(by omega), ex_t (e1.trans e2) h, List.getElem?_eq_getElem _⟩
  stops := fun F' H' e1 e2 => by
    show vs.length ≤ _
    rw [r.len]; simp
  yields := fun i d F' H' x H'' hd e1 e2 y => by
    obtain ⟨rfl, y⟩ := y
    obtain ⟨v, k1, k2⟩ := r.reverse.get hd
    have hi : i < vs.length := by
      have := (List.getElem?_eq_some_iff.mp k1).1
      simpa using this
    have := y vs (ex_t (e1.trans e2) h)
    rw [List.getElem?_reverse hi] at k1
    rw [k1] at this
    cases this
    exact ⟨F', .refl e2, k2.mono e1⟩
theorem snd_rev (h : SndE c O W te e) : SndI c O W (RT.iRevA c.K te) (aRev e) := fun F0 H0 F H σ ρ g r g' S q R p => by
  unfold aRev at q
  cases z : e ρ g with
  | none => rw [z] at q; cases q
  | some y =>
    obtain ⟨o, g1⟩ := y
    rw [z] at q
    cases o with
    | exc n f => cases q; exact h _ _ _ _ _ _ _ _ _ S z _ p
    | ok d =>
      refine h _ _ _ _ _ _ _ _ _ S z _ fun v F1 H1 G1 S1 rv => ?_
      cases d with
      | lst ds =>
        cases q
        obtain ⟨l, vs, h1, h2, h3⟩ := rv
        exact ⟨l, vs, h1, .inl ⟨SqL.of (S1.ex _ _ h2), p _ F1 H1 G1 S1 (itok_revL h2 h3)⟩⟩
      | tup ds =>
        cases q
        obtain ⟨l, vs, h1, h2, h3⟩ := rv
        exact ⟨l, vs, h1, .inr ⟨ex_t S1.ex h2, p _ F1 H1 G1 S1 (itok_revT h2 h3)⟩⟩
      | _ => cases q
end
end MP

set_option maxRecDepth 100000
set_option maxHeartbeats 1000000
namespace MP
open PySem L2
open Evl (Ex ex_rd ex_l ex_t)
def partOf : D → Option (Option Int)
  | .non => some none
  | .int i => some (some i)
  | _ => none
def PostP (c : Ct) (F0 H0 : Hp) (σ : St) (ρ : Env) (O : List Nat) (W : WX) (F H : Hp) (r : Out) (g' : G) (Q : Option Int → Hp → Prop) : Prop := match r with
  | .ok d => ∀ o F' H', partOf d = some o → Gr c F H F' H' → SR c F0 H0 F' H' σ ρ O g' → Q o H'
  | .exc n fs => PostX c F0 H0 σ ρ O W F H n fs g'
def SndP (c : Ct) (O : List Nat) (W : WX) (tp : TO) (e : SE) : Prop := ∀ F0 H0 F H σ ρ g r g', SR c F0 H0 F H σ ρ O g → e ρ g = some (r, g') → ∀ Q, PostP c F0 H0 σ ρ O W F H r g' Q → tp σ H Q
def isPart : D → Bool
  | .int _ => true
  | _ => false
def ePart (e : SE) : SE := fun ρ g => bE (e ρ g) fun d g => if isPart d = true then some (.ok d, g) else none
def fSl (lo hi : Option Int) : D → Option D
  | .lst ds => some (.lst (cutD ds lo hi))
  | .tup ds => some (.tup (cutD ds lo hi))
  | _ => none
def fSlL (lo hi : Option Int) : D → Option D
  | .lst ds => some (.lst (cutD ds lo hi))
  | _ => none
def eSlF (f : Option Int → Option Int → D → Option D) (e lo hi : SE) : SE := fun ρ g => bE (e ρ g) fun x g => bE (lo ρ g) fun l g => bE (hi ρ g) fun h g => match partOf l, partOf h with
  | some l, some h => (f l h x).map fun d => (.ok d, g)
  | _, _ => none
section
variable {c : Ct} {F0 H0 F H F' H' F1 : Hp} {σ : St} {ρ : Env} {O O1 O' OL : List Nat} {W : WX} {g g' : G} {te ta tb tc : TE} {tt tu : TT} {e a b lo hi : SE} {tl th : TO}
theorem snd_noPart : SndP c O W tNoPart (eC .non) := fun F0 H0 F H σ ρ g r g' S q Q p => by
  cases q
  exact p none F H rfl (Gr.refl ..) S
theorem snd_part (h : SndE c O W te e) : SndP c O W (tPart te) (ePart e) := fun F0 H0 F H σ ρ g r g' S q Q p => by
  unfold ePart at q
  rcases bE_some q with ⟨d, g1, q1, q2⟩ | ⟨n, fs, q1, q2⟩
  · split at q2
    · cases q2
      refine h _ _ _ _ _ _ _ _ _ S q1 _ fun v F1 H1 G1 S1 rv => ?_
      cases d with
      | int i =>
        cases rv
        exact ⟨i, rfl, p _ F1 H1 rfl G1 S1⟩
      | _ => rename_i k; cases k
    · cases q2
  · subst q2
    exact h _ _ _ _ _ _ _ _ _ S q1 _ p
/-- one of the parts of a slice: on -/
theorem SndP.bind {tp : TO} (h : SndP c O W tp e) {k : D → G → R} {r : Out} (S : SR c F0 H0 F H σ ρ O g) (q : bE (e ρ g) k = some (r, g')) {Q' : Option Int → Hp → Prop} (x : ∀ n fs, r = .exc n fs → PostX c F0 H0 σ ρ O W F H n fs g')
    (p : ∀ d g1 F1 H1, k d g1 = some (r, g') → Gr c F H F1 H1 → SR c F0 H0 F1 H1 σ ρ O g1 → ∀ o, partOf d = some o → Q' o H1) : tp σ H Q' := by
  rcases bE_some q with ⟨d, g1, q1, q2⟩ | ⟨n, fs, q1, q2⟩
  · exact h _ _ _ _ _ _ _ _ _ S q1 _ fun o F1 H1 ho G1 S1 => p d g1 F1 H1 q2 G1 S1 o ho
  · exact h _ _ _ _ _ _ _ _ _ S q1 _ (x n fs q2)
theorem PostX.gr' {r : Out} (x : ∀ (n : Str) (fs : List (Str × D)), r = Out.exc n fs → PostX c F0 H0 σ ρ O W F H n fs g') (G : Gr c F H F' H') : ∀ (n : Str) (fs : List (Str × D)), r = Out.exc n fs → PostX c F0 H0 σ ρ O W F' H' n fs g' := fun n fs e => (x n fs e).gr G
theorem cut_whole {ds : List D} {lo hi : Option Int} (h : HT.sIx ds.length 0 lo = 0 ∧ HT.sIx ds.length ds.length hi = ds.length) : cutD ds lo hi = ds := by
  unfold cutD
  rw [h.1, h.2]
  simp
def rSlX (K : PySem.W.Frag) : V → Option Int → Option Int → Hp → VK → Prop := fun x lo hi H Q => rSlL K x lo hi H Q ∨ rSlA K x lo hi H Q
theorem sl_X {X : Cx} : SlR X (rSlX X.K) := SlR.or sl_list sl_tupA
theorem snd_slice (ha : SndR c O W ta a) (hl : SndP c O W tl lo) (hh : SndP c O W th hi) : SndE c O W (tSl (rSlX c.K) ta tl th) (eSlF fSl a lo hi) := fun F0 H0 F H σ ρ g ro g' S q Q p => by
  have p0 := p.x
  refine ha.bind S q p0 fun x g1 vx F1 H1 q1 G1 S1 rx => ?_
  have p1 := PostX.gr' p0 G1
  refine hl.bind S1 q1 p1 fun l g2 F2 H2 q2 G2 S2 lo hlo => ?_
  have p2 := PostX.gr' p1 G2
  refine hh.bind S2 q2 p2 fun h g3 F3 H3 q3 G3 S3 hi hhi => ?_
  rw [hlo, hhi] at q3
  simp only at q3
  have rx3 := (rx.gr G2).gr G3
  have G := G1.trans (G2.trans G3)
  cases x with
  | lst ds =>
    cases q3
    obtain ⟨l, vs, h1, h2, h3⟩ := rx3.lst S3.ex
    refine .inl ⟨l, vs, h1, SqL.of h2, fun n hn => ?_⟩
    have P := gp_new (o := .lst (cutV vs lo hi)) S3.ex hn
    exact p _ _ _ (G.trans P.gr) (S3.pure P) ⟨n, cutV vs lo hi, rfl, upd_same, (cut_rep h3 lo hi).mono P.ex⟩
  | tup ds =>
    cases q3
    have rx3 := rx3.rep rfl
    · obtain ⟨l, vs, h1, h2, h3⟩ := id rx3
      refine .inr ⟨l, vs, h1, ex_t S3.ex h2, fun w => ?_, fun w n hn => ?_⟩
      · rw [h3.len] at w
        rw [cut_whole w] at p
        rw [← h1]
        exact p vx F3 H3 G S3 rx3
      · have P := gp_new (o := .tup (cutV vs lo hi)) S3.ex hn
        exact p _ _ _ (G.trans P.gr) (S3.pure P) ⟨n, cutV vs lo hi, rfl, SqT.of upd_same, (cut_rep h3 lo hi).mono P.ex⟩
  | _ => cases q3
theorem snd_sliceL (ha : SndR c O W ta a) (hl : SndP c O W tl lo) (hh : SndP c O W th hi) : SndL c O W (tSl (rSlL c.K) ta tl th) (eSlF fSlL a lo hi) := fun F0 H0 F H σ ρ g ro g' S q Q p => by
  have p0 : ∀ n fs, ro = .exc n fs → PostX c F0 H0 σ ρ O W F H n fs g' := fun n fs e => by subst e; exact p
  refine ha.bind S q p0 fun x g1 vx F1 H1 q1 G1 S1 rx => ?_
  have p1 := PostX.gr' p0 G1
  refine hl.bind S1 q1 p1 fun l g2 F2 H2 q2 G2 S2 lo hlo => ?_
  have p2 := PostX.gr' p1 G2
  refine hh.bind S2 q2 p2 fun h g3 F3 H3 q3 G3 S3 hi hhi => ?_
  rw [hlo, hhi] at q3
  simp only at q3
  have rx3 := (rx.gr G2).gr G3
  have G := G1.trans (G2.trans G3)
  cases x with
  | lst ds =>
    cases q3
    obtain ⟨l, vs, h1, h2, h3⟩ := rx3.lst S3.ex
    refine ⟨l, vs, h1, SqL.of h2, fun n hn => ?_⟩
    have P := gp_open (o := .lst (cutV vs lo hi)) S3.ex hn
    exact p n _ _ _ (G.trans P.gr) (S3.pure P) (G.dom n hn) (ex_none S3.ex hn) (hd_ne S3 hn) upd_same ((cut_rep h3 lo hi).mono P.ex)
  | _ => cases q3
end
end MP

set_option maxRecDepth 100000
set_option maxHeartbeats 1000000
namespace MP
open PySem L2
open Evl (Ex ex_rd ex_l ex_t)
/-- the couples of a list walked with its places -/
def pairsN (ds : List D) : List D := ds.mapIdx fun i d => .tup [.int (i : Nat), d]
def pairs2 (ds es : List D) : List D := ds.zipWith (fun d e => .tup [d, e]) es
def fZip : List D → Option (List D)
  | [.lst ds, .lst es] => some (pairs2 ds es)
  | [.tup ds, .tup es] => some (pairs2 ds es)
  | _ => none
def fEnumL : List D → Option (List D)
  | [.lst ds] => some (pairsN ds)
  | [.slst ds] => some (pairsN ds)
  | _ => none
section
variable {c : Ct} {F0 H0 F H F' H' F1 : Hp} {σ : St} {ρ : Env} {O O1 O' OL : List Nat} {W : WX} {g g' : G} {te ta tb tc : TE} {e a b : SE}
theorem new_pair {T : Addr} {F' H' : Hp} {vs : List V} {ds : List D} (ex : Ex F' H') (hT : H' T = none) (r : Reps c F' ds vs) : ∃ F'', Gp F' H' F'' (upd H' T (.tup vs)) ∧ Rep c F'' (.tup ds) (.ref T) :=
  have P := gp_new (o := .tup vs) ex hT
  ⟨_, P, T, vs, rfl, SqT.of upd_same, r.mono P.ex⟩
theorem pairs2_get {ds es : List D} {i : Nat} {d : D} (h : (pairs2 ds es)[i]? = some d) : ∃ x y, d = .tup [x, y] ∧ ds[i]? = some x ∧ es[i]? = some y := by
  unfold pairs2 at h
  rw [List.getElem?_zipWith] at h
  cases p : ds[i]? with
  | none => rw [p] at h; simp at h
  | some x =>
    cases q : es[i]? with
    | none => rw [p, q] at h; simp at h
    | some y =>
      rw [p, q] at h
      simp only [Option.some.injEq] at h
      exact ⟨x, y, h.symm, rfl, rfl⟩
theorem pairs2_len {ds es : List D} : (pairs2 ds es).length = min ds.length es.length := by unfold pairs2; rw [List.length_zipWith]
theorem itok_zipL {k l : Addr} {vs ws : List V} {ds es : List D} (h : F1 k = some (.lst vs)) (r : Reps c F1 ds vs) (h' : F1 l = some (.lst ws)) (r' : Reps c F1 es ws) : ItOk c F1 (Itz c.K k l) (pairs2 ds es) where
  goes := fun i F' H' hi e1 e2 => by
    rw [pairs2_len] at hi
    have i1 : i < vs.length := by rw [r.len]; omega
    have i2 : i < ws.length := by rw [r'.len]; omega
    exact ⟨vs, ws, vs[i], ws[i], SqL.of (e2 _ _ (e1 _ _ h)), SqL.of (e2 _ _ (e1 _ _ h')), List.getElem?_eq_getElem i1, List.getElem?_eq_getElem i2⟩
  stops := fun F' H' e1 e2 => ⟨vs, ws, SqL.of (e2 _ _ (e1 _ _ h)), SqL.of (e2 _ _ (e1 _ _ h')), by rw [pairs2_len, r.len, r'.len]; omega⟩
  yields := fun i d F' H' x H'' hd e1 e2 y => by
    obtain ⟨T, u, v, rfl, hT, rfl, k1, k2⟩ := y
    obtain ⟨p, q, rfl, hp, hq⟩ := pairs2_get hd
    obtain ⟨u', m1, m2⟩ := r.get hp
    obtain ⟨v', n1, n2⟩ := r'.get hq
    have a1 := k1 vs (SqL.of (e2 _ _ (e1 _ _ h)))
    have a2 := k2 ws (SqL.of (e2 _ _ (e1 _ _ h')))
    rw [m1] at a1
    rw [n1] at a2
    cases a1
    cases a2
    exact new_pair e2 hT ⟨_, _, rfl, m2.mono e1, .one (n2.mono e1)⟩
theorem itok_zipT {k l : Addr} {vs ws : List V} {ds es : List D} (h : SqT c.K F1 k vs) (r : Reps c F1 ds vs) (h' : SqT c.K F1 l ws) (r' : Reps c F1 es ws) : ItOk c F1 (RZ.ItzT c.K k l) (pairs2 ds es) where
  goes := fun i F' H' hi e1 e2 => by
    rw [pairs2_len] at hi
    have i1 : i < vs.length := by rw [r.len]; omega
    have i2 : i < ws.length := by rw [r'.len]; omega
    exact ⟨vs, ws, vs[i], ws[i], ex_t (e1.trans e2) h, ex_t (e1.trans e2) h', List.getElem?_eq_getElem i1, List.getElem?_eq_getElem i2⟩
  stops := fun F' H' e1 e2 => ⟨vs, ws, ex_t (e1.trans e2) h, ex_t (e1.trans e2) h', by rw [pairs2_len, r.len, r'.len]; omega⟩
  yields := fun i d F' H' x H'' hd e1 e2 y => by
    obtain ⟨T, u, v, rfl, hT, rfl, k1, k2⟩ := y
    obtain ⟨p, q, rfl, hp, hq⟩ := pairs2_get hd
    obtain ⟨u', m1, m2⟩ := r.get hp
    obtain ⟨v', n1, n2⟩ := r'.get hq
    have a1 := k1 vs (ex_t (e1.trans e2) h)
    have a2 := k2 ws (ex_t (e1.trans e2) h')
    rw [m1] at a1
    rw [n1] at a2
    cases a1
    cases a2
    exact new_pair e2 hT ⟨_, _, rfl, m2.mono e1, .one (n2.mono e1)⟩
theorem snd_zip {ar : SA} {tr : TA} (h : SndA c O W tr ar) : SndI c O W (RZ.iZipA c.K tr) (aVia fZip ar) := snd_via rfl h fun F H ds xs vs ex q rs R p => by
  unfold fZip at q
  split at q
  · cases q
    obtain ⟨v, r, h1, ⟨a, us, h2, h3, h4⟩, v2, r2, h5, ⟨b, ws, k2, k3, k4⟩, h6⟩ := rs
    cases h6
    subst h2 k2 h5 h1
    exact ⟨a, b, us, ws, rfl, .inl ⟨SqL.of (ex _ _ h3), SqL.of (ex _ _ k3), p _ (itok_zipL h3 h4 k3 k4)⟩⟩
  · cases q
    obtain ⟨v, r, h1, ⟨a, us, h2, h3, h4⟩, v2, r2, h5, ⟨b, ws, k2, k3, k4⟩, h6⟩ := rs
    cases h6
    subst h2 k2 h5 h1
    exact ⟨a, b, us, ws, rfl, .inr ⟨ex_t ex h3, ex_t ex k3, p _ (itok_zipT h3 h4 k3 k4)⟩⟩
  · cases q
theorem itok_enumL {l : Addr} {vs : List V} {ds : List D} (h : SqL c.K F1 l vs) (r : Reps c F1 ds vs) : ItOk c F1 (Ite c.K l) (pairsN ds) where
  goes := fun i F' H' hi e1 e2 => by
    have i1 : i < vs.length := by rw [r.len]; simpa [pairsN] using hi
    exact ⟨vs, vs[i], ex_l (e1.trans e2) h, List.getElem?_eq_getElem i1⟩
  stops := fun F' H' e1 e2 => ⟨vs, ex_l (e1.trans e2) h, by rw [r.len]; simp [pairsN]⟩
  yields := fun i d F' H' x H'' hd e1 e2 y => by
    obtain ⟨T, u, rfl, hT, rfl, k1⟩ := y
    unfold pairsN at hd
    rw [List.getElem?_mapIdx] at hd
    cases p : ds[i]? with
    | none => rw [p] at hd; cases hd
    | some x =>
      rw [p] at hd
      cases hd
      obtain ⟨u', m1, m2⟩ := r.get p
      have a1 := k1 vs (ex_l (e1.trans e2) h)
      rw [m1] at a1
      cases a1
      exact new_pair e2 hT ⟨_, _, rfl, rfl, .one (m2.mono e1)⟩
theorem snd_enumL {ar : SA} {tr : TA} (h : SndA c O W tr ar) : SndI c O W (iEnum c.K tr) (aVia fEnumL ar) := snd_via rfl h fun F H ds xs vs ex q rs R p => by
  unfold fEnumL at q
  split at q
  · cases q
    obtain ⟨v, r, h1, ⟨a, us, h2, h3, h4⟩, h6⟩ := rs
    cases h6
    subst h2 h1
    exact ⟨a, us, rfl, SqL.of (ex _ _ h3), p _ (itok_enumL (SqL.of h3) h4)⟩
  · cases q
    obtain ⟨v, r, h1, ⟨a, us, h2, h3, h4⟩, h6⟩ := rs
    cases h6
    subst h2 h1
    exact ⟨a, us, rfl, ex_l ex h3, p _ (itok_enumL h3 h4)⟩
  · cases q
end
end MP

set_option maxRecDepth 100000
set_option maxHeartbeats 1000000
namespace MP
open PySem L2
open Evl (Ex ex_rd ex_l ex_t)
/-! ### o.m(..): the method by the class of what o is -/
/-- the class at C has a def m that keeps sp -/
structure MethAt (P : Program) (w : World) (K : PySem.W.Frag) (mg : Str → Option Value) (base : Heap) (A : Around) (C : Addr) (m : Str) (sp : Sp) (dvs : List V) : Prop where
  cls : Cls K C
  has : ∃ f fd ps k us0, Meth K C m f ∧ FnG P w K mg base (L2.CX P w) k f fd ps sp ∧ RG k A ∧ Binds K fd ps us0 ∧ Vals dvs us0
def tMethA (P : Program) (w : World) (K : PySem.W.Frag) (mg : Str → Option Value) (base : Heap) (A : Around) (m : Str) (E : St → XK) (ta : TE) (t : TA) : TE := fun σ H Q => ta σ H fun x H1 => ∃ a C dx fs sp dvs, x = .ref a ∧ H1 a = some (.ins C dx fs) ∧ fs.lookup m = none ∧ MethAt P w K mg base A C m sp dvs ∧
  t σ H1 fun vs H2 => sp (x :: (vs ++ dvs)) H2 Q (E σ)
section
variable {X : Cx} {E : St → XK} {m : Str} {pos apos : Pos} {e o : Expr} {es : List Expr} {ta : TE} {t : TA}
theorem pe_methA {pl : Sem Bool} (he : PE X o ta) (hx : ∀ σ, PassesAt (L2.CX X.prog X.w) X σ (E σ)) (ha : PA X (e :: es) t) (hst : starEach (e :: es) X.env = (false, eval e X.env) :: starEach es X.env := by rfl)
    (hpl : (backTo pos (starEach es X.env)).any (·.1) = false := by rfl)
    (ht : eval (.Call (.Attribute o m apos) (e :: es) [] pos) X.env = (eval o X.env >>= fun ov => standAt apos.atName >>= fun _ => holding [ov] (getMethod ov m pl) >>= fun y => callWith pos y.1 y.2 (backTo pos (starEach (e :: es) X.env)) (backToKw pos (keywordEach [] X.env))) := by rfl) :
    PE X (.Call (.Attribute o m apos) (e :: es) [] pos) (tMethA X.prog X.w X.K X.mg X.base X.A m E ta t) := ⟨fun pins s σ H Q I h => PySem.W.methodCall_KW (pl := pl) (thn (he.run pins s σ H _ I h) fun u s1 y => by
  obtain ⟨x, H1, I1, rx, a, C, dx, fs, sp, dvs, rfl, ea, l, M, q⟩ := y
  obtain ⟨f, fd, ps, k, us0, hm, F, hr, hb, hd⟩ := M.has
  cases rx
  refine getmeth_ok I1 ea M.cls hm l (PySem.W.callWith_K (first := [.ref a]) (h₀ := X.base) I.ok.mod.kin hm.kp (thn (ha.run pos pins s1 σ H1 _ I1 q) fun us s2 y => ?_) hst hpl)
  obtain ⟨vs, H2, I2, r, q2⟩ := y
  exact ⟨I2.kIn, run_fnD (us := .ref a :: us) (vs := .ref a :: vs) F hr hb hd (hx σ) I2 (.cons rfl r) q2⟩) ht⟩
theorem pe_methA0 {pl : Sem Bool} (he : PE X o ta) (hx : ∀ σ, PassesAt (L2.CX X.prog X.w) X σ (E σ))
    (ht : eval (.Call (.Attribute o m apos) [] [] pos) X.env = (eval o X.env >>= fun ov => standAt apos.atName >>= fun _ => holding [ov] (getMethod ov m pl) >>= fun y => callWith pos y.1 y.2 (backTo pos (starEach [] X.env)) (backToKw pos (keywordEach [] X.env))) := by rfl) :
    PE X (.Call (.Attribute o m apos) [] [] pos) (tMethA X.prog X.w X.K X.mg X.base X.A m E ta tNil) := ⟨fun pins s σ H Q I h => PySem.W.methodCall_KW (pl := pl) (thn (he.run pins s σ H _ I h) fun u s1 y => by
  obtain ⟨x, H1, I1, rx, a, C, dx, fs, sp, dvs, rfl, ea, l, M, q⟩ := y
  obtain ⟨f, fd, ps, k, us0, hm, F, hr, hb, hd⟩ := M.has
  cases rx
  exact getmeth_ok I1 ea M.cls hm l (PySem.W.callWith_K0 (first := [.ref a]) I1.kIn hm.kp (run_fnD (us := [.ref a]) (vs := [.ref a]) F hr hb hd (hx σ) I1 (.cons rfl .nil) q))) ht⟩
end
/-- the meanings of the method by the class, with the values of the arguments left out -/
abbrev MM := List (Str × (FM × List D))
def eMeth (m : Str) (ms : MM) (a : SE) (ar : SA) : SE := fun ρ g => bE (a ρ g) fun x g => match x with
  | .obj n fs => match ms.lookup n, fs.lookup m with
    | some (f, dd), none => eArgs (fun ds g => f (x :: (ds ++ dd)) g) ar ρ g
    | _, _ => none
  | _ => none
def MethsOk (P : Program) (w : World) (mg : Str → Option Value) (base : Heap) (A : Around) (c : Cb) (m : Str) (ms : MM) : Prop := ∀ n f dd, ms.lookup n = some (f, dd) → ∃ dvs, (∀ F, Reps c F dd dvs) ∧ MethAt P w c.K mg base A (c.ca n) m (specA c.K c.ca f) dvs
theorem MethsOk.nil {P : Program} {w : World} {mg : Str → Option Value} {base : Heap} {A : Around} {c : Cb} {m : Str} : MethsOk P w mg base A c m [] := fun n f dd h => by cases h
theorem MethsOk.cons {P : Program} {w : World} {mg : Str → Option Value} {base : Heap} {A : Around} {c : Cb} {m n : Str} {f : FM} {dd : List D} {dvs : List V} {ms : MM} (hd : ∀ F, Reps c F dd dvs) (M : MethAt P w c.K mg base A (c.ca n) m (specA c.K c.ca f) dvs) (h : MethsOk P w mg base A c m ms) : MethsOk P w mg base A c m ((n, f, dd) :: ms) := fun n' f' dd' q => by
  rw [List.lookup_cons] at q
  split at q
  · rename_i z
    cases q
    rw [eq_of_beq z]
    exact ⟨dvs, hd, M⟩
  · exact h n' f' dd' q
section
variable {c : Ct} {F0 H0 F H F' H' F1 : Hp} {σ : St} {ρ : Env} {O O1 O' OL : List Nat} {W : WX} {g g' : G} {te ta tb tc : TE} {e a b : SE}
theorem RepF.look_none {f : Str} : ∀ {fs : List (Str × D)} {vs : List (Str × V)}, RepF c F fs vs → fs.lookup f = none → vs.lookup f = none
  | [], _, h, _ => by cases h; rfl
  | (n, d) :: fs, _, ⟨v, r, h1, h2, h3⟩, h => by
    rw [h1]
    rw [List.lookup_cons] at h ⊢
    cases q : (f == n) with
    | true => rw [q] at h; cases h
    | false =>
      rw [q] at h
      exact RepF.look_none h3 h
theorem snd_meth {P : Program} {w : World} {mg : Str → Option Value} {base : Heap} {A : Around} {m : Str} {ms : MM} {tr : TA} {ar : SA} {E : St → XK} (hm : MethsOk P w mg base A c m ms) (h : SndE c O W ta a) (h' : SndA c O W tr ar) (hE : ∀ σ, E σ = fun cls d H => W cls d σ H) : SndE c O W (tMethA P w c.K mg base A m E ta tr) (eMeth m ms a ar) := fun F0 H0 F H σ ρ g o g' S q Q p => by
  refine h.bind S q p fun x g1 vx F1 H1 q1 G1 S1 rx => ?_
  cases x with
  | obj n fs =>
    · obtain ⟨l, dx, vs, h1, h2, h3⟩ := id rx
      simp only at q1
      cases z1 : ms.lookup n with
      | none => rw [z1] at q1; simp only at q1; cases q1
      | some y =>
        obtain ⟨f, dd⟩ := y
        cases z2 : fs.lookup m with
        | some _ => rw [z1, z2] at q1; cases q1
        | none =>
          rw [z1, z2] at q1
          obtain ⟨dvs, hd, M⟩ := hm n f dd z1
          refine ⟨l, c.ca n, dx, vs, _, dvs, h1, S1.ex _ _ h2, h3.look_none z2, M, h'.bind S1 q1 (p.gr G1) fun ds g2 us F2 H2 q2 G2 S2 rs => ?_⟩
          refine ⟨c.hd, F2, .obj n fs :: (ds ++ dd), g2, o, g', S2.ex, S2.hand, ⟨vx, _, rfl, rx.mono G2.ex, rs.append (hd F2)⟩, q2, ?_⟩
          have G := G1.trans G2
          cases o with
          | ok d => exact fun v F3 H3 G3 ex hh rv => p v F3 H3 (G.trans G3) (S2.next G3 ex hh) rv
          | exc en efs =>
            intro cls dd F3 H3 G3 ex hh x
            rw [hE]
            exact p cls dd F3 H3 (G.trans G3) (S2.next G3 ex hh) x
  | _ => cases q1
end
end MP

set_option maxRecDepth 100000
set_option maxHeartbeats 1000000
namespace MP
open PySem L2
open Evl (Ex ex_rd ex_l ex_t)
/-! ### a range as an argument: its meaning is the tuple of its ends -/
abbrev TRg := St → Hp → (Int → Int → Hp → Prop) → Prop
def PostG (c : Ct) (F0 H0 : Hp) (σ : St) (ρ : Env) (O : List Nat) (W : WX) (F H : Hp) (r : Out) (g' : G) (Q : Int → Int → Hp → Prop) : Prop := match r with
  | .ok d => ∀ i j F' H', d = .tup [.int i, .int j] → Gr c F H F' H' → SR c F0 H0 F' H' σ ρ O g' → Q i j H'
  | .exc n fs => PostX c F0 H0 σ ρ O W F H n fs g'
def SndRg (c : Ct) (O : List Nat) (W : WX) (tr : TRg) (e : SE) : Prop := ∀ F0 H0 F H σ ρ g r g', SR c F0 H0 F H σ ρ O g → e ρ g = some (r, g') → ∀ Q, PostG c F0 H0 σ ρ O W F H r g' Q → tr σ H Q
def eRg1 (a : SE) : SE := fun ρ g => bE (a ρ g) fun x g => match x with
  | .int n => some (.ok (.tup [.int 0, .int n]), g)
  | _ => none
def eRg2 (a b : SE) : SE := fun ρ g => bE (a ρ g) fun x g => bE (b ρ g) fun y g => match x, y with
  | .int i, .int j => some (.ok (.tup [.int i, .int j]), g)
  | _, _ => none
/-- small bounds, told by few bits -/
def rgOk (i j : Int) : Bool := small62 i && (small62 j && szB (j - i).toNat)
theorem rgOk_ok {i j : Int} (h : rgOk i j = true) : RgOk i j := by
  obtain ⟨h1, h⟩ := Bool.and_eq_true_iff.mp h
  obtain ⟨h2, h3⟩ := Bool.and_eq_true_iff.mp h
  obtain ⟨a1, a2⟩ := small62_ok h1
  obtain ⟨b1, b2⟩ := small62_ok h2
  have := szB_lt h3
  exact ⟨a1, a2, b1, b2, Nat.le_trans (Nat.le_of_lt this) (by decide)⟩
def fSpan (lst : Bool) : D → Option D
  | .tup [.int i, .int j] => if rgOk i j = true then some (if lst then .lst (rng i (j - i).toNat) else .tup (rng i (j - i).toNat)) else none
  | _ => none
def aRevR (e : SE) : SA := fun ρ g => match e ρ g with
  | some (.ok (.tup [.int i, .int j]), g) => if rgOk i j = true then some (.ok (rng i (j - i).toNat).reverse, g) else none
  | some (.exc n f, g) => some (.exc n f, g)
  | _ => none
section
variable {c : Ct} {F0 H0 F H F' H' F1 : Hp} {σ : St} {ρ : Env} {O O1 O' OL : List Nat} {W : WX} {g g' : G} {te ta tb tc : TE} {e a b : SE} {tr : TRg}
theorem snd_rg1 (h : SndE c O W ta a) : SndRg c O W (tRg1 ta) (eRg1 a) := fun F0 H0 F H σ ρ g r g' S q Q p => by
  rcases bE_some q with ⟨d, g1, q1, q2⟩ | ⟨n, fs, q1, q2⟩
  · refine h _ _ _ _ _ _ _ _ _ S q1 _ fun v F1 H1 G1 S1 rv => ?_
    cases d with
    | int n =>
      cases q2
      cases rv
      exact ⟨n, rfl, p 0 n F1 H1 rfl G1 S1⟩
    | _ => cases q2
  · subst q2
    exact h _ _ _ _ _ _ _ _ _ S q1 _ p
theorem snd_rg2 (h : SndE c O W ta a) (k : SndE c O W tb b) : SndRg c O W (tRg2 ta tb) (eRg2 a b) := fun F0 H0 F H σ ρ g r g' S q Q p => by
  rcases bE_some q with ⟨x, g1, q1, q2⟩ | ⟨n, fs, q1, q2⟩
  · refine h _ _ _ _ _ _ _ _ _ S q1 _ fun v F1 H1 G1 S1 rv => ?_
    rcases bE_some q2 with ⟨y, g2, q3, q4⟩ | ⟨n, fs, q3, q4⟩
    · refine k _ _ _ _ _ _ _ _ _ S1 q3 _ fun u F2 H2 G2 S2 ru => ?_
      cases x with
      | int i => cases y with
        | int j =>
          cases q4
          cases rv
          cases ru
          exact ⟨i, j, rfl, rfl, p i j F2 H2 rfl (G1.trans G2) S2⟩
        | _ => cases q4
      | _ => cases q4
    · subst q4
      exact k _ _ _ _ _ _ _ _ _ S1 q3 _ (PostX.gr G1 p)
  · subst q2
    exact h _ _ _ _ _ _ _ _ _ S q1 _ p
theorem rep_rng {i : Int} : ∀ n : Nat, Reps c F (rng i n) ((List.range n).map fun k => V.int (i + (k : Nat))) := fun n => by
  unfold rng
  induction List.range n with
  | nil => exact rfl
  | cons k ks ih => exact ⟨_, _, rfl, rfl, ih⟩
theorem SndRg.bind (h : SndRg c O W tr e) {k : D → G → R} {r : Out} (S : SR c F0 H0 F H σ ρ O g) (q : bE (e ρ g) k = some (r, g')) {Q' : Int → Int → Hp → Prop} (x : ∀ (n : Str) (fs : List (Str × D)), r = .exc n fs → PostX c F0 H0 σ ρ O W F H n fs g')
    (p : ∀ d g1 F1 H1, k d g1 = some (r, g') → Gr c F H F1 H1 → SR c F0 H0 F1 H1 σ ρ O g1 → ∀ i j, d = .tup [.int i, .int j] → Q' i j H1) : tr σ H Q' := by
  rcases bE_some q with ⟨d, g1, q1, q2⟩ | ⟨n, fs, q1, q2⟩
  · exact h _ _ _ _ _ _ _ _ _ S q1 _ fun i j F1 H1 ho G1 S1 => p d g1 F1 H1 q2 G1 S1 i j ho
  · exact h _ _ _ _ _ _ _ _ _ S q1 _ (x n fs q2)
theorem snd_tupRg (h : SndRg c O W tr e) : SndE c O W (tTupRg tr) (eUn (fSpan false) e) := fun F0 H0 F H σ ρ g o g' S q Q p => by
  refine h.bind S q p.x fun d g1 F1 H1 q1 G1 S1 i j e => ?_
  subst e
  simp only [fSpan] at q1
  by_cases k : rgOk i j = true
  · rw [if_pos k] at q1
    cases q1
    refine ⟨rgOk_ok k, fun l hl => ?_⟩
    have P := gp_new (o := .tup (rgV i j)) S1.ex hl
    exact p _ _ _ (G1.trans P.gr) (S1.pure P) ⟨l, _, rfl, SqT.of upd_same, rep_rng _⟩
  · rw [if_neg k] at q1
    cases q1
theorem snd_lstRg (h : SndRg c O W tr e) : SndL c O W (tLstRg tr) (eUn (fSpan true) e) := fun F0 H0 F H σ ρ g o g' S q Q p => by
  refine h.bind S q (fun n fs e => by subst e; exact p) fun d g1 F1 H1 q1 G1 S1 i j e => ?_
  subst e
  simp only [fSpan] at q1
  by_cases k : rgOk i j = true
  · rw [if_pos k] at q1
    cases q1
    refine ⟨rgOk_ok k, fun l hl => ?_⟩
    have P := gp_open (o := .lst (rgV i j)) S1.ex hl
    exact p l _ _ _ (G1.trans P.gr) (S1.pure P) (G1.dom l hl) (ex_none S1.ex hl) (hd_ne S1 hl) upd_same (rep_rng _)
  · rw [if_neg k] at q1
    cases q1
theorem itok_revR {i : Int} {n : Nat} : ItOk c F1 (Itc (i + (n : Nat) - 1) (-1) n) (rng i n).reverse where
  goes := fun k F' H' hk _ _ => by show k < n; simpa [rng] using hk
  stops := fun F' H' _ _ => by show n ≤ (rng i n).reverse.length; simp [rng]
  yields := fun k d F' H' x H'' hd e1 e2 y => by
    obtain ⟨rfl, rfl⟩ := y
    have hk : k < (rng i n).length := by
      have := (List.getElem?_eq_some_iff.mp hd).1
      simpa using this
    rw [List.getElem?_reverse hk] at hd
    have hn : (rng i n).length = n := by simp [rng]
    rw [hn] at hd hk
    rw [rng_get hd]
    refine ⟨F', .refl e2, ?_⟩
    show V.int _ = V.int _
    congr 1
    omega
theorem snd_revR (h : SndRg c O W tr e) : SndI c O W (iRevR tr) (aRevR e) := fun F0 H0 F H σ ρ g r g' S q R p => by
  unfold aRevR at q
  split at q
  · rename_i i j g1 z
    split at q
    · rename_i k
      cases q
      refine h _ _ _ _ _ _ _ _ _ S z _ fun i' j' F1 H1 e G1 S1 => ?_
      cases e
      obtain ⟨b1, b2, b3, b4, _⟩ := rgOk_ok k
      exact ⟨b1, b2, b3, b4, p _ F1 H1 G1 S1 itok_revR⟩
    · cases q
  · rename_i n f g1 z
    cases q
    exact h _ _ _ _ _ _ _ _ _ S z _ p
  · cases q
/-! divmod, max of two -/
def fDivmod : List D → Option D
  | [.int i, .int j] => if (decide (0 < j) && decide (j.natAbs.log2 < 29)) = true then some (.tup [.int (i / j), .int (i % j)]) else none
  | _ => none
def fMax2 : List D → Option D
  | [.int i, .int j] => some (.int (if j > i then j else i))
  | _ => none
theorem log_lt {n k : Nat} (h : n.log2 < k) : n < 2 ^ k := by
  by_cases z : n = 0
  · rw [z]; exact Nat.two_pow_pos k
  · exact (Nat.log2_lt z).mp h
def rDivmod : List V → Hp → VK → Prop := fun xs H Q => ∃ i j, xs = [.int i, .int j] ∧ CDiv i j ∧ ∀ p, H p = none → Q (.ref p) (upd H p (.tup [.int (i / j), .int (i % j)]))
theorem snd_divmod {ta : TA} {ar : SA} (h : SndA c O W ta ar) : SndE c O W (tCB rDivmod ta) (eArgs (pf fDivmod) ar) := snd_cb h fun F H ds z vs ex q rs Q p => by
  unfold fDivmod at q
  split at q
  · rename_i i j
    split at q
    · rename_i hk
      cases q
      obtain ⟨v, r, h1, h2, v2, r2, h3, h4, h5⟩ := rs
      cases h2
      cases h4
      cases h5
      subst h3
      obtain ⟨k1, k2⟩ := Bool.and_eq_true_iff.mp hk
      have k1 := of_decide_eq_true k1
      have k2 := log_lt (of_decide_eq_true k2)
      refine ⟨i, j, h1, ⟨k1, by omega⟩, fun l hl => ?_⟩
      have P := gp_new (o := .tup [.int (i / j), .int (i % j)]) ex hl
      exact p _ _ _ P ⟨l, _, rfl, SqT.of upd_same, ⟨_, _, rfl, rfl, .one rfl⟩⟩
    · cases q
  · cases q
def rMax2X : List V → Hp → VK → Prop := fun xs H Q => ∃ i j, xs = [.int i, .int j] ∧ Q (.int (if j > i then j else i)) H
theorem snd_max2 {ta : TA} {ar : SA} (h : SndA c O W ta ar) : SndE c O W (tCB rMax2X ta) (eArgs (pf fMax2) ar) := snd_cb h fun F H ds z vs ex q rs Q p => by
  unfold fMax2 at q
  split at q
  · rename_i i j
    cases q
    obtain ⟨v, r, h1, h2, v2, r2, h3, h4, h5⟩ := rs
    cases h2
    cases h4
    cases h5
    subst h3
    exact ⟨i, j, h1, p _ F H (.refl ex) rfl⟩
  · cases q
end
end MP

set_option maxRecDepth 100000
set_option maxHeartbeats 1000000
namespace MP
open PySem L2
open Evl (Ex ex_rd ex_l ex_t)
/-! ### raise X(), raise X(e), raise X(e, f): own classes under ValueError -/
section
variable {X : Cx} {C : Addr} {bmB : List Value} {B newId initId : String}
theorem pmk_own0 {x : Str} {p pos : Pos} (F : ExcBaseFacts B newId initId bmB) (q : PySem.W.excIn X.K C bmB newId = true) (gC : X.mg x = some (.ref C)) (kC : PySem.W.keepIn X.K (.ref C) = true) (r : Raises X (.ref C)) (hg : Gl X x)
    (hdb : (x == ("__debug__" : Str)) = false := by decide) : PMk X (.Call (.Name x p) [] [] pos) (fun _ H Q => Q (.ref C) none H) := fun pins s σ H Q I h => by
  refine wpAny_Call_Name_kw (ld_glob I hg gC (PySem.W.callWith_K0 I.kIn kC ?_) hdb)
  obtain ⟨bm, N, nm, qn, bs, hdct, sn, sub, ab, col, dd, k0, k1, k2, k3, k5, mN, hC, hN, hni, T⟩ := exc_obj I.kIn q
  exact wpAny_call_exc_subT F T hC hN hni (fun h' e hm => mk_of I hm r h (I.hok.gone hm.new)) (by show 0 ≤ sizeLine; exact Nat.zero_le _)
end
/-- what __init__ (self, x): self.f = x does with an exception that is being made -/
def spX1 (K : PySem.W.Frag) (C : Addr) (f : Str) : Sp := fun vs H Q _ => ∃ (a : Addr) (y : V), vs = [.ref a, y] ∧ OexC K C ∧ PySem.W.findIn K (.ref C) f = some none ∧ H a = some (exo a C none) ∧
  ∀ d, H d = none → d ≠ a → Q .non (upd (upd H d (exd d [(f, y)])) a (exo a C (some d)))
def spX2 (K : PySem.W.Frag) (C : Addr) (f f2 : Str) : Sp := fun vs H Q _ => ∃ (a : Addr) (y z : V), vs = [.ref a, y, z] ∧ OexC K C ∧ PySem.W.findIn K (.ref C) f = some none ∧ PySem.W.findIn K (.ref C) f2 = some none ∧ H a = some (exo a C none) ∧
  ∀ d, H d = none → d ≠ a → Q .non (upd (upd (upd H d (exd d [(f, y)])) a (exo a C (some d))) d (exd d [(f2, z), (f, y)]))
section
variable {K : PySem.W.Frag} {C : Addr} {f f2 : Str} {vs : List V} {H : Hp} {Q : VK} {E : XK} {N : List Str}
theorem x1_len (h : spX1 K C f vs H Q E) : vs.length = 2 := by obtain ⟨a, y, rfl, _⟩ := h; rfl
theorem x2_len (h : spX2 K C f f2 vs H Q E) : vs.length = 3 := by obtain ⟨a, y, z, rfl, _⟩ := h; rfl
theorem x1_reads (h : spX1 K C f vs H Q E) : tOst K f (tVar 0) (tVar 1) { nx := fun _ H' => Q .non H', rt := Q } (L2.start N vs) H := by
  obtain ⟨a, y, rfl, T, hf, ha, q⟩ := h
  exact ⟨y, rfl, .ref a, rfl, a, C, rfl, T, hf, .inl ⟨ha, fun d h1 h2 => q d h1 h2⟩⟩
theorem x2_reads (h : spX2 K C f f2 vs H Q E) : tSeq (tOst K f (tVar 0) (tVar 1)) (tOst K f2 (tVar 0) (tVar 2)) { nx := fun _ H' => Q .non H', rt := Q } (L2.start N vs) H := by
  obtain ⟨a, y, z, rfl, T, hf, hf2, ha, q⟩ := h
  refine ⟨y, rfl, .ref a, rfl, a, C, rfl, T, hf, .inl ⟨ha, fun d h1 h2 => ?_⟩⟩
  exact ⟨z, rfl, .ref a, rfl, a, C, rfl, T, hf2, .inr ⟨d, [(f, y)], upd_same, by rw [upd_ne h2, upd_same], (by show 1 ≤ 900; decide), q d h1 h2⟩⟩
/-- the heap behind the making: the exception is gone, its dict stands -/
theorem made_heap {a d : Addr} {o o' u : HO} (ha : H a = none) (hd : d ≠ a) : upd (del (upd (upd (upd H a o) d o') a u) a) d = upd H d := by
  funext v b
  by_cases z : b = d
  · rw [z, upd_same, upd_same]
  · rw [upd_ne z, upd_ne z]
    by_cases y : b = a
    · rw [y, del_same, ha]
    · rw [del_ne y, upd_ne y, upd_ne z, upd_ne y]
theorem made_heap2 {a d : Addr} {o o' u o2 : HO} (ha : H a = none) (hd : d ≠ a) : upd (del (upd (upd (upd (upd H a o) d o') a u) d o2) a) d = upd H d := by
  funext v b
  by_cases z : b = d
  · rw [z, upd_same, upd_same]
  · rw [upd_ne z, upd_ne z]
    by_cases y : b = a
    · rw [y, del_same, ha]
    · rw [del_ne y, upd_ne z, upd_ne y, upd_ne z, upd_ne y]
end
def sRaise0 (n : Str) : SS := fun ρ g => some (.exc n [] ρ, g)
def sRaise1 (n f : Str) (a : SA) : SS := fun ρ g => match a ρ g with
  | some (.ok [d], g) => some (.exc n [(f, d)] ρ, g)
  | some (.exc m fs, g) => some (.exc m fs ρ, g)
  | _ => none
def sRaise2 (n f f2 : Str) (a : SA) : SS := fun ρ g => match a ρ g with
  | some (.ok [d, e], g) => some (.exc n [(f2, e), (f, d)] ρ, g)
  | some (.exc m fs, g) => some (.exc m fs ρ, g)
  | _ => none
section
variable {c : Ct} {F0 H0 F H F' H' F1 : Hp} {σ : St} {ρ : Env} {O O1 O' OL : List Nat} {W : WX} {g g' : G} {te ta tb tc : TE} {e a b : SE} {n f f2 : Str}
theorem snd_raise0 : SndS c O O' OL W (fun _ σ H => W (.ref (c.ca n)) none σ H) (sRaise0 n) := fun F0 H0 F H σ ρ g r g' S q D p => by
  cases q
  obtain ⟨F2, e2, S2⟩ := S.bare
  exact p _ _ σ F2 H e2 S2 ⟨rfl, .inl ⟨rfl, rfl⟩⟩
theorem snd_raise1 {tr : TA} {ar : SA} (T : OexC c.K (c.ca n)) (hf : PySem.W.findIn c.K (.ref (c.ca n)) f = some none) (h : SndA c O W tr ar) :
    SndS c O O' OL W (fun _ σ H => tMkO (c.ca n) (spX1 c.K (c.ca n) f) [] tr σ H fun cls d H' => W cls d σ H') (sRaise1 n f ar) := fun F0 H0 F H σ ρ g r g' S q D p => by
  unfold sRaise1 at q
  split at q
  · rename_i d g1 z
    cases q
    refine h _ _ _ _ _ _ _ _ _ S z _ fun vs F1 H1 G1 S1 rs => ?_
    obtain ⟨v, r, rfl, hv, hr⟩ := rs
    cases hr
    refine ⟨by show 1 ≤ 1000; decide, fun l hl => ⟨l, v, rfl, T, hf, upd_same, fun dx h1 h2 => ⟨rfl, dx, [(f, v)], upd_same, by rw [upd_ne h2, upd_same], ?_, ?_⟩⟩⟩
    · rw [upd_ne h2] at h1
      exact h1
    · rw [made_heap hl h2]
      have hdx : H1 dx = none := by rw [upd_ne h2] at h1; exact h1
      have P := gp_open (o := .xd [(f, v)]) S1.ex hdx
      obtain ⟨F2, e2, S2⟩ := (S1.pure P).bare
      exact p _ _ σ F2 _ ((G1.trans P.gr).ex.trans e2) S2 ⟨rfl, .inr ⟨dx, [(f, v)], rfl, upd_same, v, [], rfl, (hv.mono P.ex).mono e2, rfl⟩⟩
  · rename_i m fs g1 z
    cases q
    exact h _ _ _ _ _ _ _ _ _ S z _ (postX_of S p)
  · cases q
theorem snd_raise2 {tr : TA} {ar : SA} (T : OexC c.K (c.ca n)) (hf : PySem.W.findIn c.K (.ref (c.ca n)) f = some none) (hf2 : PySem.W.findIn c.K (.ref (c.ca n)) f2 = some none) (h : SndA c O W tr ar) :
    SndS c O O' OL W (fun _ σ H => tMkO (c.ca n) (spX2 c.K (c.ca n) f f2) [] tr σ H fun cls d H' => W cls d σ H') (sRaise2 n f f2 ar) := fun F0 H0 F H σ ρ g r g' S q D p => by
  unfold sRaise2 at q
  split at q
  · rename_i d e g1 z
    cases q
    refine h _ _ _ _ _ _ _ _ _ S z _ fun vs F1 H1 G1 S1 rs => ?_
    obtain ⟨v, r, rfl, hv, u, r2, rfl, hu, hr⟩ := rs
    cases hr
    refine ⟨by show 2 ≤ 1000; decide, fun l hl => ⟨l, v, u, rfl, T, hf, hf2, upd_same, fun dx h1 h2 => ⟨rfl, dx, [(f2, u), (f, v)], by rw [upd_ne (Ne.symm h2), upd_same], upd_same, ?_, ?_⟩⟩⟩
    · rw [upd_ne h2] at h1
      exact h1
    · rw [made_heap2 hl h2]
      have hdx : H1 dx = none := by rw [upd_ne h2] at h1; exact h1
      have P := gp_open (o := .xd [(f2, u), (f, v)]) S1.ex hdx
      obtain ⟨F2, e2, S2⟩ := (S1.pure P).bare
      exact p _ _ σ F2 _ ((G1.trans P.gr).ex.trans e2) S2 ⟨rfl, .inr ⟨dx, [(f2, u), (f, v)], rfl, upd_same, u, _, rfl, (hu.mono P.ex).mono e2, v, [], rfl, (hv.mono P.ex).mono e2, rfl⟩⟩
  · rename_i m fs g1 z
    cases q
    exact h _ _ _ _ _ _ _ _ _ S z _ (postX_of S p)
  · cases q
end
end MP

namespace MP
open PySem L2
/-- a call that lets nothing out -/
theorem passF {X : Cx} {W : WX} (tk : Takes X W) : Passes (L2.CX X.prog X.w) X (fun _ _ _ => False) := fun _ σ _ _ e s' I c => tk e s' (XE.of_call (σ := σ) I (fun _ _ _ h => h.elim) c)
end MP

set_option maxRecDepth 100000
set_option maxHeartbeats 1000000
namespace MP
open PySem L2
open Evl (Ex ex_rd ex_l ex_t)
/-! ### + of numbers, lists, tuples and texts; list * number -/
def rAddS : R2 := fun x y H Q => ∃ i j, x = .str i ∧ y = .str j ∧ i.length + j.length ≤ sizeLine ∧ Q (.str (i ++ j)) H
def rAddX (K : PySem.W.Frag) : R2 := fun x y H Q => rI0 (fun i j => .int (i + j)) x y H Q ∨ (rCat x y H Q ∨ (rCatA K x y H Q ∨ rAddS x y H Q))
theorem op_addX {X : Cx} : OpR X (binaryOp .Add) (rAddX X.K) := OpR.or op_add (OpR.or op_cat (OpR.or op_catA op_add_str))
def fAdd : D → D → Option D
  | .int i, .int j => some (.int (i + j))
  | .lst a, .lst b => if szB (a.length + b.length) = true then some (.lst (a ++ b)) else none
  | .tup a, .tup b => if szB (a.length + b.length) = true then some (.tup (a ++ b)) else none
  | .str a, .str b => if szB (a.length + b.length) = true then some (.str (a ++ b)) else none
  | _, _ => none
def fAddL : D → D → Option D
  | .lst a, .lst b => if szB (a.length + b.length) = true then some (.lst (a ++ b)) else none
  | _, _ => none
def rMulX2 (C : Int → Int → Prop) : R2 := fun x y H Q => rI C (fun i j => .int (i * j)) x y H Q ∨ rRep x y H Q
theorem op_mulXX {X : Cx} : OpR X (binaryOp .Mult) (rMulX2 CMulX) := OpR.or op_mulX op_rep
def fMulL : D → D → Option D
  | .lst a, .int k => if (small62 k && szB (a.length * k.toNat)) = true then some (.lst (List.replicate k.toNat a).flatten) else none
  | _, _ => none
def fMul : D → D → Option D
  | .int i, .int j => if cMul i j = true then some (.int (i * j)) else none
  | .lst a, .int k => if (small62 k && szB (a.length * k.toNat)) = true then some (.lst (List.replicate k.toNat a).flatten) else none
  | _, _ => none
section
variable {c : Ct} {F0 H0 F H F' H' F1 : Hp} {σ : St} {ρ : Env} {O O1 O' OL : List Nat} {W : WX} {g g' : G} {te ta tb tc : TE} {e a b : SE}
theorem brep_str {i : Str} {v : V} (h : BRep c F H (.str i) v) : v = .str i := h.rep rfl
theorem Reps.flat {ds : List D} {vs : List V} (h : Reps c F ds vs) : ∀ n : Nat, Reps c F (List.replicate n ds).flatten (List.replicate n vs).flatten
  | 0 => rfl
  | n + 1 => by
    rw [List.replicate_succ, List.replicate_succ, List.flatten_cons, List.flatten_cons]
    exact h.append (Reps.flat h n)
theorem snd_addX (ha : SndR c O W ta a) (hb : SndR c O W tb b) : SndE c O W (tOp (rAddX c.K) ta tb) (eOp fAdd a b) := fun F0 H0 F H σ ρ g ro g' S q Q p => by
  have p0 := p.x
  refine ha.bind S q p0 fun x g1 vx F1 H1 q1 G1 S1 rx => ?_
  refine hb.bind S1 q1 (PostX.gr' p0 G1) fun y g2 vy F2 H2 q2 G2 S2 ry => ?_
  have rx2 := rx.gr G2
  have G3 := G1.trans G2
  cases z : fAdd x y with
  | none => simp only [z] at q2; cases q2
  | some d =>
    simp only [z] at q2
    cases q2
    unfold fAdd at z
    split at z
    · cases z
      rw [brep_int rx2, brep_int ry]
      exact .inl ⟨_, _, rfl, rfl, p _ F2 H2 G3 S2 rfl⟩
    · split at z
      · rename_i k
        cases z
        obtain ⟨l, vs, h1, h2, h3⟩ := rx2.lst S2.ex
        obtain ⟨m, ws, k1, k2, k3⟩ := ry.lst S2.ex
        refine .inr (.inl ⟨l, m, vs, ws, h1, k1, h2, k2, by rw [h3.len, k3.len]; exact szB_ok k, fun n hn => ?_⟩)
        have P := gp_new (o := .lst (vs ++ ws)) S2.ex hn
        exact p _ _ _ (G3.trans P.gr) (S2.pure P) ⟨n, _, rfl, upd_same, (h3.append k3).mono P.ex⟩
      · cases z
    · split at z
      · rename_i ds es k
        cases z
        · have rx2 := rx2.rep rfl
          have ry := ry.rep rfl
          · obtain ⟨l, vs, h1, h2, h3⟩ := id rx2
            obtain ⟨m, ws, k1, k2, k3⟩ := id ry
            refine .inr (.inr (.inl ⟨l, m, vs, ws, h1, k1, ex_t S2.ex h2, ex_t S2.ex k2, by rw [h3.len, k3.len]; exact szB_ok k, fun w => ?_, fun w w2 => ?_, fun w w2 n hn => ?_⟩))
            · have : ds = [] := by
                have := h3.len
                rw [w] at this
                exact List.length_eq_zero_iff.mp this.symm
              subst this
              rw [← k1]
              exact p vy F2 H2 G3 S2 ry
            · have : es = [] := by
                have := k3.len
                rw [w2] at this
                exact List.length_eq_zero_iff.mp this.symm
              subst this
              rw [← h1]
              exact p vx F2 H2 G3 S2 (by rw [List.append_nil]; exact rx2)
            · have P := gp_new (o := .tup (vs ++ ws)) S2.ex hn
              exact p _ _ _ (G3.trans P.gr) (S2.pure P) ⟨n, _, rfl, SqT.of upd_same, (h3.append k3).mono P.ex⟩
      · cases z
    · split at z
      · rename_i k
        cases z
        rw [brep_str rx2, brep_str ry]
        exact .inr (.inr (.inr ⟨_, _, rfl, rfl, szB_ok k, p _ F2 H2 G3 S2 rfl⟩))
      · cases z
    · cases z
theorem snd_addL (ha : SndR c O W ta a) (hb : SndR c O W tb b) : SndL c O W (tOp rCat ta tb) (eOp fAddL a b) := fun F0 H0 F H σ ρ g ro g' S q Q p => by
  have p0 : ∀ (n : Str) (fs : List (Str × D)), ro = Out.exc n fs → PostX c F0 H0 σ ρ O W F H n fs g' := fun n fs e => by subst e; exact p
  refine ha.bind S q p0 fun x g1 vx F1 H1 q1 G1 S1 rx => ?_
  refine hb.bind S1 q1 (PostX.gr' p0 G1) fun y g2 vy F2 H2 q2 G2 S2 ry => ?_
  have rx2 := rx.gr G2
  have G3 := G1.trans G2
  cases z : fAddL x y with
  | none => simp only [z] at q2; cases q2
  | some d =>
    simp only [z] at q2
    cases q2
    unfold fAddL at z
    split at z
    · split at z
      · rename_i k
        cases z
        obtain ⟨l, vs, h1, h2, h3⟩ := rx2.lst S2.ex
        obtain ⟨m, ws, k1, k2, k3⟩ := ry.lst S2.ex
        refine ⟨l, m, vs, ws, h1, k1, h2, k2, by rw [h3.len, k3.len]; exact szB_ok k, fun n hn => ?_⟩
        have P := gp_open (o := .lst (vs ++ ws)) S2.ex hn
        exact p n _ _ _ (G3.trans P.gr) (S2.pure P) (G3.dom n hn) (ex_none S2.ex hn) (hd_ne S2 hn) upd_same ((h3.append k3).mono P.ex)
      · cases z
    · cases z
theorem snd_mulX (ha : SndR c O W ta a) (hb : SndE c O W tb b) : SndE c O W (tOp (rMulX2 CMulX) ta tb) (eOp fMul a b) := fun F0 H0 F H σ ρ g ro g' S q Q p => by
  have p0 := p.x
  refine ha.bind S q p0 fun x g1 vx F1 H1 q1 G1 S1 rx => ?_
  refine hb.bind S1 q1 (p.gr G1) fun y g2 vy F2 H2 q2 G2 S2 ry => ?_
  have rx2 := rx.gr G2
  have G3 := G1.trans G2
  cases z : fMul x y with
  | none => simp only [z] at q2; cases q2
  | some d =>
    simp only [z] at q2
    cases q2
    unfold fMul at z
    split at z
    · split at z
      · rename_i k
        cases z
        cases ry
        rw [brep_int rx2]
        exact .inl ⟨_, _, rfl, rfl, cMul_ok k, p _ F2 H2 G3 S2 rfl⟩
      · cases z
    · split at z
      · rename_i ds i k
        cases z
        cases ry
        obtain ⟨k1, k2⟩ := Bool.and_eq_true_iff.mp k
        obtain ⟨l, vs, h1, h2, h3⟩ := rx2.lst S2.ex
        obtain ⟨m1, m2⟩ := small62_ok k1
        refine .inr ⟨l, _, vs, h1, rfl, h2, by omega, by omega, by rw [h3.len]; exact szB_ok k2, fun n hn => ?_⟩
        have P := gp_new (o := .lst (List.replicate i.toNat vs).flatten) S2.ex hn
        exact p _ _ _ (G3.trans P.gr) (S2.pure P) ⟨n, _, rfl, upd_same, (h3.flat _).mono P.ex⟩
      · cases z
    · cases z
theorem snd_mulL (ha : SndR c O W ta a) (hb : SndE c O W tb b) : SndL c O W (tOp rRep ta tb) (eOp fMulL a b) := fun F0 H0 F H σ ρ g ro g' S q Q p => by
  have p0 : ∀ (n : Str) (fs : List (Str × D)), ro = Out.exc n fs → PostX c F0 H0 σ ρ O W F H n fs g' := fun n fs e => by subst e; exact p
  refine ha.bind S q p0 fun x g1 vx F1 H1 q1 G1 S1 rx => ?_
  have p1 := PostX.gr' p0 G1
  have pe : PostE c F0 H0 σ ρ O W F1 H1 (match ro with | .ok _ => .ok .non | .exc n fs => .exc n fs) g' (fun _ _ => True) := by
    cases ro with
    | ok d => exact fun _ _ _ _ _ _ => True.intro
    | exc n fs => exact p1 n fs rfl
  rcases bE_some q1 with ⟨y, g2, q3, q4⟩ | ⟨n, fs, q3, q4⟩
  · refine hb _ _ _ _ _ _ _ _ _ S1 q3 _ fun vy F2 H2 G2 S2 ry => ?_
    have rx2 := rx.gr G2
    have G3 := G1.trans G2
    cases z : fMulL x y with
    | none => simp only [z] at q4; cases q4
    | some d =>
      simp only [z] at q4
      cases q4
      unfold fMulL at z
      split at z
      · split at z
        · rename_i ds i k
          cases z
          cases ry
          obtain ⟨k1, k2⟩ := Bool.and_eq_true_iff.mp k
          obtain ⟨l, vs, h1, h2, h3⟩ := rx2.lst S2.ex
          obtain ⟨m1, m2⟩ := small62_ok k1
          refine ⟨l, _, vs, h1, rfl, h2, by omega, by omega, by rw [h3.len]; exact szB_ok k2, fun n hn => ?_⟩
          have P := gp_open (o := .lst (List.replicate i.toNat vs).flatten) S2.ex hn
          exact p n _ _ _ (G3.trans P.gr) (S2.pure P) (G3.dom n hn) (ex_none S2.ex hn) (hd_ne S2 hn) upd_same ((h3.flat _).mono P.ex)
        · cases z
      · cases z
  · subst q4
    exact hb _ _ _ _ _ _ _ _ _ S1 q3 _ (p1 n fs rfl)
end
end MP

set_option maxRecDepth 100000
set_option maxHeartbeats 1000000
namespace MP
open PySem L2
section
variable {c : Ct} {O : List Nat} {W : WX} {ta tb : TE} {a b : SE}
def cShr (_ j : Int) : Bool := decide (0 ≤ j)
theorem snd_shr (ha : SndE c O W ta a) (hb : SndE c O W tb b) : SndE c O W (tOp (rI (fun _ j => 0 ≤ j) fun i j => .int (i / 2 ^ j.toNat)) ta tb) (eOp (fI cShr fun i j => i / 2 ^ j.toNat) a b) := snd_op ha hb (rv_I fun _ _ h => of_decide_eq_true h)
theorem snd_and2 (ha : SndE c O W ta a) (hb : SndE c O W tb b) : SndE c O W (tOp (rI0 fun i j => .int (Builtin.bitAnd i j)) ta tb) (eOp (fI0 fun i j => Builtin.bitAnd i j) a b) := snd_op ha hb rv_I0
theorem snd_or2 (ha : SndE c O W ta a) (hb : SndE c O W tb b) : SndE c O W (tOp (rI0 fun i j => .int (Builtin.bitOr i j)) ta tb) (eOp (fI0 fun i j => Builtin.bitOr i j) a b) := snd_op ha hb rv_I0
end
theorem eop_lst {f : D → D → Option D} (h : ∀ x y d, f x y = some d → ∃ ds, d = .lst ds) {e e2 : SE} : ∀ ρ g d g', eOp f e e2 ρ g = some (.ok d, g') → ∃ ds, d = .lst ds := fun ρ g d g' q => by
  unfold eOp at q
  rcases bE_some q with ⟨x, g1, q1, q2⟩ | ⟨n, k, _, q1⟩
  · rcases bE_some q2 with ⟨y, g2, q3, q4⟩ | ⟨n, k, _, q3⟩
    · cases z : f x y with
      | none => simp only [z] at q4; cases q4
      | some d' =>
        simp only [z] at q4
        cases q4
        exact h x y _ z
    · cases q3
  · cases q1
theorem lst_addL {e e2 : SE} : ∀ ρ g d g', eOp fAddL e e2 ρ g = some (.ok d, g') → ∃ ds, d = .lst ds := eop_lst fun x y d q => by
  unfold fAddL at q
  split at q
  · split at q
    · cases q; exact ⟨_, rfl⟩
    · cases q
  · cases q
theorem lst_mulL {e e2 : SE} : ∀ ρ g d g', eOp fMulL e e2 ρ g = some (.ok d, g') → ∃ ds, d = .lst ds := eop_lst fun x y d q => by
  unfold fMulL at q
  split at q
  · split at q
    · cases q; exact ⟨_, rfl⟩
    · cases q
  · cases q
theorem lst_span {e : SE} : ∀ ρ g d g', eUn (fSpan true) e ρ g = some (.ok d, g') → ∃ ds, d = .lst ds := fun ρ g d g' q => by
  unfold eUn at q
  rcases bE_some q with ⟨x, g1, q1, q2⟩ | ⟨n, k, _, q1⟩
  · cases z : fSpan true x with
    | none => simp only [z] at q2; cases q2
    | some y =>
      simp only [z] at q2
      cases q2
      unfold fSpan at z
      split at z
      · split at z
        · cases z; exact ⟨_, rfl⟩
        · cases z
      · cases z
  · cases q1
section
variable {P : Program} {w : World} {K : PySem.W.Frag} {x qual : Str} {params : Arguments} {body : List Stmt} {scope : Scope} {dvs : List V} {kws : List (Str × V)} {f : Addr} {fd : FuncData} {ps : List Str}
/-- a def with defaults, all arguments written -/
theorem bindsAll (F : FunD K x qual params body scope dvs kws f fd) (hd : dvs ≠ [])
    (h : ∀ (T : Addr) (kV doc pm : Value) (an : Option Addr) (cdv ct : Value) (us its : List Value), us.length = ps.length → its.length = dvs.length →
      ∃ k, bindArgs (PySem.W.fnOf x qual params body scope (.ref T) kV doc pm an cdv ct) ⟨us, []⟩ = seqItems? (.ref T) >>= k ∧ k (some its.toArray) = pure (ps.zip us)) : Binds K fd ps [] := by
  obtain ⟨ds, hv, hb⟩ := F.binds1 ps.length dvs.length hd (by rw [Nat.sub_self]; rfl) fun T kV doc pm an cdv ct us its hu hi => by
    obtain ⟨k, e1, e2⟩ := h T kV doc pm an cdv ct us its hu hi
    exact ⟨k, e1, by rw [e2, ← hi, List.drop_length, List.append_nil]⟩
  rw [List.drop_length] at hv
  cases hv
  exact hb
end
theorem Pk.int {fa : List He.Fa} {fn : List He.DefD} {K : PySem.W.Frag} {mg : Str → Option Value} (Z : Pk fa fn K mg) (i : Nat) {x : Str} {n : Int} (h : fa[i]? = some (.int x n) := by rfl) : ∃ t, mg x = some (.int n t) := by
  obtain ⟨h0, X, G⟩ := Z.mod
  exact He.int_ok X G (Z.says.fact i h)
end MP

set_option maxRecDepth 100000
set_option maxHeartbeats 1000000
namespace MP
open PySem L2
open Evl (Ex ex_rd ex_l ex_t)
/-! ### a comprehension within a comprehension -/
theorem relabel_rel {outer : Scope} {env : PySem.Env} {sc0 : Scope} (h : env.scope = sc0) : relabel outer env = relS outer sc0 := by
  subst h
  rfl
theorem blkOk_in {N : List Str} {sc0 outer scope : Scope} {own : List (Str × Nat)} {env : PySem.Env} (hs : env.scope = sc0) (h : blkC N (relS outer sc0) scope own = true) : BlkOk N (relabel outer env) scope own := by
  rw [relabel_rel hs]
  exact blkOk_by h
/-! ### any(xs), all(xs): numbers, truths, None -/
def truV : V → Bool
  | .bl b => b
  | .int i => i != 0
  | _ => false
def plainV : V → Bool
  | .bl _ => true
  | .int _ => true
  | .non => true
  | _ => false
theorem truth_plain {prog : Program} {w : World} {A : Around} {vs : List V} {its : List Value} (r : Vals vs its) (k : vs.all plainV = true) :
    TruthOf prog w A (fun i v => its.toArray[i]? = some v) (fun i => (vs.map truV).getD i false) := fun i v s Q E hv hq => by
  have hv' : its[i]? = some v := by simpa using hv
  have hl : i < vs.length := by
    have := r.length
    have := (List.getElem?_eq_some_iff.mp hv').1
    omega
  obtain ⟨u, hu, ru⟩ := r.get (List.getElem?_eq_getElem hl)
  rw [hv'] at hu
  cases hu
  have hk := List.all_eq_true.mp k vs[i] (List.getElem_mem hl)
  have hg : (vs.map truV).getD i false = truV vs[i] := by rw [List.getD_eq_getElem?_getD, List.getElem?_map, List.getElem?_eq_getElem hl] <;> rfl
  have hq' : Q ((vs.map truV).getD i false) s := hq
  rw [hg] at hq'
  revert ru hk hq'
  generalize vs[i] = y
  intro ru hk hq'
  cases y with
  | bl b =>
    cases (show v = Value.bool b from ru)
    exact wpAny_truthy_bool hq'
  | int j =>
    obtain ⟨t, e⟩ := (show ∃ t, v = Value.int j t from ru)
    subst e
    exact PyProof.Rows.truthy_int hq'
  | non =>
    cases (show v = Value.none from ru)
    exact fun _ _ _ => hq'
  | _ => cases hk
def rAnyX (K : PySem.W.Frag) : List V → Hp → VK → Prop := fun vs H Q => ∃ (a : Addr) (ys : List V), vs = [V.ref a] ∧ SqL K H a ys ∧ ys.all plainV = true ∧ Q (.bl ((ys.map truV).any id)) H
def rAllX (K : PySem.W.Frag) : List V → Hp → VK → Prop := fun vs H Q => ∃ (a : Addr) (ys : List V), vs = [V.ref a] ∧ SqL K H a ys ∧ ys.all plainV = true ∧ Q (.bl ((ys.map truV).all id)) H
theorem cr_anyX {X : Cx} (hc : X.calm = true) : CallR X (.builtin "any") (rAnyX X.K) := by
  intro pins s σ H vs us Q I r h
  obtain ⟨a, ys, rfl, hs, hp, q⟩ := h
  obtain ⟨its, rv, hl, _⟩ := I.list hs
  rw [Vals.ref1 r]
  refine call_any_walk (iter_any hl.isList fun s₂ e2 st hne => ?_)
  subst e2
  refine ⟨_, _, _, _, _, _, _, rfl, Walks.list (A := X.A.in1) (I.ok.hd hc) _ a hne its.toArray, st, truth_plain rv hp, fun h' tk hk => ?_⟩
  refine ⟨.bl _, H, I.kept fun b o eo => hk b o (fun hmem => ?_) (Heap.get?_push_of_some _ eo), ?_, q⟩
  · rcases List.mem_cons.mp hmem with e1 | hmem
    · exact absurd (e1 ▸ Heap.lt_size eo) (Nat.lt_irrefl _)
    · cases hmem
  · show Value.bool _ = Value.bool _
    rw [← L2.any_range, List.size_toArray, List.length_map, rv.length]
theorem cr_allX {X : Cx} (hc : X.calm = true) : CallR X (.builtin "all") (rAllX X.K) := by
  intro pins s σ H vs us Q I r h
  obtain ⟨a, ys, rfl, hs, hp, q⟩ := h
  obtain ⟨its, rv, hl, _⟩ := I.list hs
  rw [Vals.ref1 r]
  refine call_all_walk (iter_any hl.isList fun s₂ e2 st hne => ?_)
  subst e2
  refine ⟨_, _, _, _, _, _, _, rfl, Walks.list (A := X.A.in1) (I.ok.hd hc) _ a hne its.toArray, st, truth_plain rv hp, fun h' tk hk => ?_⟩
  refine ⟨.bl _, H, I.kept fun b o eo => hk b o (fun hmem => ?_) (Heap.get?_push_of_some _ eo), ?_, q⟩
  · rcases List.mem_cons.mp hmem with e1 | hmem
    · exact absurd (e1 ▸ Heap.lt_size eo) (Nat.lt_irrefl _)
    · cases hmem
  · show Value.bool _ = Value.bool _
    rw [← L2.all_range, List.size_toArray, List.length_map, rv.length]
def truD : D → Bool
  | .bl b => b
  | .int i => i != 0
  | _ => false
def plainD : D → Bool
  | .bl _ => true
  | .int _ => true
  | .non => true
  | _ => false
def fAny : D → Option D
  | .lst ds => if ds.all plainD = true then some (.bl (ds.any truD)) else none
  | _ => none
def fAll : D → Option D
  | .lst ds => if ds.all plainD = true then some (.bl (ds.all truD)) else none
  | _ => none
section
variable {c : Ct} {F0 H0 F H F' H' F1 : Hp} {σ : St} {ρ : Env} {O O1 O' OL : List Nat} {W : WX} {g g' : G} {te ta tb tc : TE} {e a b : SE}
theorem plains_rep : ∀ {ds : List D} {vs : List V}, Reps c F ds vs → ds.all plainD = true → vs.all plainV = true ∧ vs.map truV = ds.map truD
  | [], _, h, _ => by cases h; exact ⟨rfl, rfl⟩
  | d :: ds, _, ⟨v, r, h1, h2, h3⟩, k => by
    rw [List.all_cons, Bool.and_eq_true] at k
    obtain ⟨k1, k2⟩ := plains_rep h3 k.2
    subst h1
    rw [List.all_cons, Bool.and_eq_true, List.map_cons, List.map_cons, k2]
    have : plainV v = true ∧ truV v = truD d := by
      cases d <;> first | (cases k.1; done) | (cases h2; exact ⟨rfl, rfl⟩)
    exact ⟨⟨this.1, k1⟩, by rw [this.2]⟩
theorem rb_any : RB c (rAnyX c.K) fAny := fun F H d z v ex q rx Q p => by
  unfold fAny at q
  split at q
  · split at q
    · rename_i hk
      cases q
      obtain ⟨a, vs, h1, h2, h3⟩ := rx.lst ex
      obtain ⟨k1, k2⟩ := plains_rep h3 hk
      refine ⟨a, vs, by rw [h1], SqL.of h2, k1, p _ F H (.refl ex) ?_⟩
      rw [k2, List.any_map]
      rfl
    · cases q
  · cases q
theorem rb_all : RB c (rAllX c.K) fAll := fun F H d z v ex q rx Q p => by
  unfold fAll at q
  split at q
  · split at q
    · rename_i hk
      cases q
      obtain ⟨a, vs, h1, h2, h3⟩ := rx.lst ex
      obtain ⟨k1, k2⟩ := plains_rep h3 hk
      refine ⟨a, vs, by rw [h1], SqL.of h2, k1, p _ F H (.refl ex) ?_⟩
      rw [k2, List.all_map]
      rfl
    · cases q
  · cases q
/-! ### isinstance(x, (T, U)) -/
theorem snd_isi2 {T U : String} (h : SndR c O W ta a) : SndE c O W (tCB (rIsiT c.K) (tCons ta (tCons (tTup (tCons (tC (.ty T)) (tCons (tC (.ty U)) tNil))) tNil))) (eUn (fIsi2 T U) a) := fun F0 H0 F H σ ρ g o g' S q Q p => by
  refine h.bind S q p.x fun x g1 vx F1 H1 q1 G1 S1 rx => ?_
  unfold fIsi2 at q1
  cases z : tyOf x with
  | none => simp only [z] at q1; cases q1
  | some t =>
    cases z2 : kitB t T with
    | none => simp only [z, z2] at q1; cases q1
    | some b =>
      cases z3 : kitB t U with
      | none => simp only [z, z2, z3] at q1; cases q1
      | some b' =>
        simp only [z, z2, z3] at q1
        cases q1
        refine ⟨by show 2 ≤ sizeLine; decide, fun l hl => ?_⟩
        have P := gp_open (o := .tup [.ty T, .ty U]) S1.ex hl
        have S2 := S1.pure P
        refine ⟨vx, l, [.ty T, .ty U], .type t, [.type T, .type U], b || b', rfl, upd_same, .cons (.ty T) (.cons (.ty U) .nil), tyX_of S2.ex z (rx.gr P.gr), ?_, p _ _ _ (G1.trans P.gr) S2 rfl⟩
        refine kitAny_cons (kit_ty z2) (fun hb => ?_) (fun hb => by rw [hb]; rfl)
        subst hb
        refine kitAny_cons (kit_ty z3) (fun hb => ?_) (fun hb => by rw [hb]; rfl)
        subst hb
        exact kitAny_nil
/-! ### xs.index(y), y being there, flat items -/
def idxGo (y : D) : List D → Nat → Option Nat
  | [], _ => none
  | d :: ds, i => if eqF d y = true then some i else idxGo y ds (i + 1)
def fIndex (x y : D) : Option D := match x with
  | .lst ds => if (flatD y && ds.all flatD) = true then (idxGo y ds 0).map fun i => .int (i : Nat) else none
  | _ => none
theorem idxGo_some {y : D} : ∀ {ds : List D} {k i : Nat}, idxGo y ds k = some i → k ≤ i ∧ ∃ z, ds[i - k]? = some z ∧ eqF z y = true ∧ ∀ m z', m < i - k → ds[m]? = some z' → eqF z' y = false
  | [], _, _, h => by cases h
  | d :: ds, k, i, h => by
    unfold idxGo at h
    by_cases e : eqF d y = true
    · rw [if_pos e] at h
      cases h
      exact ⟨Nat.le_refl _, d, by simp, e, fun m z' hm => by omega⟩
    · rw [if_neg e] at h
      obtain ⟨h1, z, h2, h3, h4⟩ := idxGo_some h
      refine ⟨by omega, z, ?_, h3, fun m z' hm hz => ?_⟩
      · rw [show i - k = (i - (k + 1)) + 1 from by omega, List.getElem?_cons_succ]
        exact h2
      · cases m with
        | zero =>
          rw [List.getElem?_cons_zero] at hz
          cases hz
          exact Bool.eq_false_iff.mpr e
        | succ m =>
          rw [List.getElem?_cons_succ] at hz
          exact h4 m z' (by omega) hz
end
end MP

set_option maxRecDepth 100000
set_option maxHeartbeats 1000000
namespace MP
open PySem L2
open Evl (Ex ex_rd ex_l ex_t)
/-! ### self.f = e in an __init__: the object is owned by its slot -/
def putD (f : Str) (d : D) : List (Str × D) → List (Str × D)
  | [] => [(f, d)]
  | (g, x) :: r => if g = f then (g, d) :: r else (g, x) :: putD f d r
def few (n : Nat) : Bool := decide (n.log2 < 9)
theorem few_lt {n : Nat} (h : few n = true) : n < 1000 := by
  have := log_lt (of_decide_eq_true h)
  omega
def sSetF (i : Nat) (cs : List Str) (f : Str) (e : SE) : SS := fun ρ g => bV (e ρ g) ρ fun d g => match ρ[i]? with
  | some (some (.obj n fs)) => if (cs.contains n && few fs.length) = true then some (.nx (ρ.set i (some (.obj n (putD f d fs)))), g) else none
  | _ => none
section
variable {c : Ct} {F0 H0 F H F' H' F1 : Hp} {σ : St} {ρ : Env} {O O1 O' OL : List Nat} {W : WX} {g g' : G} {te ta tb tc : TE} {tt tu : TT} {e a b : SE} {ts ts1 ts2 : TS} {s s1 s2 : SS}
theorem RepF.put {f : Str} {d : D} {v : V} (h : Rep c F d v) : ∀ {fs : List (Str × D)} {vs : List (Str × V)}, RepF c F fs vs → RepF c F (putD f d fs) (putF f v vs)
  | [], _, k => by
    cases k
    exact ⟨v, [], rfl, h, rfl⟩
  | (n, x) :: fs, _, ⟨u, r, h1, h2, h3⟩ => by
    subst h1
    unfold putD putF
    by_cases q : n = f
    · rw [if_pos q, if_pos q]
      exact ⟨v, r, rfl, h, h3⟩
    · rw [if_neg q, if_neg q]
      exact ⟨u, _, rfl, h2, RepF.put h h3⟩
theorem snd_setF {i : Nat} {cs : List Str} {f : Str} (k : FldOk c cs f) (hi : i ∈ O) (h : SndE c O W te e) : SndS c O O OL W (sFld c.K (tVar i) te f) (sSetF i cs f e) := fun F0 H0 F H σ ρ g r g' S q D p => by
  unfold sSetF at q
  rcases bV_some q with ⟨d, g1, q1, q2⟩ | ⟨n, fs, q1, rfl⟩
  · refine h _ _ _ _ _ _ _ _ _ S q1 _ fun v F1 H1 G1 S1 rv => ?_
    split at q2
    · rename_i n fs hρ
      split at q2
      · rename_i hc
        cases q2
        obtain ⟨hc1, hc2⟩ := Bool.and_eq_true_iff.mp hc
        have hc1 : n ∈ cs := by simpa using hc1
        obtain ⟨u, h1, b, o, h3, h4, h5, h6, h7, h8⟩ := S1.own i _ hρ hi
        obtain ⟨dx, vs, rfl, h9⟩ := h8.obj
        subst h3
        refine ⟨.ref b, h1, b, c.ca n, dx, vs, rfl, h7, k.cls n hc1, k.noat n hc1, by rw [h9.len]; exact few_lt hc2, p σ F1 _ G1.ex ?_⟩
        exact S1.setMutO hi hρ h1 (d1 := .obj n (putD f d fs)) (o := .ins (c.ca n) dx (putF f v vs)) ⟨rfl, h9.put rv⟩
      · cases q2
    · cases q2
  · exact h _ _ _ _ _ _ _ _ _ S q1 _ (postX_of S p)
/-! ### C(..): the promise of an __init__ -/
/-- the heap without p -/
def cut (H : Hp) (p : Addr) : Hp := fun a => if a = p then none else H a
def specI (K : PySem.W.Frag) (ca : Str → Addr) (n : Str) (m : FM) : Sp := fun vs H Q E => ∃ hd F ds g r g' p dx rest, vs = .ref p :: rest ∧ H p = some (.ins (ca n) dx []) ∧ F p = none ∧ hd ≠ some p ∧ Ex F H ∧ HandAt ⟨K, ca, hd⟩ F H g ∧ Reps ⟨K, ca, hd⟩ F ds rest ∧ m ds g = some (r, g') ∧ (match r with
  | .ok d => ∃ fs, d = .obj n fs ∧ ∀ F' H' dx' vs', Gr ⟨K, ca, hd⟩ F (cut H p) F' H' → Ex F' H' → HandAt ⟨K, ca, hd⟩ F' H' g' → F' p = none → H' p = some (.ins (ca n) dx' vs') → RepF ⟨K, ca, hd⟩ F' fs vs' → Q .non H'
  | .exc en efs => ∀ cls dd F' H', Gr ⟨K, ca, hd⟩ F (cut H p) F' H' → Ex F' H' → HandAt ⟨K, ca, hd⟩ F' H' g' → ExcAt ⟨K, ca, hd⟩ F' H' en efs cls dd → E cls dd H')
/-- the meaning of a class's call by its __init__'s body -/
def mkInit (n : Str) (nn np : Nat) (s : SS) : FM := fun ds g => if ds.length + 1 = np then (match s (some (.obj n []) :: (ds.map some ++ List.replicate (nn - np) none)) g with
  | some (.nx ρ, g) => (match (ρ[0]? : Option (Option D)) with
    | some (some (.obj n' fs)) => if n' = n then some (.ok (.obj n' fs), g) else none
    | _ => none)
  | some (.exc x f _, g) => some (.exc x f, g)
  | _ => none) else none
theorem mkInit_len {n : Str} {nn np : Nat} {s : SS} : ∀ ds g r, mkInit n nn np s ds g = some r → ds.length + 1 = np := fun ds g r q => by
  unfold mkInit at q
  by_cases z : ds.length + 1 = np
  · exact z
  · rw [if_neg z] at q
    cases q
theorem init_start {c : Ct} {p : Addr} (hx : c.fx = fun _ => none) (hpn : c.pin = [(0, .ref p)]) {n : Str} {ds : List D} {vs : List V} {N : List Str} {np : Nat} {dx : Addr} (h : Reps c F ds vs) (hn : ds.length + 1 = np) (ex : Ex F H) (hh : HandAt c F H g) (h1 : H p = some (.ins (c.ca n) dx [])) (h2 : F p = none) (h3 : c.hd ≠ some p) :
    SR c F (cut H p) F H (L2.start N (.ref p :: vs)) (some (.obj n []) :: (ds.map some ++ List.replicate (N.length - np) none)) [0] g where
  ex := ex
  gr := ⟨.refl F, fun a o e _ => by
    unfold cut at e
    split at e
    · cases e
    · exact e, fun a e k => absurd e k, fun a e => by
    unfold cut
    split
    · rfl
    · exact e⟩
  len := by simp [L2.start, h.len]; omega
  val := fun i d k m => by
    cases i with
    | zero => exact absurd (by simp) m
    | succ i =>
      rw [List.getElem?_cons_succ] at k
      unfold L2.start
      rw [List.map_cons, List.cons_append, List.getElem?_cons_succ]
      by_cases l : i < ds.length
      · rw [List.getElem?_append_left (by simpa using l)] at k
        rw [List.getElem?_append_left (by simpa [h.len] using l)]
        rw [List.getElem?_map] at k
        cases z : ds[i]? with
        | none => rw [z] at k; cases k
        | some y =>
          rw [z] at k
          cases k
          obtain ⟨v, k1, k2⟩ := h.get z
          exact ⟨v, by rw [List.getElem?_map, k1]; rfl, k2⟩
      · rw [List.getElem?_append_right (by simpa using l)] at k
        have := List.mem_of_getElem? k
        rw [List.mem_replicate] at this
        exact absurd this.2 (Option.some_ne_none d)
  own := fun i d k m => by
    have : i = 0 := by simpa using m
    subst this
    rw [List.getElem?_cons_zero] at k
    cases k
    exact ⟨.ref p, rfl, p, _, rfl, by unfold cut; rw [if_pos rfl], h2, h3, h1, rfl, rfl⟩
  dis := fun i j d e hi hj ne => by
    have : i = 0 := by simpa using hi
    have : j = 0 := by simpa using hj
    omega
  hand := hh
  bs := by rw [hx]; intro a o e; cases e
  pn := by
    rw [hpn]
    intro i v m _
    rcases List.mem_cons.mp m with m | m
    · cases m
      rfl
    · cases m
theorem initBody_ok {c : Ct} {p : Addr} (hx : c.fx = fun _ => none) (hpn : c.pin = [(0, .ref p)]) {n : Str} {N : List Str} {np : Nat} {ts : TS} {s : SS} {vs : List V} {Q : VK} {E : XK} {F : Hp} {ds : List D} {g : G} {r : Out} {g' : G} {dx : Addr} {rest : List V}
    (h : SndS c [0] [0] OL (fun cls d _ H => E cls d H) ts s) (hv : vs = .ref p :: rest) (h1 : H p = some (.ins (c.ca n) dx [])) (h2 : F p = none) (h3 : c.hd ≠ some p) (ex : Ex F H) (hh : HandAt c F H g) (rs : Reps c F ds rest)
    (p2 : match r with
      | .ok d => ∃ fs, d = .obj n fs ∧ ∀ F' H' dx' vs', Gr c F (cut H p) F' H' → Ex F' H' → HandAt c F' H' g' → F' p = none → H' p = some (.ins (c.ca n) dx' vs') → RepF c F' fs vs' → Q .non H'
      | .exc en efs => ∀ cls dd F' H', Gr c F (cut H p) F' H' → Ex F' H' → HandAt c F' H' g' → ExcAt c F' H' en efs cls dd → E cls dd H')
    (q : mkInit n N.length np s ds g = some (r, g')) : ts { nx := fun _ H' => Q .non H', rt := Q } (L2.start N vs) H := by
  have hn := mkInit_len _ _ _ q
  subst hv
  unfold mkInit at q
  rw [if_pos hn] at q
  cases z : s (some (.obj n []) :: (ds.map some ++ List.replicate (N.length - np) none)) g with
  | none => rw [z] at q; cases q
  | some y =>
    obtain ⟨o, g1⟩ := y
    rw [z] at q
    refine h _ _ _ _ _ _ _ _ _ (init_start hx hpn rs hn ex hh h1 h2 h3) z _ ?_
    cases o with
    | nx ρ =>
      simp only at q
      split at q
      · rename_i n' fs hρ
        split at q
        · rename_i en
          subst en
          cases q
          obtain ⟨fs', e, k⟩ := p2
          cases e
          intro σ' F1 H1 e1 S1
          obtain ⟨v, k1, b, o, k2, k3, k4, k5, k6, k7⟩ := S1.own 0 _ hρ (by simp)
          obtain ⟨dx', vs', rfl, k8⟩ := k7.obj
          have eb : b = p := by
            have := S1.pn 0 (.ref p) (by rw [hpn]; exact List.mem_cons_self) (List.getElem?_eq_some_iff.mp k1).1
            rw [k1, k2] at this
            exact (V.ref.inj (Option.some.inj (Option.some.inj this)))
          subst eb
          exact k F1 H1 dx' vs' S1.gr S1.ex S1.hand k4 k6 k8
        · cases q
      · cases q
    | ret d => cases q
    | exc x fs ρ =>
      cases q
      exact fun cls dd σ F1 H1 _ S1 xx => p2 cls dd F1 H1 S1.gr S1.ex S1.hand xx
    | brk ρ => cases q
    | cnt ρ => cases q
end
abbrev cti (K : PySem.W.Frag) (ca : Str → Addr) (h : Option Addr) (p : Addr) : Ct := ⟨⟨K, ca, h⟩, [(0, .ref p)], fun _ => none⟩
section
variable {P : Program} {w : World} {K : PySem.W.Frag} {mg : Str → Option Value} {base : Heap} {x qual : Str} {params : Arguments} {body : List Stmt} {scope : Scope} {dvs : List V} {kws : List (Str × V)} {f : Addr} {fd : FuncData}
theorem specI_len {K : PySem.W.Frag} {ca : Str → Addr} {n : Str} {m : FM} {np : Nat} (h : ∀ ds g r, m ds g = some r → ds.length + 1 = np) : ∀ vs H Q E, specI K ca n m vs H Q E → vs.length = np := fun vs H Q E q => by
  obtain ⟨hd, F, ds, g, r, g', p, dx, rest, rfl, _, _, _, _, _, rs, q, _⟩ := q
  rw [List.length_cons, rs.len, h _ _ _ q]
theorem init_ok {ca : Str → Addr} {n : Str} {N ps : List Str} {k : Nat} {s : SS} (F : FunD K x qual params body scope dvs kws f fd) (S : FnScope N ps scope)
    (hb : ∀ (h : Option Addr) (p : Addr) (cdv : Value) (A : Around) (outer : List PySem.Env) (st : Shared) (H : Hp) (E : XK), RG k (A.deeper (PyProof.Rows.envOfC qual scope st.heap.objs.size f cdv)) → ∃ ts OL, PSs (cxOf (L2.CX P w) P w K mg base N qual scope f cdv A outer st H E) body ts ∧ SndS (cti K ca h p) [0] [0] OL (fun cls d _ H => E cls d H) ts s) :
    FnG P w K mg base (L2.CX P w) (k + 1) f fd ps (specI K ca n (mkInit n N.length ps.length s)) :=
  funD_okG F S (fun vs H Q E q => specI_len mkInit_len vs H Q E q) fun cdv A outer st H vs Q E hr q => by
    obtain ⟨hd, F1, ds, g, r, g', p, dx, rest, e1, e2, e3, e4, e5, e6, e7, e8, e9⟩ := q
    obtain ⟨ts, OL, h1, h2⟩ := hb hd p cdv A outer st H E hr
    exact ⟨ts, h1, initBody_ok (c := cti K ca hd p) rfl rfl h2 e1 e2 e3 e4 e5 e6 e7 e9 e8⟩
end
/-! ### the call -/
section
variable {X : Cx} {k : Nat} {f C : Addr} {fd : FuncData} {ps : List Str} {sp : Sp} {E : St → XK} {x : Str} {p pos : Pos} {e : Expr} {es : List Expr} {t : TA} {dvs : List V} {us0 : List Value}
def tMakeD (C : Addr) (sp : Sp) (dvs : List V) (E : St → XK) (t : TA) : TE := fun σ H Q => t σ H fun vs H1 => ∀ x dx, H1 x = none → H1 dx = none → dx ≠ x →
  sp (.ref x :: (vs ++ dvs)) (upd (upd H1 dx (.own x)) x (.ins C dx [])) (fun v H2 => v = .non ∧ Q (.ref x) H2) (E σ)
theorem run_makeD {pins : List (Addr × Obj)} {σ : St} {H : Hp} {s : Shared} {Q : VK} {us : List Value} {vs : List V} (M : Mk X.K C f) (F : FnG X.prog X.w X.K X.mg X.base (L2.CX X.prog X.w) k f fd ps sp) (hr : RG (k + 1) X.A) (hb : Binds X.K fd ps us0) (hd : Vals dvs us0)
    (hx : PassesAt (L2.CX X.prog X.w) X σ (E σ)) (I : Inv X pins σ H s) (r : Vals vs us)
    (h : ∀ x dx, H x = none → H dx = none → dx ≠ x → sp (.ref x :: (vs ++ dvs)) (upd (upd H dx (.own x)) x (.ins C dx [])) (fun v H2 => v = .non ∧ Q (.ref x) H2) (E σ)) :
    wpAny (model X.prog X.w) X.A (call (.ref C) us) (EP X pins σ Q) X.xe s := by
  have q0 := h (s.heap.objs.size + 1) s.heap.objs.size (I.hok.fresh (Nat.le_succ _)) (I.hok.fresh (Nat.le_refl _)) (Nat.ne_of_lt (Nat.lt_succ_self _))
  have J := Inv.made (C := C) I
  have rr : Vals (V.ref (s.heap.objs.size + 1) :: (vs ++ dvs)) (Value.ref (s.heap.objs.size + 1) :: (us ++ us0)) := .cons rfl (r.append hd)
  have hlen : (Value.ref (s.heap.objs.size + 1) :: us ++ us0).length = ps.length := by
    have z := rr.length
    rw [F.len _ _ _ _ q0] at z
    exact z.symm
  refine wpAny_call (make_map (f := f) I.kIn M.makes M.init (beq_iff_eq.mp M.fn) (codeAny_mono (F.run _ X.stack _ _ ⟨Value.ref (s.heap.objs.size + 1) :: us, []⟩ (Value.ref (s.heap.objs.size + 1) :: (us ++ us0)) _ _ (E σ) (hr.make C us [])
    (J.env0.make C us []) (hb _ (Value.ref (s.heap.objs.size + 1) :: us) J.kIn hlen) rr q0) fun r s' hq' => ?_))
  cases r with
  | error y => exact hx pins _ _ y s' J hq'
  | ok fl =>
    cases fl with
    | ret u =>
      obtain ⟨v, H', J2, rv, ev, q3⟩ := J.after hq'
      subst ev
      exact ⟨rv, ⟨V.ref (s.heap.objs.size + 1), H', J2, rfl, q3⟩⟩
    | next => exact hq'.elim
    | brk => exact hq'.elim
    | cont => exact hq'.elim
theorem pe_makeD (M : Mk X.K C f) (F : FnG X.prog X.w X.K X.mg X.base (L2.CX X.prog X.w) k f fd ps sp) (hr : RG (k + 1) X.A) (hg : Gl X x) (hm : X.mg x = some (.ref C)) (hb : Binds X.K fd ps us0) (hd : Vals dvs us0) (hx : ∀ σ, PassesAt (L2.CX X.prog X.w) X σ (E σ))
    (ha : PA X (e :: es) t) (hdb : (x == ("__debug__" : Str)) = false := by decide) (he : starEach (e :: es) X.env = (false, eval e X.env) :: starEach es X.env := by rfl) (hpl : (backTo pos (starEach es X.env)).any (·.1) = false := by rfl) :
    PE X (.Call (.Name x p) (e :: es) [] pos) (tMakeD C sp dvs E t) := by
  refine ⟨fun pins s σ H Q I h => wpAny_Call_Name_kw (ld_glob I hg hm ?_ hdb)⟩
  refine PySem.W.callWith_K (h₀ := X.base) I.ok.mod.kin M.kp (thn (ha.run pos pins s σ H _ I h) fun us s1 y => ?_) he hpl
  obtain ⟨vs, H1, I1, r, q⟩ := y
  exact ⟨I1.kIn, run_makeD M F hr hb hd (hx σ) I1 r q⟩
end
section
variable {c : Ct} {F0 H0 F H F' H' F1 : Hp} {σ : St} {ρ : Env} {O O1 O' OL : List Nat} {W : WX} {g g' : G} {te ta tb tc : TE} {e a b : SE}
def objOut (n : Str) : R → R
  | some (.ok (.obj n' fs), g) => if n' = n then some (.ok (.obj n' fs), g) else none
  | some (.ok _, _) => none
  | y => y
def eMake (n : Str) (m : FM) (dd : List D) (r : SA) : SE := eArgs (fun ds g => objOut n (m (ds ++ dd) g)) r
theorem objOut_some {n : Str} {x : R} {r : Out} {g' : G} (q : objOut n x = some (r, g')) : x = some (r, g') ∧ ((∃ fs, r = .ok (.obj n fs)) ∨ ∃ en efs, r = .exc en efs) := by
  unfold objOut at q
  split at q
  · split at q
    · rename_i e
      subst e
      cases q
      exact ⟨rfl, .inl ⟨_, rfl⟩⟩
    · cases q
  · cases q
  · rename_i h1 h2
    subst q
    cases r with
    | ok d => exact absurd rfl (h2 d g')
    | exc en efs => exact ⟨rfl, .inr ⟨en, efs, rfl⟩⟩
theorem snd_make {n : Str} {m : FM} {dd : List D} {dvs : List V} {tr : TA} {ar : SA} {E : St → XK} (h : SndA c O W tr ar) (hd : ∀ F, Reps c F dd dvs) (hE : ∀ σ, E σ = fun cls d H => W cls d σ H) : SndE c O W (tMakeD (c.ca n) (specI c.K c.ca n m) dvs E tr) (eMake n m dd ar) := fun F0 H0 F H σ ρ g o g' S q Q p => by
  refine h.bind S q p fun ds g1 vs F1 H1 q1 G1 S1 rs x dx hx hdx ne => ?_
  obtain ⟨q1, kind⟩ := objOut_some q1
  have fx : F1 x = none := ex_none S1.ex hx
  have fdx : F1 dx = none := ex_none S1.ex hdx
  have up : ∀ a o, H1 a = some o → upd (upd H1 dx (.own x)) x (.ins (c.ca n) dx []) a = some o := fun a o ha => by
    rw [upd_ne (ne_of_none ha hx), upd_ne (ne_of_none ha hdx)]
    exact ha
  have hand : HandAt c F1 (upd (upd H1 dx (.own x)) x (.ins (c.ca n) dx [])) g1 := by
    have z := S1.hand
    unfold HandAt at z ⊢
    cases w : c.hd with
    | none => trivial
    | some a =>
      rw [w] at z
      obtain ⟨k1, us, k2, k3⟩ := z
      exact ⟨k1, us, up _ _ k2, k3⟩
  -- from the heap without the object back to the caller's
  have back : ∀ {F2 H2 : Hp}, Gr c F1 (cut (upd (upd H1 dx (.own x)) x (.ins (c.ca n) dx [])) x) F2 H2 → Gr c F1 H1 F2 H2 := fun {F2 H2} G => ⟨G.ex, fun a o ha k => G.keep a o (by
      unfold cut
      rw [if_neg (ne_of_none ha hx)]
      exact up a o ha) k, fun a ha k => by
      have z := G.new a ha k
      unfold cut at z
      by_cases e : a = x
      · rw [e]; exact hx
      · rw [if_neg e, upd_ne e] at z
        by_cases e2 : a = dx
        · rw [e2]; exact hdx
        · rw [upd_ne e2] at z; exact z, fun a ha => by
      have z := G.dom a ha
      unfold cut at z
      by_cases e : a = x
      · rw [e]; exact hx
      · rw [if_neg e, upd_ne e] at z
        by_cases e2 : a = dx
        · rw [e2]; exact hdx
        · rw [upd_ne e2] at z; exact z⟩
  refine ⟨c.hd, F1, ds ++ dd, g1, o, g', x, dx, vs ++ dvs, rfl, upd_same, fx, hd_ne S1 hx, fun a o ha => up a o (S1.ex a o ha), hand, rs.append (hd F1), q1, ?_⟩
  cases o with
  | ok d =>
    rcases kind with ⟨fs, e⟩ | ⟨_, _, e⟩
    · cases e
      refine ⟨fs, rfl, fun F2 H2 dx' vs' G ex hh fp hp rf => ⟨rfl, ?_⟩⟩
      have G2 := back G
      have G3 : Gr c F1 H1 (upd F2 x (.ins (c.ca n) dx' vs')) H2 := gr_freeze G2 hx fp
      have e3 : Ex F2 (upd F2 x (.ins (c.ca n) dx' vs')) := Ex.new fp
      exact p _ _ _ (G1.trans G3) (S1.next G3 (ex.frz hp) (hand_freeze hh fp (hd_ne S1 hx))) ⟨x, dx', vs', rfl, upd_same, rf.mono e3⟩
    · cases e
  | exc en efs =>
    intro cls dd F2 H2 G ex hh xx
    have G2 := back G
    rw [hE]
    exact p cls dd F2 H2 (G1.trans G2) (S1.next G2 ex hh) xx
end
end MP

set_option maxRecDepth 100000
set_option maxHeartbeats 1000000
namespace MP
open PySem L2
open Evl (Ex ex_rd ex_l ex_t)
/-! ### tuple(list) as an object that is known -/
def rTupP (K : PySem.W.Frag) : List V → Hp → VK → Prop := fun xs H Q => ∃ p ys, xs = [.ref p] ∧ SqL K H p ys ∧ ∀ l ob, H l = none → ob.cls = .type "tuple" → ob.dict = none → Q (.ref l) (upd H l (.frz ob (.tup ys)))
theorem call_tupP {X : Cx} : CallR X (.type "tuple") (rTupP X.K) := by
  intro pins s σ H xs us Q I r h
  obtain ⟨p, ys, rfl, hq, q⟩ := h
  obtain ⟨u, rfl, rx⟩ := vals1 r
  cases rx
  obtain ⟨its, rr, pl, hz⟩ := I.list hq
  refine call_tuple_list pl.isList (fun h' kp => ?_) (by rw [List.size_toArray, ← rr.length]; exact hz)
  have J : Inv X pins σ H { s with heap := h' } := I.kept (t' := s.toks) kp
  have J2 : Inv X pins σ (upd H h'.objs.size (.frz { cls := .type "tuple", data := .seq its.toArray } (.tup ys))) { s with heap := h'.push { cls := .type "tuple", data := .seq its.toArray } } :=
    J.laid (t' := s.toks) (fun b o e => Heap.get?_push_of_some _ e) (Nat.le_refl _) ⟨Heap.get?_push_size _ rfl, hz, its, rr, PyProof.Rows.IsTup.new _ _⟩
  exact ⟨.ref h'.objs.size, _, J2, rfl, q _ _ (J.hok.fresh (Nat.le_refl _)) rfl rfl⟩
def fTupP : D → Option D
  | .lst ds => some (.ptup ds)
  | _ => none
/-! ### t.index(y), t such a tuple -/
def tTIx (te : TE) (t : TA) : TE := fun σ H Q => te σ H fun x H1 => ∃ a ob vs, x = .ref a ∧ H1 a = some (.frz ob (.tup vs)) ∧ ob.cls = .type "tuple" ∧ ob.dict = none ∧ t σ H1 fun ys H2 => ∃ y, ys = [y] ∧ H2 a = some (.frz ob (.tup vs)) ∧ flatV y = true ∧ vs.all flatV = true ∧
  ∃ (j : Nat) (z : V), vs[j]? = some z ∧ eqV z y = true ∧ (∀ (m : Nat) (z' : V), m < j → vs[m]? = some z' → eqV z' y = false) ∧ Q (.int (j : Nat)) H2
theorem pe_tix {X : Cx} {o e : Expr} {te : TE} {t : TA} {apos cpos : Pos} (ho : PE X o te) (ha : PA X [e] t)
    (hbase : attributeBase o "index" X.env (eval o X.env) = eval o X.env := by rfl)
    (hfew : ((backTo cpos (starEach [e] X.env)).all (fun x => !x.1) && (backToKw cpos (keywordEach [] X.env)).all (fun x => x.1.isSome)
      && decide ([e].length + ([] : List Keyword).length + (if ([] : List Keyword).isEmpty then 0 else 1) < 30)) = true := by rfl)
    (hline : (apos.endLine == cpos.line) = true := by rfl) (hs : starEach [e] X.env = (false, eval e X.env) :: starEach [] X.env := by rfl) (hplain : (backTo cpos (starEach [] X.env)).any (·.1) = false := by rfl) :
    PE X (.Call (.Attribute o "index" apos) [e] [] cpos) (tTIx te t) := by
  refine ⟨fun pins s σ H Q I h => wpAny_Call_method_late hbase hfew hline rfl (thn (ho.run pins s σ H _ I h) fun v s1 y => ?_)⟩
  obtain ⟨x, H1, I1, r1, a, ob, vs, rfl, ea, hc, hd, q1⟩ := y
  cases r1
  obtain ⟨eo, hl, its0, rv0, _⟩ := (show ObjOk X.prog X.w H1 s1.heap a (.frz ob (.tup vs)) from I1.hok a _ ea)
  refine ⟨"tuple", "tuple.index", PySem.F.plainAttrs_tuple, PySem.F.slot_tuple_index, PySem.F.type_tuple_index, ⟨ob, eo, hc⟩, fun b e => ?_, ?_⟩
  · cases e
    exact ⟨ob, eo, hd⟩
  have hA := ha.run cpos pins s1 σ H1 _ I1 q1
  rw [hs] at hA ⊢
  refine Calls.callWith_builtin (by show (false || (backTo cpos (starEach [] X.env)).any (·.1)) = false; rw [hplain] <;> rfl) (Calls.evalArgs_plain ?_)
  refine thn hA fun us s2 z => ?_
  obtain ⟨ys, H2, I2, r2, y, rfl, e2, fy, fys, j, z, hz, hzy, hno, q2⟩ := z
  obtain ⟨u, rfl, ru⟩ := vals1 r2
  obtain ⟨eo2, hl2, its, rv, ⟨o2, h1, h2, n, h3⟩⟩ := (show ObjOk X.prog X.w H2 s2.heap a (.frz ob (.tup vs)) from I2.hok a _ e2)
  rw [eo2] at h1
  cases h1
  obtain ⟨cls, dd, dt, sl⟩ := ob
  simp only at h2 h3
  subst h2 h3
  obtain ⟨uz, huz, ruz⟩ := rv.get hz
  obtain ⟨hjl, hje⟩ := List.getElem?_eq_some_iff.mp huz
  have hj : j < its.toArray.size := by simpa using hjl
  refine call_meets PySem.F.slot_tuple_index ⟨_, eo2, rfl⟩ PySem.F.entry_tuple_index (PySem.F.args_tuple_index_2 _ _) (TI.tuple_indexAt a its.toArray n dd sl u (eqU y) j hj ?_ ?_)
    ⟨eo2, fun w hw => mem_eqAt ru fy rv fys w (by simpa using hw), ⟨.int (j : Nat), H2, I2.tok _, ⟨_, rfl⟩, q2⟩⟩
  · have e1 : its.toArray[j] = uz := by simpa using hje
    rw [e1, eqU_of ruz (flat_at fys hz)]
    exact hzy
  · intro m hm hmj
    have hml : m < its.length := by simpa using hm
    have hmv : m < vs.length := by rw [rv.length]; exact hml
    obtain ⟨u2, hu2, ru2⟩ := rv.get (List.getElem?_eq_getElem hmv)
    have e1 : its.toArray[m] = u2 := by simpa using (List.getElem?_eq_some_iff.mp hu2).2
    rw [e1, eqU_of ru2 (flat_at fys (List.getElem?_eq_getElem hmv))]
    exact hno m _ hmj (List.getElem?_eq_getElem hmv)
section
variable {c : Ct} {F0 H0 F H F' H' F1 : Hp} {σ : St} {ρ : Env} {O O1 O' OL : List Nat} {W : WX} {g g' : G} {te ta tb tc : TE} {e a b : SE}
theorem snd_tupP (h : SndR c O W ta a) : SndE c O W (tCB (rTupP c.K) (tCons ta tNil)) (eUn fTupP a) := snd_b1 h fun F H d z v ex q rx Q p => by
  unfold fTupP at q
  split at q
  · cases q
    obtain ⟨l, vs, h1, h2, h3⟩ := rx.lst ex
    refine ⟨l, vs, by rw [h1], SqL.of h2, fun m ob hm hc hd => ?_⟩
    have P := gp_new (o := .frz ob (.tup vs)) ex hm
    exact p _ _ _ P ⟨m, ob, vs, rfl, upd_same, hc, hd, h3.mono P.ex⟩
  · cases q
def eTIx (a b : SE) : SE := fun ρ g => bE (a ρ g) fun x g => match x with
  | .ptup ds => bE (b ρ g) fun y g => if (flatD y && ds.all flatD) = true then (idxGo y ds 0).map fun i => (.ok (.int (i : Nat)), g) else none
  | _ => none
theorem snd_tix (ha : SndR c O W ta a) (hb : SndE c O W tb b) : SndE c O W (tTIx ta (tCons tb tNil)) (eTIx a b) := fun F0 H0 F H σ ρ g ro g' S q Q p => by
  refine ha.bind S q p.x fun x g1 vx F1 H1 q1 G1 S1 rx => ?_
  cases x with
  | ptup ds =>
    obtain ⟨l, ob, vs, h1, h2, h3, h4, h5⟩ := rx.rep rfl
    refine ⟨l, ob, vs, h1, S1.ex _ _ h2, h3, h4, hb.bind S1 q1 (p.gr G1) fun y g2 vy F2 H2 q2 G2 S2 ry => ?_⟩
    split at q2
    · rename_i hk
      obtain ⟨k1, k2⟩ := Bool.and_eq_true_iff.mp hk
      cases w : idxGo y ds 0 with
      | none => rw [w] at q2; cases q2
      | some i =>
        rw [w] at q2
        cases q2
        obtain ⟨_, u, hu, hy, hno⟩ := idxGo_some w
        rw [Nat.sub_zero] at hu hno
        have rs := Reps.mono G2.ex _ _ h5
        obtain ⟨v, hv, rv⟩ := rs.get hu
        refine ⟨vy, rfl, S2.ex _ _ (G2.ex _ _ h2), flat_rep ry k1, flats_rep rs k2, i, v, hv, ?_, fun m z' hm hz => ?_, p _ F2 H2 (G1.trans G2) S2 rfl⟩
        · rw [eq_rep rv (List.all_eq_true.mp k2 _ (List.mem_of_getElem? hu)) ry k1]
          exact hy
        · obtain ⟨dz, e1, e2⟩ := rs.get' hz
          rw [eq_rep e2 (List.all_eq_true.mp k2 _ (List.mem_of_getElem? e1)) ry k1]
          exact hno m dz hm e1
    · cases q2
  | _ => cases q1
/-! ### {} -/
def eEdic : SE := fun _ g => some (.ok .edic, g)
theorem snd_edic : SndE c O W tDNewK eEdic := fun F0 H0 F H σ ρ g r g' S q Q p => by
  cases q
  intro l hl
  have P := gp_new (o := .dK []) S.ex hl
  exact p _ _ _ P.gr (S.pure P) ⟨l, rfl, upd_same⟩
/-! ### xs[::-1] -/
def fRevL : D → Option D
  | .lst ds => some (.lst ds.reverse)
  | _ => none
theorem snd_revL (h : SndR c O W ta a) : SndE c O W (tRevL c.K ta) (eUn fRevL a) := fun F0 H0 F H σ ρ g o g' S q Q p => by
  refine h.bind S q p.x fun x g1 vx F1 H1 q1 G1 S1 rx => ?_
  cases x with
  | lst ds =>
    cases q1
    obtain ⟨l, vs, h1, h2, h3⟩ := rx.lst S1.ex
    refine ⟨l, vs, h1, SqL.of h2, fun m hm => ?_⟩
    have P := gp_new (o := .lst vs.reverse) S1.ex hm
    exact p _ _ _ (G1.trans P.gr) (S1.pure P) ⟨m, _, rfl, upd_same, h3.reverse.mono P.ex⟩
  | _ => cases q1
end
end MP

set_option maxRecDepth 100000
set_option maxHeartbeats 1000000
namespace MP
open PySem L2
open Evl (Ex ex_rd ex_l ex_t)
/-! ### repr of a list or a tuple of data -/
def rReprX (K : PySem.W.Frag) : List V → Hp → VK → Prop := fun xs H Q => ∃ (a : Addr) (d : PyData), xs = [.ref a] ∧ Dp K H (.ref a) d ∧ d.showable = true ∧ d.hasDict = false ∧ d.depth ≤ 40 ∧ d.shown.length ≤ sizeLine ∧ Q (.str d.shown) H
theorem call_reprX {X : Cx} (hg : X.A.guards = some []) (hu : X.A.units + 64 < cLine) : CallR X (.builtin "repr") (rReprX X.K) := by
  intro pins s σ H xs us Q I r h
  obtain ⟨a, d, rfl, hd, h1, h2, h3, h4, q⟩ := h
  obtain ⟨u, rfl, ru⟩ := vals1 r
  obtain ⟨as, rd⟩ := Dp.reads I d _ u hd ru
  cases ru
  exact repr_of_reads' rd h1 (fun z => by rw [h2] at z; cases z) hg (by omega) (fun _ _ e => e) (fun h' u tk hk => ⟨.str d.shown, H, I.kept (t' := tk) hk, ⟨_, rfl⟩, q⟩) h4
def isSeqD : D → Bool
  | .lst _ => true
  | .tup _ => true
  | _ => false
def fRepr (x : D) : Option D := match toP x with
  | some p => if (isSeqD x && (p.showable && (!p.hasDict && (decide (p.depth ≤ 40) && szB p.shown.length)))) = true then some (.str p.shown) else none
  | none => none
section
variable {c : Ct} {F0 H0 F H F' H' F1 : Hp} {σ : St} {ρ : Env} {O O1 O' OL : List Nat} {W : WX} {g g' : G} {te ta tb tc : TE} {e a b : SE}
theorem dp_brep {d : D} {v : V} {p : PyData} (ex : Ex F H) (h : BRep c F H d v) (k : isSeqD d = true) (q : toP d = some p) : Dp c.K H v p := by
  cases d with
  | lst ds =>
    obtain ⟨l, vs, h1, h2, h3⟩ := h.lst ex
    unfold toP at q
    cases z : toPs ds with
    | none => rw [z] at q; cases q
    | some ps =>
      rw [z] at q
      cases q
      rw [h1]
      exact .lst (SqL.of h2) (dps_of ex ds vs ps h3 z)
  | tup ds => exact dp_of ex _ v p (h.rep rfl) q
  | _ => cases k
theorem rb_repr : RB c (rReprX c.K) fRepr := fun F H d z v ex q rx Q p => by
  unfold fRepr at q
  cases w : toP d with
  | none => rw [w] at q; cases q
  | some x =>
    rw [w] at q
    simp only at q
    split at q
    · rename_i hk
      cases q
      simp only [Bool.and_eq_true, Bool.not_eq_true', decide_eq_true_eq] at hk
      obtain ⟨k0, k1, k2, k3, k4⟩ := hk
      have D := dp_brep ex rx k0 w
      have hv : ∃ a, v = .ref a := by
        cases d with
        | lst ds => obtain ⟨l, vs, h1, _⟩ := rx.lst ex; exact ⟨l, h1⟩
        | tup ds => obtain ⟨l, vs, h1, _⟩ := rx.tup ex; exact ⟨l, h1⟩
        | _ => cases k0
      obtain ⟨a, rfl⟩ := hv
      exact ⟨a, x, rfl, D, k1, k2, k3, szB_ok k4, p _ F H (.refl ex) rfl⟩
    · cases q
end
/-! ### x == y where x may be an instance with its own __eq__ -/
def rEqO (P : Program) (w : World) (K : PySem.W.Frag) (mg : Str → Option Value) (base : Heap) (A : Around) (E : XK) : R2 := fun x y H Q => ∃ a b C dx fs dy gs sp, x = .ref a ∧ y = .ref b ∧ H a = some (.ins C dx fs) ∧ H b = some (.ins C dy gs) ∧ MethAt P w K mg base A C "__eq__" sp [] ∧
  sp [x, y] H (fun v H' => (∃ k, v = .bl k) ∧ Q v H') E
theorem op_eqO {X : Cx} {E : XK} (hE : ∀ σ, PassesAt (L2.CX X.prog X.w) X σ E) : OpR X (compareOp .Eq) (rEqO X.prog X.w X.K X.mg X.base X.A E) := by
  intro pins s σ H x y v u Q I rx ry h
  obtain ⟨a, b, C, dx, fs, dy, gs, sp, rfl, rfl, ha, hb, M, hsp⟩ := h
  obtain ⟨f, fd, ps, k, us0, hm, F, hr, hbd, hd⟩ := M.has
  cases rx
  cases ry
  obtain ⟨mA, J, _⟩ := ins_get I.hok ha
  obtain ⟨mB, J', _⟩ := ins_get I.hok hb
  obtain ⟨od, J, _⟩ := J.look
  obtain ⟨od', J', _⟩ := J'.look
  obtain ⟨m, hF⟩ := I.fr
  have hus : us0 = [] := by cases hd; rfl
  subst hus
  show wpAny (model X.prog X.w) X.A (richCompare .Eq (.ref a) (.ref b)) (EP X pins σ Q) X.xe s
  refine PySem.W.cmp_K (op := .Eq) (tb := .ref C) hr.units0 hF I.ok.mod.kin J J'.type (by simp [PySem.W.notFirst]) hm.at_ hm.fn ?_
  refine wpAny_mono (run_fnD (us := [.ref a, .ref b]) (vs := [.ref a, .ref b]) (σ := σ) (E := fun _ => E) (dvs := []) F hr hbd .nil (hE σ) I (.cons rfl (.cons rfl .nil)) hsp) (fun z s' q => ?_) fun _ _ e => e
  obtain ⟨v, H', I', rv, ⟨k, ek⟩, q⟩ := q
  subst ek
  cases (show z = Value.bool k from rv)
  exact ⟨.bl k, H', I', rfl, q⟩
/-- the meaning: by the class of what stands left -/
def eEqO (ms : MM) (a b : SE) : SE := fun ρ g => bE (a ρ g) fun x g => bE (b ρ g) fun y g => match x with
  | .obj n _ => (match y with
    | .obj n' _ => if n' = n then (match ms.lookup n with
      | some (f, []) => (match f [x, y] g with
        | some (.ok (.bl k), g') => some (.ok (.bl k), g')
        | _ => none)
      | _ => none) else none
    | _ => none)
  | _ => (match fEq x y with
    | some z => some (.ok z, g)
    | none => none)
def rEqU (P : Program) (w : World) (K : PySem.W.Frag) (mg : Str → Option Value) (base : Heap) (A : Around) : R2 := fun x y H Q => rEqX K x y H Q ∨ rEqO P w K mg base A (fun _ _ _ => False) x y H Q
theorem op_eqU {X : Cx} (hu : X.A.units + 64 < cLine) (hE : ∀ σ, PassesAt (L2.CX X.prog X.w) X σ (fun _ _ _ => False)) : OpR X (compareOp .Eq) (rEqU X.prog X.w X.K X.mg X.base X.A) := OpR.or (op_eqX hu) (op_eqO hE)
section
variable {c : Ct} {F0 H0 F H F' H' F1 : Hp} {σ : St} {ρ : Env} {O O1 O' OL : List Nat} {W : WX} {g g' : G} {te ta tb tc : TE} {e a b : SE}
theorem snd_eqO {P : Program} {w : World} {mg : Str → Option Value} {base : Heap} {A : Around} {ms : MM} (hm : MethsOk P w mg base A c "__eq__" ms) (ha : SndE c O W ta a) (hb : SndE c O W tb b) : SndE c O W (tOp (rEqU P w c.K mg base A) ta tb) (eEqO ms a b) := fun F0 H0 F H σ ρ g ro g' S q Q p => by
  refine ha.bind S q p fun x g1 vx F1 H1 q1 G1 S1 rx => ?_
  refine hb.bind S1 q1 (p.gr G1) fun y g2 vy F2 H2 q2 G2 S2 ry => ?_
  have rx2 := rx.mono G2.ex
  have G3 := G1.trans G2
  have plain : ∀ {r : Out}, (match fEq x y with
    | some z => some (Out.ok z, g2)
    | none => none) = some (ro, g') → rEqU P w c.K mg base A vx vy H2 Q := fun {r} z => by
    cases k : fEq x y with
    | none => rw [k] at z; cases z
    | some d =>
      rw [k] at z
      cases z
      exact .inl (rv_eq F2 H2 x y d vx vy S2.ex k rx2 ry Q fun v F' H' P rz => p v F' H' (G3.trans P.gr) (S2.pure P) rz)
  cases x with
  | obj n fs =>
    cases y with
    | obj n' fs' =>
      simp only at q2
      split at q2
      · rename_i en
        subst en
        cases z1 : ms.lookup n' with
        | none => rw [z1] at q2; cases q2
        | some y =>
          obtain ⟨f, dd⟩ := y
          rw [z1] at q2
          cases dd with
          | cons _ _ => cases q2
          | nil =>
            simp only at q2
            split at q2
            · rename_i k g3 zf
              cases q2
              obtain ⟨dvs, hd, M⟩ := hm n' f [] z1
              have hdv : dvs = [] := by
                have := hd F2
                cases this
                rfl
              subst hdv
              obtain ⟨l, dx, vs, h1, h2, h3⟩ := id rx2
              obtain ⟨l', dx', vs', h1', h2', h3'⟩ := id ry
              refine .inr ⟨l, l', c.ca n', dx, vs, dx', vs', _, h1, h1', S2.ex _ _ h2, S2.ex _ _ h2', M, ?_⟩
              refine ⟨c.hd, F2, [.obj n' fs, .obj n' fs'], g2, .ok (.bl k), g', S2.ex, S2.hand, ⟨vx, _, rfl, rx2, .one ry⟩, zf, ?_⟩
              intro v F3 H3 G3' ex hh rv
              cases rv
              exact ⟨⟨k, rfl⟩, p _ F3 H3 (G3.trans G3') (S2.next G3' ex hh) rfl⟩
            · cases q2
      · cases q2
    | _ => cases q2
  | _ => exact plain (r := ro) q2
end
end MP

set_option maxRecDepth 100000
set_option maxHeartbeats 1000000
namespace MP
open PySem L2
open Evl (Ex ex_rd ex_l ex_t)
/-! ### isinstance with own classes -/
def tgOf : D → Option Tg
  | .obj n _ => some (.own n)
  | d => (tyOf d).map .ty
def fIsiX (own : List Str) (l : Isi) (T : Tg) (d : D) : Option D := match tgOf d with
  | some t => (match t with
    | .own n => if own.contains n = true then (l.lookup (t, T)).map .bl else none
    | _ => (l.lookup (t, T)).map .bl)
  | none => none
section
variable {c : Ct} {F0 H0 F H F' H' F1 : Hp} {σ : St} {ρ : Env} {O O1 O' OL : List Nat} {W : WX} {g g' : G} {te ta tb tc : TE} {e a b : SE}
theorem snd_isiX {own : List Str} {l : Isi} {T : Tg} (hx : isiB own l c.K = true) (hca : c.ca = He.ga c.K) (h : SndR c O W ta a) : SndE c O W (tCB (rIsi c.K) (tCons ta (tCons (tC (T.v c.K)) tNil))) (eUn (fIsiX own l T) a) := fun F0 H0 F H σ ρ g o g' S q Q p => by
  refine h.bind S q p.x fun x g1 vx F1 H1 q1 G1 S1 rx => ?_
  cases z : fIsiX own l T x with
  | none => simp only [z] at q1; cases q1
  | some d =>
    simp only [z] at q1
    cases q1
    unfold fIsiX at z
    have fin : ∀ (t : Tg) (r : Bool), TyX c.K H1 vx (t.u c.K) → l.lookup (t, T) = some r → d = .bl r → rIsi c.K [vx, T.v c.K] H1 Q := fun t r ty lk e => by
      subst e
      exact ⟨vx, T.v c.K, t.u c.K, T.u c.K, r, rfl, T.cls c.K, ty, isi_kit hx lk, p _ F1 H1 G1 S1 rfl⟩
    have ty0 : ∀ (t : Tg), (match x with | .obj _ _ => False | _ => True) → tgOf x = some t → TyX c.K H1 vx (t.u c.K) ∧ ∃ n, t = .ty n := fun t nx q => by
      have : (tyOf x).map Tg.ty = some t := by
        cases x <;> first | exact q | exact nx.elim
      cases w : tyOf x with
      | none => rw [w] at this; cases this
      | some n =>
        rw [w] at this
        cases this
        exact ⟨tyX_of S1.ex w rx, n, rfl⟩
    cases x with
    | obj n fs =>
      simp only [tgOf] at z
      split at z
      · rename_i hc
        obtain ⟨ad, dx, vs, h1, h2, h3⟩ := rx.obj S1.ex
        have I := isi_ins hx hc
        cases w : l.lookup (Tg.own n, T) with
        | none => rw [w] at z; cases z
        | some r =>
          rw [w] at z
          cases z
          refine fin (.own n) r ?_ w rfl
          subst h1
          rw [hca] at h2
          exact .base (.ins h2 I.cl I.ha I.hn I.htk I.hm)
      · cases z
    | _ =>
      cases w : tgOf _ with
      | none => rw [w] at z; cases z
      | some t =>
        obtain ⟨ty, n, rfl⟩ := ty0 t True.intro w
        rw [w] at z
        simp only at z
        cases w2 : l.lookup (Tg.ty n, T) with
        | none => rw [w2] at z; cases z
        | some r =>
          rw [w2] at z
          cases z
          exact fin _ r ty w2 rfl
end
end MP

set_option maxRecDepth 100000
set_option maxHeartbeats 2000000
namespace MPX
open PySem PySem.Spec PyProof.Rows
set_option maxHeartbeats 1000000 in
theorem enum_newV {v : Value} {o : Obj} {Hv : Heap → Prop} (B : Begins v o Hv) :
    Meets (Builtin.«enumerate.__new__» ⟨[.type "enumerate", v], []⟩) (fun _ R s => Hv s.heap ∧ R (.ok (.ret (.ref (s.heap.push o).objs.size)))
      { s with heap := (s.heap.push o).push { cls := .type "enumerate", data := .fields #[.none, .bool false, .ref s.heap.objs.size, rawInt 0, .none, .none] } }) :=
  .of_wp fun prog w A R s z => by
    obtain ⟨hp, ge, dd, tk, os⟩ := s
    obtain ⟨z1, z2⟩ := z
    have sb := sub_enumerate
    have it : ∀ {A' : Around} {E : Value → Shared → Prop} {Q : Value → Shared → Prop}, Q (.ref hp.objs.size) ⟨hp.push o, ge, dd, tk, os⟩ → wpAny (model prog w) A' (pyIter v) Q E ⟨hp, ge, dd, tk, os⟩ := fun q => B.iter prog w _ _ ⟨hp, ge, dd, tk, os⟩ _ z1 q
    wp_walk using it
    refine wpAny_stack_any fun st => wpAny_pure ?_
    split
    · rename_i c _ _ _ _ _
      cases (c == Value.type "enumerate") <;> (wp_walk using it; exact ⟨_, rfl, z2⟩)
    · wp_walk using it
      exact ⟨_, rfl, z2⟩
theorem enum_call {prog : Program} {w : World} {A : Around} {E : Value → Shared → Prop} {s : Shared} {v : Value} {o : Obj} {Hv : Heap → Prop} {Q : Value → Shared → Prop} (B : Begins v o Hv) (h1 : Hv s.heap)
    (h : ∀ h', IsEnum h' (s.heap.objs.size + 1) s.heap.objs.size 0 .none → h'.get? s.heap.objs.size = some o → (∀ b ob, s.heap.get? b = some ob → h'.get? b = some ob) → Q (.ref (s.heap.objs.size + 1)) { s with heap := h' }) :
    wpAny (model prog w) A (call (.type "enumerate") [v]) Q E s := by
  refine callType_new F.called_enumerate (by decide) (F.typeCall_enumerate_1 _) (F.newCall_enumerate_1 _) (fun obj => F.args_object_init_2 obj _) F.entry_enumerate_new (enum_newV B) ⟨h1, ?_⟩
  have sz : (s.heap.push o).objs.size = s.heap.objs.size + 1 := Heap.size_push ..
  have en : IsEnum ((s.heap.push o).push { cls := .type "enumerate", data := .fields #[.none, .bool false, .ref s.heap.objs.size, rawInt 0, .none, .none] }) (s.heap.objs.size + 1) s.heap.objs.size 0 .none := by
    have z := Heap.get?_push_size (s.heap.push o) (o := { cls := .type "enumerate", data := .fields #[.none, .bool false, .ref s.heap.objs.size, rawInt 0, .none, .none] }) rfl
    rw [sz] at z
    exact z
  show _ ∧ _
  rw [sz]
  exact ⟨⟨_, en, rfl⟩, h _ en (Heap.get?_push_of_some _ (Heap.get?_push_size _ B.free)) fun b ob x => Heap.get?_push_of_some _ (Heap.get?_push_of_some _ x)⟩
end MPX
namespace MP
open PySem PySem.Spec PyProof.Rows L2
/-! ### enumerate of a tuple -/
def IteT (K : PySem.W.Frag) (a : Addr) : It :=
  ⟨fun i H => ∃ (xs : List V) (x : V), SqT K H a xs ∧ xs[i]? = some x, fun i H v H' => ∃ T x, v = .ref T ∧ H T = none ∧ H' = upd H T (.tup [.int (i : Nat), x]) ∧ ∀ xs, SqT K H a xs → xs[i]? = some x, fun i H => ∃ xs : List V, SqT K H a xs ∧ xs.length = i⟩
theorem turn_enumT {P : Program} {w : World} {K : PySem.W.Frag} {elts : List Expr} {kk : Nat} {tpos : Pos} (a e it : Addr) :
    Turn P w K (.Tuple elts kk tpos) (IteT K a) [e, it] e (fun i h => (∃ old, IsEnum h e it ((i : Nat) : Int) old) ∧ h.IsTupleIter it a i ∧ e ≠ it ∧ a ≠ it ∧ e ≠ a) where
  mem := by simp
  obj := fun i h st b hb => by
    obtain ⟨⟨old, he⟩, ⟨o, ho, hc, hd⟩, _⟩ := st
    rcases (show b = e ∨ b = it by simpa using hb) with z | z
    · rw [z]; exact ⟨_, he, fun v q => nomatch q⟩
    · rw [z]; exact ⟨o, ho, fun v q => by rw [hd] at q; cases q⟩
  keep := fun i h h' st k => by
    obtain ⟨⟨old, he⟩, hi, hne⟩ := st
    exact ⟨⟨old, k e (by simp) _ he⟩, hi.at fun o q => k it (by simp) o q, hne⟩
  item := by
    intro X hP hw hK hc i pins s σ H E I hf st hg
    subst hP hw hK
    obtain ⟨⟨old, he⟩, hit, hne, hait, hea⟩ := st
    obtain ⟨xs, x, hq, hx⟩ := hg
    obtain ⟨its, rv, p, hz⟩ := I.tuple hq
    obtain ⟨u, hu, ru⟩ := rv.get hx
    have pt : s.heap.IsTuple a its.toArray := p
    have hel : e < s.heap.objs.size := Heap.lt_size he
    have hil : it < s.heap.objs.size := by obtain ⟨_, q, _⟩ := hit; exact Heap.lt_size q
    have hlt : i < its.toArray.size := by
      rw [List.size_toArray]
      exact (List.getElem?_eq_some_iff.mp hu).1
    refine wpAny_pyNext_enum_itemD (Draws.tuple (A := X.A.in1) (I.ok.hd hc) it a hait its.toArray) he ⟨hit, pt⟩ hlt hne (by simp [hne, hea]) fun y h' tk hy ho st' hT hsz hk => ?_
    have ey : y = u := by
      have z : its[i]? = some y := by simpa using hy
      rw [hu] at z
      cases z
      rfl
    subst ey
    refine ⟨_, rfl, wpAny_letOwnedTupleGo_enum (s := { s with heap := h', toks := tk + 1 }) ho fun h'' he' sb => ?_⟩
    have hT2 : h''.get? s.heap.objs.size = some { cls := .type "tuple", data := .seq #[.int i tk, y] } := (sb.2 _ (Nat.ne_of_gt hel)).trans hT
    have new : ObjOk X.prog X.w (upd H s.heap.objs.size (.tup [.int (i : Nat), x])) h'' s.heap.objs.size (.tup [.int (i : Nat), x]) := ⟨by show 2 ≤ sizeLine; decide, [.int i tk, y], .cons ⟨_, rfl⟩ (.cons ru .nil), ⟨_, hT2, rfl, _, rfl⟩⟩
    have J : Inv X pins σ (upd H s.heap.objs.size (.tup [.int (i : Nat), x])) { s with heap := h'', toks := tk + 1 } :=
      I.turnedNew (ch := [e, it]) (fun b ob hb q => (sb.2 b (fun z => hb (by simp [z]))).trans (hk b ob (fun z => hb (by simp [z])) (fun z => hb (by simp [z])) q)) hf (Nat.le_refl _) new
    refine ⟨.ref s.heap.objs.size, _, J, rfl, ⟨_, x, rfl, I.hok.fresh (Nat.le_refl _), rfl, fun ys hy => by rw [I.tuple_inj hy hq]; exact hx⟩, ⟨⟨y, ?_⟩, st'.1.at fun o q => (sb.2 it (Ne.symm hne)).trans q, hne, hait, hea⟩, fun b hb => ?_⟩
    · rw [show ((i + 1 : Nat) : Int) = (i : Int) + 1 from by omega]
      exact he'
    · have hb' : b < s.heap.objs.size := by
        rcases (show b = e ∨ b = it by simpa using hb) with z | z
        · rw [z]; exact hel
        · rw [z]; exact hil
      rw [upd_ne (Nat.ne_of_lt hb')]
      exact (hf b hb).1
  done := by
    intro X hP hw hK hc i pins s σ H E I hf st hg
    subst hP hw hK
    obtain ⟨⟨old, he⟩, hit, hne, hait, hea⟩ := st
    obtain ⟨xs, hq, hx⟩ := hg
    obtain ⟨its, rv, p, hz⟩ := I.tuple hq
    obtain ⟨f0, f1, f2, f3, f4, f5⟩ := hf it (by simp)
    have pt : s.heap.IsTuple a its.toArray := p
    have en : i = its.toArray.size := by rw [List.size_toArray, ← rv.length]; exact hx.symm
    exact wpAny_pyNext_enum_endD (Draws.tuple (A := X.A.in1) (I.ok.hd hc) it a hait its.toArray) he (by rw [← en]; exact ⟨hit, pt⟩) fun h' eb => ⟨rfl, I.turned (t' := s.toks) (fun b o hb q => eb b o hb q) f0 f1 f3 f4 f5⟩
  self := fun A i s Q E st h => by
    obtain ⟨⟨_, he⟩, _⟩ := st
    exact wpAny_pyIter_enum he h
def iEnumU (K : PySem.W.Frag) (ta : TA) : TI := fun σ H R => ta σ H fun vs H1 => ∃ a, vs = [.ref a] ∧ (((∃ xs, SqL K H1 a xs) ∧ R (Ite K a) H1) ∨ ((∃ xs, SqT K H1 a xs) ∧ R (IteT K a) H1))
theorem pi_enumU {X : Cx} {e : Expr} {ta : TA} {p pos tpos : Pos} {elts : List Expr} {kk : Nat} (hg : Gl X "enumerate") (hm : X.mg "enumerate" = none) (ha : PA X [e] ta) (hs : starEach [e] X.env = [(false, eval e X.env)] := by rfl) :
    PI X (.Tuple elts kk tpos) (.Call (.Name "enumerate" p) [e] [] pos) (iEnumU X.K ta) := by
  refine ⟨fun pins s σ H R I h => Call_ (ld_blt I hg hm boot_enumerate (PyProof.Rows.callWith_type1 (thn (ha.run pos pins s σ H _ I h) fun us s1 z => ?_) hs rfl))⟩
  obtain ⟨vs, H1, I1, r1, a, rfl, q⟩ := z
  obtain ⟨u, rfl, ru⟩ := vals1 r1
  cases ru
  have fp : ∀ b ∈ [s1.heap.objs.size + 1, s1.heap.objs.size], FpOk X pins H1 b := fun b hb => by
    have hle : s1.heap.objs.size ≤ b := by
      rcases (show b = s1.heap.objs.size + 1 ∨ b = s1.heap.objs.size by simpa using hb) with z | z
      · rw [z]; exact Nat.le_add_right _ _
      · rw [z]; exact Nat.le_refl _
    exact I1.fpOk hle (I1.hok.fresh hle)
  rcases q with ⟨⟨xs, hq⟩, q⟩ | ⟨⟨xs, hq⟩, q⟩
  · obtain ⟨its, rv, p', hz⟩ := I1.list hq
    refine call_enumerate_list p'.isList fun h' he hit hsz hk => wpAny_pyIter_enum he ?_
    exact ⟨s1.heap.objs.size + 1, [s1.heap.objs.size + 1, s1.heap.objs.size], _, _, H1, rfl, I1.kept (t' := s1.toks) hk, turn_enum a (s1.heap.objs.size + 1) s1.heap.objs.size, ⟨⟨.none, he⟩, hit, Nat.succ_ne_self _⟩, fp, q⟩
  · obtain ⟨its, rv, p', hz⟩ := I1.tuple hq
    have pt : s1.heap.IsTuple a its.toArray := p'
    have hal : a < s1.heap.objs.size := by obtain ⟨o, e, _⟩ := pt; exact Heap.lt_size e
    refine MPX.enum_call (begins_tuple a its.toArray) pt fun h' he hit hk => wpAny_pyIter_enum he ?_
    exact ⟨s1.heap.objs.size + 1, [s1.heap.objs.size + 1, s1.heap.objs.size], _, _, H1, rfl, I1.kept (t' := s1.toks) hk, turn_enumT a (s1.heap.objs.size + 1) s1.heap.objs.size, ⟨⟨.none, he⟩, ⟨_, hit, rfl, rfl⟩, Nat.succ_ne_self _, Nat.ne_of_lt hal, Ne.symm (Nat.ne_of_lt (Nat.lt_succ_of_lt hal))⟩, fp, q⟩
end MP
namespace MP
open PySem L2
open Evl (Ex ex_rd ex_l ex_t)
def fEnum : List D → Option (List D)
  | [.lst ds] => some (pairsN ds)
  | [.slst ds] => some (pairsN ds)
  | [.tup ds] => some (pairsN ds)
  | _ => none
section
variable {c : Ct} {F0 H0 F H F' H' F1 : Hp} {σ : St} {ρ : Env} {O O1 O' OL : List Nat} {W : WX} {g g' : G} {te ta tb tc : TE} {e a b : SE}
theorem itok_enumT {l : Addr} {vs : List V} {ds : List D} (h : SqT c.K F1 l vs) (r : Reps c F1 ds vs) : ItOk c F1 (IteT c.K l) (pairsN ds) where
  goes := fun i F' H' hi e1 e2 => by
    have i1 : i < vs.length := by rw [r.len]; simpa [pairsN] using hi
    exact ⟨vs, vs[i], ex_t (e1.trans e2) h, List.getElem?_eq_getElem i1⟩
  stops := fun F' H' e1 e2 => ⟨vs, ex_t (e1.trans e2) h, by rw [r.len]; simp [pairsN]⟩
  yields := fun i d F' H' x H'' hd e1 e2 y => by
    obtain ⟨T, u, rfl, hT, rfl, k1⟩ := y
    unfold pairsN at hd
    rw [List.getElem?_mapIdx] at hd
    cases p : ds[i]? with
    | none => rw [p] at hd; cases hd
    | some x =>
      rw [p] at hd
      cases hd
      obtain ⟨u', m1, m2⟩ := r.get p
      have a1 := k1 vs (ex_t (e1.trans e2) h)
      rw [m1] at a1
      cases a1
      exact new_pair e2 hT ⟨_, _, rfl, rfl, .one (m2.mono e1)⟩
theorem snd_enum {ar : SA} {tr : TA} (h : SndA c O W tr ar) : SndI c O W (iEnumU c.K tr) (aVia fEnum ar) := snd_via rfl h fun F H ds xs vs ex q rs R p => by
  unfold fEnum at q
  split at q
  · cases q
    obtain ⟨v, r, h1, ⟨a, us, h2, h3, h4⟩, h6⟩ := rs
    cases h6
    subst h2 h1
    exact ⟨a, rfl, .inl ⟨⟨us, SqL.of (ex _ _ h3)⟩, p _ (itok_enumL (SqL.of h3) h4)⟩⟩
  · cases q
    obtain ⟨v, r, h1, ⟨a, us, h2, h3, h4⟩, h6⟩ := rs
    cases h6
    subst h2 h1
    exact ⟨a, rfl, .inl ⟨⟨us, ex_l ex h3⟩, p _ (itok_enumL h3 h4)⟩⟩
  · cases q
    obtain ⟨v, r, h1, ⟨a, us, h2, h3, h4⟩, h6⟩ := rs
    cases h6
    subst h2 h1
    exact ⟨a, rfl, .inr ⟨⟨us, ex_t ex h3⟩, p _ (itok_enumT h3 h4)⟩⟩
  · cases q
end
end MP

set_option maxRecDepth 100000
set_option maxHeartbeats 1000000
namespace MP
open PySem L2
open Evl (Ex ex_rd ex_l ex_t)
theorem passAF {X : Cx} {W : WX} (tk : Takes X W) (σ : St) : PassesAt (L2.CX X.prog X.w) X σ (fun _ _ _ => False) := fun _ _ _ e s' I c => tk e s' (XE.of_call (σ := σ) I (fun _ _ _ h => h.elim) c)
theorem passBF {X : Cx} (σ : St) : PassesAt (L2.CX X.prog X.w) X σ (fun _ _ _ => False) := fun _ _ _ _ _ _ h => by
  obtain ⟨_, _, _, _, _, _, _, _, _, _, _, _, z⟩ := h
  exact z.elim
theorem reps_ints {c : Cb} {F : Hp} : ∀ l : List Int, Reps c F (l.map D.int) (l.map V.int)
  | [] => rfl
  | x :: r => ⟨_, _, rfl, rfl, reps_ints r⟩
theorem ints_reps {c : Cb} {F : Hp} : ∀ {l : List Int} {vs : List V}, Reps c F (l.map D.int) vs → vs = l.map V.int
  | [], _, h => h
  | x :: r, _, ⟨v, t, h1, h2, h3⟩ => by
    rw [h1, ints_reps h3, show v = .int x from h2]
    rfl
/-- what promises nothing -/
theorem specA_zero {P : Program} {w : World} {K : PySem.W.Frag} {mg : Str → Option Value} {base : Heap} {CX : CXT} {k : Nat} {f : Addr} {fd : FuncData} {ps : List Str} {ca : Str → Addr} : FnG P w K mg base CX k f fd ps (specA K ca fun _ _ => none) :=
  ⟨fun vs H Q E h => (by obtain ⟨_, _, _, _, _, _, _, _, _, q, _⟩ := h; cases q), fun A o s H a us vs Q E _ _ _ _ h => (by obtain ⟨_, _, _, _, _, _, _, _, _, q, _⟩ := h; cases q)⟩
theorem specI_zero {P : Program} {w : World} {K : PySem.W.Frag} {mg : Str → Option Value} {base : Heap} {CX : CXT} {k : Nat} {f : Addr} {fd : FuncData} {ps : List Str} {ca : Str → Addr} {n : Str} : FnG P w K mg base CX k f fd ps (specI K ca n fun _ _ => none) :=
  ⟨fun vs H Q E h => (by obtain ⟨_, _, _, _, _, _, _, _, _, _, _, _, _, _, _, _, q, _⟩ := h; cases q), fun A o s H a us vs Q E _ _ _ _ h => (by obtain ⟨_, _, _, _, _, _, _, _, _, _, _, _, _, _, _, _, q, _⟩ := h; cases q)⟩
/-- the hand that a law draws from -/
def handG (cells : List Int) (t : Int) : G := [.lst (cells.map .int), .int 0, .int 0, .int t]
def spLaw (K : PySem.W.Frag) : Sp := fun vs H Q _ => ∃ (a : Addr) (ns : List Int), vs = [.ref a] ∧ SqL K H a (ns.map V.int) ∧ ns.length ≤ 63 ∧ ∀ H', Q (.bl true) H'
/-- a law's body: the hand is made, then it is the hand -/
theorem law_by {K : PySem.W.Frag} {ca : Str → Addr} {ts : TS} {s : SS} {m : FM} {E : St → XK} {Q : VK} {H : Hp} {a : Addr} {ns : List Int} {n ih : Nat} {O' OL : List Nat} {σ0 : St} (hS : SqL K H a (ns.map V.int)) (hσ : σ0 = some (.ref a) :: List.replicate (n - 1) none) (hi : ih < n) (h0 : 0 < ih)
    (T : ∃ cells t g', m [.slst (ns.map .int)] [] = some (.ok (.lst (handG cells t)), []) ∧ s ((List.replicate n none).set ih (some .hand)) (handG cells t) = some (.ret (.bl true), g')) (h : ∀ p, SndS (ct K ca (some p)) [] O' OL W0 ts s) (k : ∀ H', Q (.bl true) H') :
    tSeq (tAsg (tCallD (specA K ca m) [] E (tCons (tVar 0) tNil)) (gName ih)) ts { nx := fun _ H' => Q .non H', rt := Q } σ0 H := by
  obtain ⟨cells, t, g', q1, q2⟩ := T
  subst hσ
  refine ⟨.ref a, rfl, none, fun b => if b = a then H a else none, [.slst (ns.map .int)], [], .ok (.lst (handG cells t)), [], fun b o e => ?_, True.intro, ⟨.ref a, [], rfl, ⟨a, ns.map V.int, rfl, ?_, reps_ints ns⟩, rfl⟩, q1, fun v F' H' G ex _ rv => ?_⟩
  · have e : (if b = a then H a else none) = some o := e
    by_cases z : b = a
    · rw [if_pos z] at e
      rw [z]
      exact e
    · rw [if_neg z] at e
      cases e
  · rcases hS with z | z
    · rcases z with z | ⟨o, z⟩
      · exact .inl (.inl (show (if a = a then H a else none) = _ by rw [if_pos rfl]; exact z))
      · exact .inl (.inr ⟨o, show (if a = a then H a else none) = _ by rw [if_pos rfl]; exact z⟩)
    · exact .inr z
  · obtain ⟨p, vs, rfl, hp, vc, r1, e1, ⟨cl, us, e2, hcl, ru⟩, vz, r2, e3, e4, vo, r3, e5, e6, vt, r4, e7, e8, e9⟩ := rv
    subst e1 e2 e3 e4 e5 e6 e7 e8 e9
    have eus := ints_reps ru
    subst eus
    have np : p ≠ cl := fun z => by
      rw [z, hcl] at hp
      have z2 := HO.lst.inj (Option.some.inj hp)
      cases cells with
      | nil => cases z2
      | cons x r => cases z2
    have Hp' := ex _ _ hp
    have Hcl := ex _ _ hcl
    show ts _ ((some (.ref a) :: List.replicate (n - 1) none : St).set ih (some (.ref p))) H'
    have hFc : ∀ b o, upd (fun _ => none) cl (HO.lst (cells.map V.int)) b = some o → H' b = some o := fun b o e => by
      by_cases z : b = cl
      · subst z
        rw [upd_same] at e
        rw [Hcl]
        exact e
      · rw [upd_ne z] at e
        cases e
    refine h p (upd (fun _ => none) cl (.lst (cells.map V.int))) H' (upd (fun _ => none) cl (.lst (cells.map V.int))) H' _ _ _ _ _ ⟨hFc, Gr.refl .., by simp; omega, fun j d e _ => ?_, fun j d e m => (by cases m), fun j _ _ _ m => (by cases m), ?_, fun a o e => (by cases e), fun i v m => (by cases m)⟩ q2 _ ?_
    · by_cases z : ih = j
      · subst z
        rw [List.getElem?_set_self (by simpa using hi)] at e
        cases e
        exact ⟨.ref p, List.getElem?_set_self (by simp; omega), p, rfl, rfl⟩
      · rw [List.getElem?_set_ne z] at e
        have := List.mem_of_getElem? e
        rw [List.mem_replicate] at this
        exact absurd this.2 (Option.some_ne_none d)
    · exact ⟨by show upd _ _ _ p = none; rw [upd_ne np], _, Hp', _, _, rfl, ⟨cl, _, rfl, upd_same, reps_ints _⟩, _, _, rfl, rfl, _, _, rfl, rfl, _, _, rfl, rfl, rfl⟩
    · intro v F2 H2 G2 ex2 hh rv
      cases rv
      exact k H2
end MP

set_option maxRecDepth 100000
set_option maxHeartbeats 2000000
namespace MP
open PySem PySem.Spec PyProof.Rows L2
/-! ### try .. except, any number of clauses, each with a name or without one -/
abbrev SuiteT := Addr → Value → Option Addr → TS
def endsAs (o : Option Nat) (D : Ends) : Ends := match o with
  | none => D
  | some i => { nx := fun σ H => D.nx (σ.set i none) H, rt := D.rt, bk := fun σ H => D.bk (σ.set i none) H, ct := fun σ H => D.ct (σ.set i none) H }
def setAs (o : Option Nat) (a : Addr) (σ : L2.St) : L2.St := match o with
  | none => σ
  | some i => σ.set i (some (.ref a))
/-- what the clauses wish of what the body raises -/
def wHds (K : PySem.W.Frag) (Wout : WX) (D : Ends) : List (Value × Option Nat × SuiteT) → WX
  | [] => Wout
  | (c, o, ts) :: r => fun cls d σ H => ∃ b, PySem.W.exmOne K cls c = some b ∧ (b = true → ∀ a, H a = none → ts a cls d (endsAs o D) (setAs o a σ) H) ∧ (b = false → wHds K Wout D r cls d σ H)
inductive HdsG (X : Cx) : List ExceptHandler → List (Value × Option Nat × SuiteT) → Prop
  | nil : HdsG X [] []
  | one {x : Str} {c : Value} {ts : SuiteT} {b₀ : Stmt} {suite : List Stmt} {np hp : Pos} {hds : List ExceptHandler} {l : List (Value × Option Nat × SuiteT)} (hc : Names X x c)
      (hsu : ∀ (a : Addr) (oe : Obj) (cls : Value) (d : Option Addr) (pn : List (Addr × Obj)), Zc cls d oe → (∃ vs, oe.data = .fields vs) → PSs (X.suite a ((a, oe) :: pn)) (b₀ :: suite) (ts a cls d)) (r : HdsG X hds l) :
      HdsG X (.ExceptHandler (some (.Name x np)) none (b₀ :: suite) hp :: hds) ((c, none, ts) :: l)
  | as {x n : Str} {i : Nat} {c : Value} {ts : SuiteT} {b₀ : Stmt} {suite : List Stmt} {np hp : Pos} {hds : List ExceptHandler} {l : List (Value × Option Nat × SuiteT)} (hc : Names X x c) (hi : X.N[i]? = some n) (hl : X.env.kindOf n = some .local)
      (hsu : ∀ (a : Addr) (oe : Obj) (cls : Value) (d : Option Addr) (pn : List (Addr × Obj)), Zc cls d oe → (∃ vs, oe.data = .fields vs) → PSs (X.suite a ((a, oe) :: pn)) (b₀ :: suite) (ts a cls d)) (r : HdsG X hds l) :
      HdsG X (.ExceptHandler (some (.Name x np)) (some n) (b₀ :: suite) hp :: hds) ((c, some i, ts) :: l)
section
variable {X : Cx} {body : List Stmt} {h₀ : ExceptHandler} {hds : List ExceptHandler} {l : List (Value × Option Nat × SuiteT)} {pos : Pos} {tb : WX → TS} {Wout : WX}
theorem ps_try_g (hs : X.stack = X.env :: X.outer) (hf : X.env.frame = some X.env.locals) (hN : X.N.Nodup) (tk : L2.Takes X Wout)
    (hb : ∀ (W : WX) (pn : List (Addr × Obj)) (xe : Value → Shared → Prop), L2.Takes (X.tr pn xe) W → PassesOwn (model X.prog X.w) X.A X.env xe → PSs (X.tr pn xe) body (tb W))
    (hh : HdsG X (h₀ :: hds) l) : PS X (.Try body (h₀ :: hds) [] [] pos) (fun D σ H => tb (wHds X.K Wout D l) D σ H) := by
  refine ⟨fun pins s σ H D I h => wpAny_Try_except ?_⟩
  have ok := I.ok
  have frm : X.A.frames = some (X.env :: X.outer) := by rw [ok.frames, hs]
  refine wpAny_mono ((hb (wHds X.K Wout D l) (X.pn ++ pins) (fun e s₁ => wpAny (model X.prog X.w) X.A (noteFrame e X.env) (fun _ s₂ => wpAny (model X.prog X.w) X.A (setFlight e none) (fun _ s₃ => wpAny (model X.prog X.w) X.A (handleBy e X.env (h₀ :: hds)) (SP X pins D) X.xe s₃) X.xe s₂) X.xe s₁)
    (fun u s' xx => ?_) PassesOwn.looking).run [] s σ H D (I.toTry _) h) (fun f s1 z => ?_) (fun e s1 z => z)
  · obtain ⟨a, B, sI, pins', σ', H', cls, d, rfl, J', nb, up, sky, na, os, ag, w⟩ := xx
    have J : L2.Inv X pins σ' H' sI := J'.ofTry ok
    show wpAny (model X.prog X.w) X.A (noteFrame (.ref a) X.env) _ _ _
    refine Sky.land Zc.steady frm hf (by rw [← hs]; exact sky) fun h3 fl3 up3 => ?_
    have J3 : L2.Inv X pins σ' H' { s' with heap := h3 } := J.landed nb fl3.1 (up.trans up3) os ag
    obtain ⟨oe3, vs3, he3, hz3, hd3⟩ := fl3.there
    have nfr : a ∉ frs (X.env :: X.outer) := fun m => by
      obtain ⟨_, o', e', q⟩ := fl3.2.2.1.mem m
      rw [he3] at e'
      cases e'
      exact q _ hd3
    have nL : a ≠ X.env.locals := fun z => nfr (List.mem_filterMap.mpr ⟨X.env, List.mem_cons_self, by rw [hf, z]⟩)
    have nF : a ∉ X.fs := fun m => by
      obtain ⟨e, he, q⟩ := List.mem_filterMap.mp m
      exact nfr (List.mem_filterMap.mpr ⟨e, List.mem_cons_of_mem _ he, q⟩)
    have S3 := J3.suite he3 hd3 na nL nF
    -- the suite's end, in the def's own context
    have land : ∀ {D' : Ends} {σ0 : L2.St} {ts : SuiteT} {bs : List Stmt} {s0 : Shared} {o0 : Obj} {Q : Flow → Shared → Prop}, (∀ (oe : Obj) (cls : Value) (d : Option Addr) (pn : List (Addr × Obj)), Zc cls d oe → (∃ vs, oe.data = .fields vs) → PSs (X.suite a ((a, oe) :: pn)) bs (ts a cls d)) →
        Zc cls d o0 → (∃ vs, o0.data = .fields vs) → L2.Inv (X.suite a ((a, o0) :: (X.pn ++ pins))) [] σ0 H' s0 → ts a cls d D' σ0 H' → (∀ f s6, SP (X.suite a ((a, o0) :: (X.pn ++ pins))) [] D' f s6 → Q f s6) →
        wpAny (model X.prog X.w) (X.A.mark (some (.ref a))) (execs bs X.env) Q (fun _ _ => False) s0 := fun hsu hz hv S0 ht k => wpAny_mono ((hsu _ cls d (X.pn ++ pins) hz hv).run [] _ _ _ _ S0 ht) k fun _ _ z => z
    have go : ∀ {hds' : List ExceptHandler} {l' : List (Value × Option Nat × SuiteT)}, HdsG X hds' l' → wHds X.K Wout D l' cls d σ' H' → wpAny (model X.prog X.w) X.A (handleBy (.ref a) X.env hds') (SP X pins D) X.xe { s' with heap := h3 } := by
      intro hds' l' hk
      induction hk with
      | nil =>
        intro w
        refine wpAny_handleBy_nil ?_
        obtain ⟨k1, k2, k3, oe, vs, T, oT, ts', he, hz, hd, h1, hr⟩ := id fl3
        unfold PySem.passOn
        refine wpAny_bind (wpAny_field he hd h1 ?_)
        rw [if_neg (show ¬ ((Value.ref T == Value.none) = true) by simp)]
        have fin : wpAny (model X.prog X.w) X.A (setFlight (.ref a) X.env.frame) (fun _ s4 => wpAny (model X.prog X.w) X.A (throw (.ref a) : Sem Flow) (SP X pins D) X.xe s4) X.xe { s' with heap := h3 } := by
          rw [hf]
          exact HandSPX.setFlight_upZ fl3 fun h4 hh4 up4 => wpAny_throw (tk _ _ ⟨a, B, sI, pins, σ', H', cls, d, rfl, J, nb, (up.trans up3).trans up4, .inr (.inr (by rw [hs]; exact hh4)), na, os, ag, w⟩)
        first
          | exact wpAny_bind (wpAny_pure (wpAny_bind fin))
          | exact wpAny_bind fin
      | @one x c ts b₀ suite np hp hds2 l2 hc hsu r ih =>
        intro w
        obtain ⟨b, hb1, yes, no⟩ := w
        refine wpAny_handleBy_cons (codeAny_handlers_test ?_) (by intro q; cases q)
        have LT : PySem.W.Looks (model X.prog X.w) h3 (typeOf (.ref a)) cls := fun A Q E s k q => wpAny_typeOf_ref (k _ _ he3) (by rw [hz3.1]; exact q)
        have LM := PySem.W.exm_one (M := model X.prog X.w) J3.kIn LT hb1
        have name : ∀ {Q : Value → Shared → Prop} {E : Value → Shared → Prop}, Q c { s' with heap := h3 } → wpAny (model X.prog X.w) (X.A.mark (some (.ref a))) (eval (.Name x np) X.env) Q E { s' with heap := h3 } := fun {Q E} q => by
          obtain ⟨hg, hdb, hm | ⟨hm, hv, hnn⟩⟩ := hc
          · exact ld_glob (X := X.suite a ((a, oe3) :: (X.pn ++ pins))) S3 hg hm q hdb
          · exact ld_blt (X := X.suite a ((a, oe3) :: (X.pn ++ pins))) S3 hg hm hv q hnn hdb
        refine name (LM.here ?_)
        match b, yes, no with
        | false, _, no => exact ih (no rfl)
        | true, yes, _ =>
          refine codeAny_handlers_suite (HandSPX.lands_againZ fl3 fun h4 fl4 up4 => ?_)
          obtain ⟨oe4, vs4, he4, hz4, hd4⟩ := fl4.there
          have S4 := (J.landed (s' := { s' with heap := h4 }) nb fl4.1 ((up.trans up3).trans up4) os ag).suite he4 hd4 na nL nF
          refine wpAny_mono (land (Q := fun f s6 => SP (X.suite a ((a, oe4) :: (X.pn ++ pins))) [] D f s6) (fun oe => hsu a oe) hz4 ⟨_, hd4⟩ S4 (yes rfl a na) fun _ _ z => z) (fun f s6 z => ?_) (fun _ _ z => z.elim)
          match f, z with
          | .next, ⟨σ6, H6, S6, q6⟩ => exact ⟨_, _, S6.unsuite ok, q6⟩
          | .brk, ⟨σ6, H6, S6, q6⟩ => exact ⟨_, _, S6.unsuite ok, q6⟩
          | .cont, ⟨σ6, H6, S6, q6⟩ => exact ⟨_, _, S6.unsuite ok, q6⟩
          | .ret u, ⟨v6, σ6, H6, S6, r6, q6⟩ => exact ⟨_, _, _, S6.unsuite ok, r6, q6⟩
      | @as x n i c ts b₀ suite np hp hds2 l2 hc hi hl hsu r ih =>
        intro w
        obtain ⟨b, hb1, yes, no⟩ := w
        refine wpAny_handleBy_cons (codeAny_handlers_test ?_) (by intro q; cases q)
        have LT : PySem.W.Looks (model X.prog X.w) h3 (typeOf (.ref a)) cls := fun A Q E s k q => wpAny_typeOf_ref (k _ _ he3) (by rw [hz3.1]; exact q)
        have LM := PySem.W.exm_one (M := model X.prog X.w) J3.kIn LT hb1
        have name : ∀ {Q : Value → Shared → Prop} {E : Value → Shared → Prop}, Q c { s' with heap := h3 } → wpAny (model X.prog X.w) (X.A.mark (some (.ref a))) (eval (.Name x np) X.env) Q E { s' with heap := h3 } := fun {Q E} q => by
          obtain ⟨hg, hdb, hm | ⟨hm, hv, hnn⟩⟩ := hc
          · exact ld_glob (X := X.suite a ((a, oe3) :: (X.pn ++ pins))) S3 hg hm q hdb
          · exact ld_blt (X := X.suite a ((a, oe3) :: (X.pn ++ pins))) S3 hg hm hv q hnn hdb
        refine name (LM.here ?_)
        match b, yes, no with
        | false, _, no => exact ih (no rfl)
        | true, yes, _ =>
          refine codeAny_handlers_suite_as (HandSPX.lands_againZ fl3 fun h4 fl4 up4 => ?_)
          obtain ⟨oe4, vs4, he4, hz4, hd4⟩ := fl4.there
          have S4 := (J.landed (s' := { s' with heap := h4 }) nb fl4.1 ((up.trans up3).trans up4) os ag).suite he4 hd4 na nL nF
          refine store_ok (X := X.suite a ((a, oe4) :: (X.pn ++ pins))) (v := .ref a) S4 hN hi (.inl hl) rfl (fun s5 S5 => ?_) (.inr hl)
          refine wpAny_mono (land (Q := fun f s6 => SP (X.suite a ((a, oe4) :: (X.pn ++ pins))) [] (endsAs (some i) D) f s6) (fun oe => hsu a oe) hz4 ⟨_, hd4⟩ S5 (yes rfl a na) fun _ _ z => z) (fun f s6 z => ?_) (fun _ _ z => z.elim)
          have leave : ∀ {σ6 : L2.St} {H6 : Hp} {Q : Shared → Prop}, L2.Inv (X.suite a ((a, oe4) :: (X.pn ++ pins))) [] σ6 H6 s6 → (∀ s7, L2.Inv X pins (σ6.set i none) H6 s7 → Q s7) → wpAny (model X.prog X.w) X.A (do bindName X.env n .none; unbindBehindTheSuite X.env n hp) (fun _ s7 => Q s7) X.xe s6 :=
            fun S6 k => gone_ok (S6.unsuite ok) hN hi hl k
          match f, z with
          | .next, ⟨σ6, H6, S6, q6⟩ => exact leave S6 fun s7 J7 => ⟨_, _, J7, q6⟩
          | .brk, ⟨σ6, H6, S6, q6⟩ => exact leave S6 fun s7 J7 => ⟨_, _, J7, q6⟩
          | .cont, ⟨σ6, H6, S6, q6⟩ => exact leave S6 fun s7 J7 => ⟨_, _, J7, q6⟩
          | .ret u, ⟨v6, σ6, H6, S6, r6, q6⟩ => exact leave S6 fun s7 J7 => ⟨_, _, _, J7, r6, q6⟩
    exact go hh w
  · match f, z with
    | .next, ⟨σ', H', J', q⟩ => exact wpAny_execs_nil ⟨σ', H', J'.ofTry ok, q⟩
    | .brk, ⟨σ', H', J', q⟩ => exact ⟨σ', H', J'.ofTry ok, q⟩
    | .cont, ⟨σ', H', J', q⟩ => exact ⟨σ', H', J'.ofTry ok, q⟩
    | .ret u, ⟨v, σ', H', J', r, q⟩ => exact ⟨v, σ', H', J'.ofTry ok, r, q⟩
end
end MP

set_option maxRecDepth 100000
set_option maxHeartbeats 1000000
namespace MP
open PySem L2
open Evl (Ex ex_rd ex_l ex_t)
/-! ### an exception's dict taken out of what is frozen -/
section
variable {c : Cb} {F F' H : Hp} {d : Addr} {xs : List (Str × V)}
theorem cut_ne {a : Addr} (h : a ≠ d) : cut F d a = F a := by unfold cut; rw [if_neg h]
theorem sqt_cut (hd : F d = some (.xd xs)) {a : Addr} {vs : List V} (h : SqT c.K F a vs) : SqT c.K (cut F d) a vs := by
  rcases h with (h | ⟨o, h⟩) | h
  · exact .inl (.inl (by rw [cut_ne (fun e => by rw [e, hd] at h; cases h)]; exact h))
  · exact .inl (.inr ⟨o, by rw [cut_ne (fun e => by rw [e, hd] at h; cases h)]; exact h⟩)
  · exact .inr h
theorem sql_cut (hd : F d = some (.xd xs)) {a : Addr} {vs : List V} (h : SqL c.K F a vs) : SqL c.K (cut F d) a vs := by
  rcases h with (h | ⟨o, h⟩) | h
  · exact .inl (.inl (by rw [cut_ne (fun e => by rw [e, hd] at h; cases h)]; exact h))
  · exact .inl (.inr ⟨o, by rw [cut_ne (fun e => by rw [e, hd] at h; cases h)]; exact h⟩)
  · exact .inr h
mutual
theorem Rep.cut (hd : F d = some (.xd xs)) : ∀ (x : D) (v : V), Rep c F x v → Rep c (MP.cut F d) x v
  | .non, _, h => h
  | .bl _, _, h => h
  | .int _, _, h => h
  | .str _, _, h => h
  | .tup ds, _, ⟨a, vs, h1, h2, h3⟩ => ⟨a, vs, h1, sqt_cut hd h2, Reps.cut hd ds vs h3⟩
  | .lst ds, _, ⟨a, vs, h1, h2, h3⟩ => ⟨a, vs, h1, by rw [cut_ne (fun e => by rw [e, hd] at h2; cases h2)]; exact h2, Reps.cut hd ds vs h3⟩
  | .obj n fs, _, ⟨a, dx, vs, h1, h2, h3⟩ => ⟨a, dx, vs, h1, by rw [cut_ne (fun e => by rw [e, hd] at h2; cases h2)]; exact h2, RepF.cut hd fs vs h3⟩
  | .hand, _, h => h
  | .ptup ds, _, ⟨a, ob, vs, h1, h2, h3, h4, h5⟩ => ⟨a, ob, vs, h1, by rw [cut_ne (fun e => by rw [e, hd] at h2; cases h2)]; exact h2, h3, h4, Reps.cut hd ds vs h5⟩
  | .edic, _, ⟨a, h1, h2⟩ => ⟨a, h1, by rw [cut_ne (fun e => by rw [e, hd] at h2; cases h2)]; exact h2⟩
  | .slst ds, _, ⟨a, vs, h1, h2, h3⟩ => ⟨a, vs, h1, sql_cut hd h2, Reps.cut hd ds vs h3⟩
  | .exv n fs, _, ⟨a, dd, vs, h1, h2, h3, h4⟩ => ⟨a, dd, vs, h1, by rw [cut_ne (fun e => by rw [e, hd] at h2; cases h2)]; exact h2, h3.imp (fun z => z) (fun ⟨d', od, k1, k2⟩ => ⟨d', od, k1, by rw [cut_ne (fun e => by rw [e, hd] at k2; cases k2)]; exact k2⟩), RepF.cut hd fs vs h4⟩
theorem Reps.cut (hd : F d = some (.xd xs)) : ∀ (ds : List D) (vs : List V), Reps c F ds vs → Reps c (MP.cut F d) ds vs
  | [], _, h => h
  | x :: ds, _, ⟨v, r, h1, h2, h3⟩ => ⟨v, r, h1, Rep.cut hd x v h2, Reps.cut hd ds r h3⟩
theorem RepF.cut (hd : F d = some (.xd xs)) : ∀ (ds : List (Str × D)) (vs : List (Str × V)), RepF c F ds vs → RepF c (MP.cut F d) ds vs
  | [], _, h => h
  | (n, x) :: ds, _, ⟨v, r, h1, h2, h3⟩ => ⟨v, r, h1, Rep.cut hd x v h2, RepF.cut hd ds r h3⟩
end
theorem OwnO.cut (hd : F d = some (.xd xs)) {x : D} {o : HO} (h : OwnO c F x o) : OwnO c (MP.cut F d) x o := by
  rcases h.inv with ⟨ds, vs, rfl, rfl, k⟩ | ⟨n, fs, dx, vs, rfl, rfl, k⟩
  · exact Reps.cut hd _ _ k
  · exact ⟨rfl, RepF.cut hd _ _ k⟩
end
/-- what a suite stands in: the exception at a, its dict frozen with F1 -/
def csu (c : Ct) (o : Option Nat) (a : Addr) (F1 : Hp) : Ct := { toCb := c.toCb, pin := (match o with | none => c.pin | some i => (i, .ref a) :: c.pin), fx := F1 }
/-- the exception that is handled -/
def ExcF (c : Cb) (F1 : Hp) (n : Str) (fs : List (Str × D)) (cls : Value) (dd : Option Addr) : Prop := cls = .ref (c.ca n) ∧ ((fs = [] ∧ dd = none) ∨ ∃ d vs, dd = some d ∧ F1 d = some (.xd vs) ∧ RepF c F1 fs vs)
abbrev SuD := Str → List (Str × D) → SS
def wipe1 (o : Option Nat) (ρ : Env) : Env := match o with
  | none => ρ
  | some i => ρ.set i none
/-- a suite's end: its name is gone; a suite raises nothing -/
def unAs (o : Option Nat) : Option (SOut × G) → Option (SOut × G)
  | some (.nx ρ, g) => some (.nx (wipe1 o ρ), g)
  | some (.brk ρ, g) => some (.brk (wipe1 o ρ), g)
  | some (.cnt ρ, g) => some (.cnt (wipe1 o ρ), g)
  | some (.ret d, g) => some (.ret d, g)
  | _ => none
def tryGo (em : Str → Str → Option Bool) (n : Str) (fs : List (Str × D)) (ρ : Env) (g : G) : List (Str × Option Nat × SuD) → Option (SOut × G)
  | [] => some (.exc n fs ρ, g)
  | (m, o, su) :: r => match em n m with
    | some true => unAs o (su n fs (wipe1 o ρ) g)
    | some false => tryGo em n fs ρ g r
    | none => none
def sTry (em : Str → Str → Option Bool) (hd : List (Str × Option Nat × SuD)) (sb : SS) : SS := fun ρ g => match sb ρ g with
  | some (.exc n fs ρ1, g1) => tryGo em n fs ρ1 g1 hd
  | y => y
inductive HdsD (c : Ct) (O' OL : List Nat) : List (Value × Option Nat × SuiteT) → List (Str × Option Nat × SuD) → Prop
  | nil : HdsD c O' OL [] []
  | cons {m : Str} {o : Option Nat} {ts : SuiteT} {su : SuD} {l : List (Value × Option Nat × SuiteT)} {hd : List (Str × Option Nat × SuD)}
      (h : ∀ a cls dd n fs F1, ExcF c F1 n fs cls dd → SndS (csu c o a F1) [] O' OL W0 (ts a cls dd) (su n fs)) (hp : ∀ i, o = some i → c.np i = true) (r : HdsD c O' OL l hd) : HdsD c O' OL ((.ref (c.ca m), o, ts) :: l) ((m, o, su) :: hd)
section
variable {c : Ct} {F0 H0 F H F' H' F1 F2 F3 H2 H3 : Hp} {σ : St} {ρ : Env} {O O1 O' OL : List Nat} {W : WX} {g g' : G} {te ta tb tc : TE} {e a b : SE}
theorem np_all {c : Ct} {o : Option Nat} (hp : ∀ i, o = some i → c.np i = true) : ∀ {j v}, (j, v) ∈ c.pin → o ≠ some j := fun {j v} m e => by
  have := Ct.np_ne (hp j e) m
  exact this rfl
/-- the heaps behind a suite, the dict taken out -/
theorem back_heap (G : Gr c F1 H2 F3 H3) (ex : Ex F3 H3) (hF : F1 = F2 ∨ ∃ d vs, F2 d = none ∧ F1 = upd F2 d (.xd vs)) :
    ∃ F', Ex F2 F' ∧ Ex F' H3 ∧ Gr c F2 H2 F' H3 ∧ (∀ (y : D) (v : V), Rep c F3 y v → Rep c F' y v) ∧ (∀ (y : D) (w : HO), OwnO c F3 y w → OwnO c F' y w) ∧ (∀ p, F3 p = none → F' p = none) ∧ (∀ g3, HandAt c F3 H3 g3 → HandAt c F' H3 g3) := by
  rcases hF with rfl | ⟨d, vs, hd, rfl⟩
  · exact ⟨F3, G.ex, ex, G, fun _ _ h => h, fun _ _ h => h, fun _ h => h, fun _ h => h⟩
  · have h3 : F3 d = some (.xd vs) := G.ex d _ upd_same
    have e1 : Ex F2 (cut F3 d) := fun a u e => by
      have ne : a ≠ d := ne_of_none e hd
      rw [cut_ne ne]
      exact G.ex a u (by rw [upd_ne ne]; exact e)
    have e2 : Ex (cut F3 d) H3 := fun a u e => by
      unfold cut at e
      split at e
      · cases e
      · exact ex a u e
    refine ⟨cut F3 d, e1, e2, ⟨e1, G.keep, fun a e k => ?_, G.dom⟩, fun y v h => Rep.cut h3 y v h, fun y w h => h.cut h3, fun p h => ?_, fun g3 h => ?_⟩
    · have ne : a ≠ d := fun z => k (by unfold cut; rw [if_pos z])
      rw [cut_ne ne] at k
      exact G.new a (by rw [upd_ne ne]; exact e) k
    · unfold cut
      split
      · rfl
      · exact h
    · unfold HandAt at h ⊢
      cases q : c.hd with
      | none => trivial
      | some p =>
        rw [q] at h
        obtain ⟨k1, us, k2, k3⟩ := h
        refine ⟨?_, us, k2, Reps.cut h3 _ _ k3⟩
        unfold cut
        split
        · rfl
        · exact k1
/-- back from a suite's states to the def's -/
theorem sr_back {x : Addr} {o : Option Nat} {ρ3 : Env} {σ3 : St} {g3 : G} (hp : ∀ i, o = some i → c.np i = true) (S : SR c F0 H0 F2 H2 σ ρ [] g) (hF : F1 = F2 ∨ ∃ d vs, F2 d = none ∧ F1 = upd F2 d (.xd vs)) (S3 : SR (csu c o x F1) F1 H2 F3 H3 σ3 ρ3 O' g3) :
    ∃ F', Ex F2 F' ∧ SR c F0 H0 F' H3 (match o with | none => σ3 | some i => σ3.set i none) (wipe1 o ρ3) O' g3 := by
  obtain ⟨F', e1, e2, G, hr, ho, hn, hh⟩ := back_heap (c := c) S3.gr S3.ex hF
  refine ⟨F', e1, ?_⟩
  have S4 : SR c F0 H0 F' H3 σ3 ρ3 O' g3 := ⟨e2, S.gr.trans G, S3.len, fun i d k m => by
      obtain ⟨v, k1, k2⟩ := S3.val i d k m
      exact ⟨v, k1, hr _ _ k2⟩, fun i d k m => by
      obtain ⟨v, k1, p, w, k2, k3, k4, k5, k6, k7⟩ := S3.own i d k m
      exact ⟨v, k1, p, w, k2, S.gr.dom _ k3, hn _ k4, k5, k6, ho _ _ k7⟩, S3.dis, hh _ S3.hand, S.bs.trans e1, fun i v m => S3.pn i v (by
      show (i, v) ∈ (match o with | none => c.pin | some j => (j, V.ref x) :: c.pin)
      cases o with
      | none => exact m
      | some j => exact List.mem_cons_of_mem _ m)⟩
  cases o with
  | none => exact S4
  | some i => exact S4.unset i (hp i rfl)
theorem snd_try {tb : WX → TS} {sb : SS} {em : Str → Str → Option Bool} {l : List (Value × Option Nat × SuiteT)} {hd : List (Str × Option Nat × SuD)} (hem : ∀ n m b, em n m = some b → PySem.W.exmOne c.K (.ref (c.ca n)) (.ref (c.ca m)) = some b)
    (hb : ∀ W', SndS c O O' OL W' (tb W') sb) (hh : HdsD c O' OL l hd) : SndS c O O' OL W (fun D σ H => tb (wHds c.K W D l) D σ H) (sTry em hd sb) := fun F0 H0 F H σ ρ g r g' S q D p => by
  unfold sTry at q
  cases z : sb ρ g with
  | none => rw [z] at q; cases q
  | some y =>
    obtain ⟨so, g1⟩ := y
    rw [z] at q
    refine hb _ _ _ _ _ _ _ _ _ _ S z D ?_
    cases so with
    | nx ρ1 => cases q; exact p
    | brk ρ1 => cases q; exact p
    | cnt ρ1 => cases q; exact p
    | ret d => cases q; exact p
    | exc n fs ρ1 =>
      intro cls dd σ2 F2 H2 e2 S2 x
      obtain ⟨x1, x2⟩ := id x
      subst x1
      simp only at q
      clear z
      induction hh with
      | nil =>
        cases q
        exact p _ dd σ2 F2 H2 e2 S2 x
      | @cons m o ts su l hd h hp r ih =>
        unfold tryGo at q
        cases k : em n m with
        | none => rw [k] at q; cases q
        | some b =>
          rw [k] at q
          refine ⟨b, hem n m b k, fun hb a ha => ?_, fun hb => ?_⟩
          · subst hb
            simp only at q
            -- the dict is frozen for the while
            obtain ⟨F1, e3, hF, x3⟩ : ∃ F1, Ex F2 F1 ∧ (F1 = F2 ∨ ∃ d vs, F2 d = none ∧ F1 = upd F2 d (.xd vs)) ∧ (Ex F1 H2 ∧ ExcF c F1 n fs (.ref (c.ca n)) dd) := by
              rcases x2 with x2 | ⟨d, vs, k1, k2, k3⟩
              · exact ⟨F2, .refl F2, .inl rfl, S2.ex, rfl, .inl x2⟩
              · cases w : F2 d with
                | none =>
                  have e4 : Ex F2 (upd F2 d (.xd vs)) := Ex.new w
                  exact ⟨upd F2 d (.xd vs), e4, .inr ⟨d, vs, w, rfl⟩, S2.ex.frz k2, rfl, .inr ⟨d, vs, k1, upd_same, k3.mono e4⟩⟩
                | some u =>
                  have := S2.ex d u w
                  rw [k2] at this
                  cases this
                  exact ⟨F2, .refl F2, .inl rfl, S2.ex, rfl, .inr ⟨d, vs, k1, w, k3⟩⟩
            obtain ⟨ex1, xf⟩ := x3
            have S1 : SR (csu c o a F1) F1 H2 F1 H2 (setAs o a σ2) (wipe1 o ρ1) [] g1 := by
              have len : ∀ i, (σ2.set i (some (.ref a))).length = (ρ1.set i none).length := fun i => by rw [List.length_set, List.length_set]; exact S2.len
              have hand : HandAt c F1 H2 g1 := by
                rcases hF with rfl | ⟨d, vs, w, rfl⟩
                · exact S2.hand
                · have hH : H2 d = some (.xd vs) := ex1 d _ upd_same
                  have z := S2.hand
                  unfold HandAt at z ⊢
                  cases w2 : c.hd with
                  | none => trivial
                  | some p =>
                    rw [w2] at z
                    obtain ⟨k1, us, k2, k3⟩ := z
                    have ne : p ≠ d := fun e => by rw [e, hH] at k2; cases k2
                    exact ⟨by rw [upd_ne ne]; exact k1, us, k2, k3.mono e3⟩
              cases o with
              | none => exact ⟨ex1, Gr.refl .., S2.len, fun i d k m => by
                  obtain ⟨v, k1, k2⟩ := S2.val i d k (by simp)
                  exact ⟨v, k1, k2.mono e3⟩, fun i d _ m => (by cases m), fun i j _ _ m => (by cases m), hand, .refl F1, S2.pn⟩
              | some i =>
                have U := S2.unset i (hp i rfl)
                refine ⟨ex1, Gr.refl .., len i, fun j d k m => ?_, fun i d _ m => (by cases m), fun i j _ _ m => (by cases m), hand, .refl F1, fun j v m l => ?_⟩
                · have ne : i ≠ j := fun e => by
                    subst e
                    by_cases l : i < ρ1.length
                    · have z : (ρ1.set i none)[i]? = some (some d) := k
                      rw [List.getElem?_set_self l] at z; cases z
                    · have z : (ρ1.set i none)[i]? = some (some d) := k
                      rw [List.getElem?_eq_none (by rw [List.length_set]; omega)] at z; cases z
                  have z : (ρ1.set i none)[j]? = some (some d) := k
                  rw [List.getElem?_set_ne ne] at z
                  obtain ⟨v, k1, k2⟩ := S2.val j d z (by simp)
                  exact ⟨v, by show (σ2.set i _)[j]? = _; rw [List.getElem?_set_ne ne]; exact k1, k2.mono e3⟩
                · rcases List.mem_cons.mp (show (j, v) ∈ (i, V.ref a) :: c.pin from m) with m | m
                  · cases m
                    show (σ2.set i _)[i]? = _
                    exact List.getElem?_set_self (by simpa [setAs] using l)
                  · have ne := Ct.np_ne (hp i rfl) m
                    show (σ2.set i _)[j]? = _
                    rw [List.getElem?_set_ne ne]
                    exact S2.pn j v m (by simpa [setAs] using l)
            unfold unAs at q
            cases zz : su n fs (wipe1 o ρ1) g1 with
            | none => rw [zz] at q; cases q
            | some y =>
              obtain ⟨so, g2⟩ := y
              rw [zz] at q
              refine h a _ dd n fs F1 xf _ _ _ _ _ _ _ _ _ S1 zz _ ?_
              have e4 := e2.trans e3
              cases so with
              | exc _ _ _ => cases q
              | nx ρ3 =>
                cases q
                intro σ3 F3 H3 e5 S3
                obtain ⟨F', e6, S4⟩ := sr_back hp S2 hF S3
                have := p _ F' H3 (e2.trans e6) S4
                cases o <;> exact this
              | brk ρ3 =>
                cases q
                intro σ3 F3 H3 e5 S3
                obtain ⟨F', e6, S4⟩ := sr_back hp S2 hF S3
                have := p _ F' H3 (e2.trans e6) S4
                cases o <;> exact this
              | cnt ρ3 =>
                cases q
                intro σ3 F3 H3 e5 S3
                obtain ⟨F', e6, S4⟩ := sr_back hp S2 hF S3
                have := p _ F' H3 (e2.trans e6) S4
                cases o <;> exact this
              | ret d =>
                cases q
                intro v F3 H3 G3 ex hh rv
                obtain ⟨F', e1', e2', G', hr, ho, hn, hh'⟩ := back_heap (c := c) G3 ex hF
                have := p v F' H3 (S2.gr.trans G') e2' (hh' _ hh) (hr _ _ rv)
                cases o <;> exact this
          · subst hb
            exact ih q
end
end MP

set_option maxRecDepth 100000
set_option maxHeartbeats 1000000
namespace MP
open PySem PySem.Spec PyProof.Rows L2
open Evl (Ex ex_rd ex_l ex_t)
/-- the reading that a meaning gives -/
def tOf (c : Ct) (O O' OL : List Nat) (W : WX) (sb : SS) : TS := fun D σ H => ∃ F0 H0 F ρ g r g', SR c F0 H0 F H σ ρ O g ∧ sb ρ g = some (r, g') ∧ SPost c F0 H0 F O' OL W D r g'
theorem snd_of {c : Ct} {O O' OL : List Nat} {W : WX} {sb : SS} : SndS c O O' OL W (tOf c O O' OL W sb) sb := fun F0 H0 F H σ ρ g r g' S q D p => ⟨F0, H0, F, ρ, g, r, g', S, q, p⟩
theorem pss_of {X : Cx} {b : List Stmt} {ts : TS} {c : Ct} {O O' OL : List Nat} {W : WX} {sb : SS} (h : PSs X b ts) (s : SndS c O O' OL W ts sb) : PSs X b (tOf c O O' OL W sb) :=
  ⟨fun pins s0 σ H D I ⟨F0, H0, F, ρ, g, r, g', S, q, p⟩ => h.run pins s0 σ H D I (s _ _ _ _ _ _ _ _ _ S q D p)⟩
def tSu (c : Ct) (o : Option Nat) (O' OL : List Nat) (su : SuD) : SuiteT := fun a cls dd D σ H => ∃ n fs F1, ExcF c F1 n fs cls dd ∧ tOf (csu c o a F1) [] O' OL W0 (su n fs) D σ H
theorem snd_su {c : Ct} {o : Option Nat} {O' OL : List Nat} {su : SuD} {a : Addr} {cls : Value} {dd : Option Addr} {n : Str} {fs : List (Str × D)} {F1 : Hp} (hx : ExcF c F1 n fs cls dd) : SndS (csu c o a F1) [] O' OL W0 (tSu c o O' OL su a cls dd) (su n fs) :=
  fun F0 H0 F H σ ρ g r g' S q D p => ⟨n, fs, F1, hx, F0, H0, F, ρ, g, r, g', S, q, p⟩
theorem pss_su {X : Cx} {b : List Stmt} {c : Ct} {o : Option Nat} {O' OL : List Nat} {su : SuD} {a : Addr} {cls : Value} {dd : Option Addr} (h : ∀ n fs F1, ExcF c F1 n fs cls dd → PSs X b (tOf (csu c o a F1) [] O' OL W0 (su n fs))) : PSs X b (tSu c o O' OL su a cls dd) :=
  ⟨fun pins s0 σ H D I ⟨n, fs, F1, hx, q⟩ => (h n fs F1 hx).run pins s0 σ H D I q⟩
theorem hdsD_cons {c : Ct} {O' OL : List Nat} {m : Str} {o : Option Nat} {su : SuD} {l : List (Value × Option Nat × SuiteT)} {hd : List (Str × Option Nat × SuD)} (hp : ∀ i, o = some i → c.np i = true) (r : HdsD c O' OL l hd) :
    HdsD c O' OL ((.ref (c.ca m), o, tSu c o O' OL su) :: l) ((m, o, su) :: hd) := .cons (fun a cls dd n fs F1 hx => snd_su hx) hp r
/-- e.f of the caught error -/
def eXf (i : Nat) (C f : Str) (n : Str) (fs : List (Str × D)) : SE := fun ρ g => if (decide (i < ρ.length) && n == C) = true then (match fs.lookup f with
  | some d => some (.ok d, g)
  | none => none) else none
theorem snd_xf {c : Ct} {a : Addr} {i : Nat} {O : List Nat} {W : WX} {n C f : Str} {fs : List (Str × D)} {F1 : Hp} {cls : Value} {dd : Option Addr} (hx : ExcF c F1 n fs cls dd) :
    SndE (csu c (some i) a F1) O W (tXf a cls dd (c.ca C) f (tVar i)) (eXf i C f n fs) := fun F0 H0 F H σ ρ g r g' S q Q p => by
  unfold eXf at q
  split at q
  · rename_i hc
    rw [Bool.and_eq_true_iff] at hc
    obtain ⟨h1, h2⟩ := hc
    have h1 := of_decide_eq_true h1
    have h2 : n = C := eq_of_beq h2
    subst h2
    split at q
    · rename_i d hd
      cases q
      obtain ⟨x1, x2⟩ := hx
      rcases x2 with x2 | ⟨dd', vs, e1, e2, e3⟩
      · rw [x2.1] at hd; cases hd
      · obtain ⟨v, k1, k2⟩ := e3.look hd
        have b : Ex F1 F := S.bs
        have e4 := S.ex _ _ (b _ _ e2)
        exact ⟨.ref a, S.pn i _ List.mem_cons_self (by rw [S.len]; exact h1), rfl, x1, dd', vs, v, e1, e4, k1, p v F H (Gr.refl ..) S (k2.mono b)⟩
    · cases q
  · cases q
theorem call_maxI {X : Cx} (hc : X.calm = true) : CallR X (.builtin "max") rMax2X := call_max2 hc
def rMin2X : List V → Hp → VK → Prop := fun xs H Q => ∃ i j, xs = [.int i, .int j] ∧ Q (.int (if j < i then j else i)) H
theorem call_minI {X : Cx} (hc : X.calm = true) : CallR X (.builtin "min") rMin2X := call_min2 hc
def fMin2 : List D → Option D
  | [.int i, .int j] => some (.int (if j < i then j else i))
  | _ => none
theorem snd_min2 {c : Ct} {O : List Nat} {W : WX} {ta : TA} {ar : SA} (h : SndA c O W ta ar) : SndE c O W (tCB rMin2X ta) (eArgs (pf fMin2) ar) := snd_cb h fun F H ds z vs ex q rs Q p => by
  unfold fMin2 at q
  split at q
  · rename_i i j
    cases q
    obtain ⟨v, r, h1, h2, v2, r2, h3, h4, h5⟩ := rs
    cases h2
    cases h4
    cases h5
    subst h3
    exact ⟨i, j, h1, p _ F H (.refl ex) rfl⟩
  · cases q
/-! sum of a list or a tuple of numbers -/
def rSumU (K : PySem.W.Frag) : List V → Hp → VK → Prop := fun vs H Q => rSumX K vs H Q ∨ ∃ (a : Addr) (ns : List Int), vs = [V.ref a] ∧ SqT K H a (ns.map V.int) ∧ Q (.int ns.sum) H
theorem cr_sumU {X : Cx} (hc : X.calm = true) : CallR X (.builtin "sum") (rSumU X.K) := by
  intro pins s σ H vs us Q I r h
  rcases h with h | ⟨a, ns, rfl, hs, q⟩
  · exact cr_sum hc pins s σ H vs us Q I r h
  · obtain ⟨its, rv, ht, _⟩ := I.tuple hs
    rw [Vals.ref1 r]
    have hi : IntsAre its ns := rv.ints
    obtain ⟨xs, hx⟩ := hi.allInts.items
    have hn : numsOf its.toArray.toList = ns := by rw [show its.toArray.toList = its from rfl, hi.numsOf]
    rw [hx] at ht hn
    rw [nums_intItems] at hn
    refine PySem.W.ktm_sumG (I.ok.hd hc) ht fun h' tk t' hk => ⟨.int _, H, I.kept hk, ⟨_, rfl⟩, ?_⟩
    rw [preSum_eq, List.take_of_length_le (by simp), hn]
    exact q
def fSumU : D → Option D
  | .lst ds => (onlyI ds).map fun ns => .int ns.sum
  | .tup ds => (onlyI ds).map fun ns => .int ns.sum
  | _ => none
theorem rb_sumU {c : Ct} : RB c (rSumU c.K) fSumU := fun F H d z v ex q rx Q p => by
  cases d with
  | lst ds => exact .inl (rb_sum F H (.lst ds) z v ex q rx Q p)
  | tup ds =>
    simp only [fSumU] at q
    cases z : onlyI ds with
    | none => rw [z] at q; cases q
    | some ns =>
      rw [z] at q
      cases q
      obtain ⟨a, vs, h1, h2, h3⟩ := rx.tup ex
      exact .inr ⟨a, ns, by rw [h1], by rw [← onlyI_ok z h3]; exact h2, p _ F H (.refl ex) rfl⟩
  | _ => cases q
/-! str(number) -/
def rStrI : List V → Hp → VK → Prop := fun xs H Q => ∃ i : Int, xs = [.int i] ∧ i.natAbs.log2 < 1920 ∧ Q (.str (toString i)) H
theorem call_strI {X : Cx} : CallR X (.type "str") rStrI := call_str_int
def fStr : D → Option D
  | .int i => if i.natAbs.log2 < 1920 then some (.str (toString i)) else none
  | _ => none
theorem rb_str {c : Ct} : RB c rStrI fStr := fun F H d z v ex q rx Q p => by
  cases d with
  | int i =>
    by_cases hz : i.natAbs.log2 < 1920
    · simp only [fStr, if_pos hz, Option.some.injEq] at q
      subst q
      have e : v = .int i := brep_int rx
      subst e
      exact ⟨i, rfl, hz, p _ F H (.refl ex) rfl⟩
    · simp only [fStr, if_neg hz] at q
      cases q
  | _ => cases q
end MP

set_option maxRecDepth 100000
set_option maxHeartbeats 1000000
namespace MP
open PySem L2
open Evl (Ex ex_rd ex_l ex_t)
/-! ### a call that only reads: what is owned is lent to it, and the hand is kept from it -/
section
variable {c : Ct} {F0 H0 F H F' H' F1 : Hp} {σ : St} {ρ : Env} {O : List Nat} {W : WX} {g g' : G} {te : TE} {e : SE}
/-- one owned list frozen, and what is frozen anew -/
theorem SR.freeze1L (S : SR c F0 H0 F H σ ρ O g) (i : Nat) (hl : i ∈ O → ∀ d, ρ[i]? = some (some d) → ∃ ds, d = .lst ds) :
    ∃ F', Ex F F' ∧ SR c F0 H0 F' H σ ρ (O.filter (· != i)) g ∧ ∀ a, F a = none → F' a ≠ none → ∃ vs, F' a = some (.lst vs) := by
  by_cases hi : i ∈ O
  · have void : (∀ d, ρ[i]? ≠ some (some d)) → ∃ F', Ex F F' ∧ SR c F0 H0 F' H σ ρ (O.filter (· != i)) g ∧ ∀ a, F a = none → F' a ≠ none → ∃ vs, F' a = some (.lst vs) := fun zz => by
      refine ⟨F, .refl F, ⟨S.ex, S.gr, S.len, fun j d h k => ?_, fun j d h k => S.own j d h (List.mem_filter.mp k).1, fun j k d e hj hk ne h1 h2 => S.dis j k d e (List.mem_filter.mp hj).1 (List.mem_filter.mp hk).1 ne h1 h2, S.hand, S.bs, S.pn⟩, fun a h1 h2 => absurd h1 h2⟩
      by_cases q : j = i
      · subst q; exact absurd h (zz d)
      · exact S.val j d h (fun m => k (List.mem_filter.mpr ⟨m, by simpa using q⟩))
    cases z : ρ[i]? with
    | none => exact void fun d h => by rw [z] at h; cases h
    | some od =>
      cases od with
      | none => exact void fun d h => by rw [z] at h; cases h
      | some d0 =>
        obtain ⟨ds, rfl⟩ := hl hi d0 z
        obtain ⟨v, h1, p, o, h3, h4, h5, h6, h7, h8⟩ := S.own i _ z hi
        obtain ⟨vs, rfl, h9⟩ := h8.lst
        have eF : Ex F (upd F p (.lst vs)) := Ex.new h5
        refine ⟨upd F p (.lst vs), eF, ⟨S.ex.frz h7, ⟨S.gr.ex.trans eF, S.gr.keep, fun a z k => ?_, S.gr.dom⟩, S.len, fun j d h k => ?_, fun j d h k => ?_, fun j k d e hj hk ne h1 h2 => S.dis j k d e (List.mem_filter.mp hj).1 (List.mem_filter.mp hk).1 ne h1 h2, hand_freeze S.hand h5 h6, S.bs.trans eF, S.pn⟩, fun a k1 k2 => ?_⟩
        · by_cases q : a = p
          · subst q; exact h4
          · rw [upd_ne q] at k; exact S.gr.new a z k
        · by_cases q : j = i
          · subst q
            rw [z] at h
            cases h
            exact ⟨v, h1, by rw [h3]; exact (h8.mono eF).rep upd_same⟩
          · obtain ⟨w, k1, k2⟩ := S.val j d h (fun m => k (List.mem_filter.mpr ⟨m, by simpa using q⟩))
            exact ⟨w, k1, k2.mono eF⟩
        · obtain ⟨hj, hne⟩ := List.mem_filter.mp k
          have hne : j ≠ i := by simpa using hne
          obtain ⟨w, k1, p2, o2, k3, k4, k5, k6, k7, k8⟩ := S.own j d h hj
          have pp : p2 ≠ p := fun e => S.dis j i d _ hj hi hne h z (by rw [k1, h1, k3, h3, e])
          exact ⟨w, k1, p2, o2, k3, k4, by rw [upd_ne pp]; exact k5, k6, k7, k8.mono eF⟩
        · by_cases q : a = p
          · subst q; exact ⟨vs, upd_same⟩
          · rw [upd_ne q] at k2; exact absurd k1 k2
  · refine ⟨F, .refl F, ?_, fun a h1 h2 => absurd h1 h2⟩
    have e : O.filter (· != i) = O := List.filter_eq_self.mpr fun a ha => by
      have : a ≠ i := fun e => hi (e ▸ ha)
      simpa using this
    rw [e]
    exact S
/-- all that is owned -/
theorem SR.freezeL : ∀ (n : Nat) (O : List Nat) (F : Hp), O.length ≤ n → SR c F0 H0 F H σ ρ O g → (∀ i ∈ O, ∀ d, ρ[i]? = some (some d) → ∃ ds, d = .lst ds) →
    ∃ F', Ex F F' ∧ SR c F0 H0 F' H σ ρ [] g ∧ ∀ a, F a = none → F' a ≠ none → ∃ vs, F' a = some (.lst vs)
  | _, [], F, _, S, _ => ⟨F, .refl F, S, fun a h1 h2 => absurd h1 h2⟩
  | n + 1, i :: O, F, hn, S, hl => by
    obtain ⟨F1, e1, S1, n1⟩ := S.freeze1L i (fun _ d h => hl i List.mem_cons_self d h)
    have lt : ((i :: O).filter (· != i)).length ≤ n := by
      rw [List.filter_cons_of_neg (by simp)]
      rw [List.length_cons] at hn
      exact Nat.le_trans (List.length_filter_le _ _) (by omega)
    obtain ⟨F2, e2, S2, n2⟩ := SR.freezeL n _ F1 lt S1 (fun j hj => hl j (List.mem_filter.mp hj).1)
    refine ⟨F2, e1.trans e2, S2, fun a h1 h2 => ?_⟩
    cases q : F1 a with
    | none => exact n2 a q h2
    | some o =>
      obtain ⟨vs, hv⟩ := n1 a h1 (by rw [q]; exact Option.some_ne_none o)
      exact ⟨vs, e2 _ _ hv⟩
end
mutual
/-- data without a list in it -/
def noL : D → Bool
  | .non => true
  | .bl _ => true
  | .int _ => true
  | .str _ => true
  | .tup ds => noLs ds
  | .ptup ds => noLs ds
  | .obj _ fs => noLf fs
  | _ => false
def noLs : List D → Bool
  | [] => true
  | d :: ds => noL d && noLs ds
def noLf : List (Str × D) → Bool
  | [] => true
  | (_, d) :: ds => noL d && noLf ds
end
section
variable {c c' : Cb} {F F' : Hp}
mutual
theorem Rep.noL (hK : c'.K = c.K) (ha : c'.ca = c.ca) (hF : ∀ a o, F' a = some o → (∀ vs, o ≠ .lst vs) → F a = some o) : ∀ (x : D) (v : V), MP.noL x = true → Rep c' F' x v → Rep c F x v
  | .non, _, _, h => h
  | .bl _, _, _, h => h
  | .int _, _, _, h => h
  | .str _, _, _, h => h
  | .tup ds, _, n, ⟨a, vs, h1, h2, h3⟩ => ⟨a, vs, h1, by
      rw [← hK]
      rcases h2 with (h2 | ⟨o, h2⟩) | h2
      · exact .inl (.inl (hF _ _ h2 fun _ q => nomatch q))
      · exact .inl (.inr ⟨o, hF _ _ h2 fun _ q => nomatch q⟩)
      · exact .inr h2, Reps.noL hK ha hF ds vs n h3⟩
  | .obj m fs, _, n, ⟨a, dx, vs, h1, h2, h3⟩ => ⟨a, dx, vs, h1, by rw [← ha]; exact hF _ _ h2 (fun _ q => nomatch q), RepF.noL hK ha hF fs vs n h3⟩
  | .lst _, _, n, _ => nomatch n
  | .hand, _, n, _ => nomatch n
  | .ptup ds, _, n, ⟨a, ob, vs, h1, h2, h3, h4, h5⟩ => ⟨a, ob, vs, h1, hF _ _ h2 (fun _ q => nomatch q), h3, h4, Reps.noL hK ha hF ds vs n h5⟩
  | .edic, _, n, _ => nomatch n
  | .slst _, _, n, _ => nomatch n
  | .exv _ _, _, n, _ => nomatch n
theorem Reps.noL (hK : c'.K = c.K) (ha : c'.ca = c.ca) (hF : ∀ a o, F' a = some o → (∀ vs, o ≠ .lst vs) → F a = some o) : ∀ (ds : List D) (vs : List V), noLs ds = true → Reps c' F' ds vs → Reps c F ds vs
  | [], _, _, h => h
  | x :: ds, _, n, ⟨v, r, h1, h2, h3⟩ => ⟨v, r, h1, Rep.noL hK ha hF x v (Bool.and_eq_true_iff.mp n).1 h2, Reps.noL hK ha hF ds r (Bool.and_eq_true_iff.mp n).2 h3⟩
theorem RepF.noL (hK : c'.K = c.K) (ha : c'.ca = c.ca) (hF : ∀ a o, F' a = some o → (∀ vs, o ≠ .lst vs) → F a = some o) : ∀ (ds : List (Str × D)) (vs : List (Str × V)), noLf ds = true → RepF c' F' ds vs → RepF c F ds vs
  | [], _, _, h => h
  | (_, x) :: ds, _, n, ⟨v, r, h1, h2, h3⟩ => ⟨v, r, h1, Rep.noL hK ha hF x v (Bool.and_eq_true_iff.mp n).1 h2, RepF.noL hK ha hF ds r (Bool.and_eq_true_iff.mp n).2 h3⟩
end
end
mutual
/-- data without the hand in it -/
def hf : D → Bool
  | .hand => false
  | .tup ds => hfs ds
  | .lst ds => hfs ds
  | .ptup ds => hfs ds
  | .slst ds => hfs ds
  | .obj _ fs => hff fs
  | .exv _ fs => hff fs
  | _ => true
def hfs : List D → Bool
  | [] => true
  | d :: ds => hf d && hfs ds
def hff : List (Str × D) → Bool
  | [] => true
  | (_, d) :: ds => hf d && hff ds
end
section
variable {c c' : Cb} {F : Hp}
mutual
theorem Rep.hf (hK : c.K = c'.K) (ha : c.ca = c'.ca) : ∀ (x : D) (v : V), MP.hf x = true → Rep c F x v → Rep c' F x v
  | .non, _, _, h => h
  | .bl _, _, _, h => h
  | .int _, _, _, h => h
  | .str _, _, _, h => h
  | .tup ds, _, n, ⟨a, vs, h1, h2, h3⟩ => ⟨a, vs, h1, hK ▸ h2, Reps.hf hK ha ds vs n h3⟩
  | .lst ds, _, n, ⟨a, vs, h1, h2, h3⟩ => ⟨a, vs, h1, h2, Reps.hf hK ha ds vs n h3⟩
  | .obj m fs, _, n, ⟨a, dx, vs, h1, h2, h3⟩ => ⟨a, dx, vs, h1, ha ▸ h2, RepF.hf hK ha fs vs n h3⟩
  | .hand, _, n, _ => nomatch n
  | .ptup ds, _, n, ⟨a, ob, vs, h1, h2, h3, h4, h5⟩ => ⟨a, ob, vs, h1, h2, h3, h4, Reps.hf hK ha ds vs n h5⟩
  | .edic, _, _, h => h
  | .slst ds, _, n, ⟨a, vs, h1, h2, h3⟩ => ⟨a, vs, h1, hK ▸ h2, Reps.hf hK ha ds vs n h3⟩
  | .exv m fs, _, n, ⟨a, dd, vs, h1, h2, h3, h4⟩ => ⟨a, dd, vs, h1, ha ▸ h2, h3, RepF.hf hK ha fs vs n h4⟩
theorem Reps.hf (hK : c.K = c'.K) (ha : c.ca = c'.ca) : ∀ (ds : List D) (vs : List V), hfs ds = true → Reps c F ds vs → Reps c' F ds vs
  | [], _, _, h => h
  | x :: ds, _, n, ⟨v, r, h1, h2, h3⟩ => ⟨v, r, h1, Rep.hf hK ha x v (Bool.and_eq_true_iff.mp n).1 h2, Reps.hf hK ha ds r (Bool.and_eq_true_iff.mp n).2 h3⟩
theorem RepF.hf (hK : c.K = c'.K) (ha : c.ca = c'.ca) : ∀ (ds : List (Str × D)) (vs : List (Str × V)), hff ds = true → RepF c F ds vs → RepF c' F ds vs
  | [], _, _, h => h
  | (_, x) :: ds, _, n, ⟨v, r, h1, h2, h3⟩ => ⟨v, r, h1, Rep.hf hK ha x v (Bool.and_eq_true_iff.mp n).1 h2, RepF.hf hK ha ds r (Bool.and_eq_true_iff.mp n).2 h3⟩
end
end
/-- the slots of R alone -/
def keepR (R : List Nat) (ρ : Env) : Env := (List.range ρ.length).map fun i => if R.contains i = true then (ρ[i]?).getD none else none
theorem keepR_len {R : List Nat} {ρ : Env} : (keepR R ρ).length = ρ.length := by simp [keepR]
theorem keepR_at {R : List Nat} {ρ : Env} {i : Nat} {d : D} (h : (keepR R ρ)[i]? = some (some d)) : i ∈ R ∧ ρ[i]? = some (some d) := by
  unfold keepR at h
  rw [List.getElem?_map] at h
  by_cases hi : i < ρ.length
  · rw [List.getElem?_range hi] at h
    simp only [Option.map_some, Option.some.injEq] at h
    split at h
    · rename_i hR
      refine ⟨by simpa using hR, ?_⟩
      rw [List.getElem?_eq_getElem hi] at h ⊢
      rw [Option.getD_some] at h
      rw [h]
    · cases h
  · rw [List.getElem?_eq_none (by simp; omega)] at h
    cases h
def hfO : Option (Option D) → Bool
  | some (some d) => hf d
  | _ => true
/-- the same without a hand -/
def noHd (c : Ct) : Ct := ⟨⟨c.K, c.ca, none⟩, c.pin, c.fx⟩
def isLst : Option (Option D) → Bool
  | some (some (.lst _)) => true
  | some (some _) => false
  | _ => true
def ePure (O R : List Nat) (e : SE) : SE := fun ρ g => if ((O.all fun i => isLst ρ[i]?) && R.all fun i => hfO ρ[i]?) = true then (match e (keepR R ρ) [] with
  | some (.ok d, _) => if noL d = true then some (.ok d, g) else none
  | some (.exc n fs, _) => if noLf fs = true then some (.exc n fs, g) else none
  | none => none) else none
section
variable {c : Ct} {F0 H0 F H F' H' F1 : Hp} {σ : St} {ρ : Env} {O : List Nat} {W : WX} {g g' : G} {te : TE} {e : SE}
theorem snd_pure {R : List Nat} (h : SndE (noHd c) [] W te e) : SndE c O W te (ePure O R e) := fun F0 H0 F H σ ρ g r g' S q Q p => by
  unfold ePure at q
  split at q
  · rename_i hl
    obtain ⟨hl, hR⟩ := Bool.and_eq_true_iff.mp hl
    obtain ⟨F1, e1, S1, n1⟩ := SR.freezeL O.length O F (Nat.le_refl _) S (fun i hi d hd => by
      have := List.all_eq_true.mp hl i hi
      rw [hd] at this
      cases d <;> first | exact ⟨_, rfl⟩ | cases this)
    have S2 : SR (noHd c) F1 H F1 H σ (keepR R ρ) [] [] := ⟨S1.ex, Gr.refl .., by rw [keepR_len]; exact S1.len, fun i d h _ => by
      obtain ⟨m, h⟩ := keepR_at h
      have := List.all_eq_true.mp hR i m
      rw [h] at this
      obtain ⟨v, k1, k2⟩ := S1.val i d h (by simp)
      exact ⟨v, k1, Rep.hf (c := c.toCb) (c' := (noHd c).toCb) rfl rfl d v this k2⟩, fun i d _ m => (by cases m), fun i j _ _ m => (by cases m), trivial, S1.bs, S1.pn⟩
    -- the way back
    have back : ∀ (F' H' : Hp), Gr (noHd c) F1 H F' H' → Ex F' H' → ∃ F2, Gr c F H F2 H' ∧ SR c F0 H0 F2 H' σ ρ O g ∧ ∀ a o, F' a = some o → (∀ vs, o ≠ .lst vs) → F2 a = some o := fun F' H' G ex => by
      let F2 : Hp := fun a => if F a = none ∧ F1 a ≠ none then none else F' a
      have k2 : ∀ a o, F2 a = some o → F' a = some o ∧ ¬ (F a = none ∧ F1 a ≠ none) := fun a o h => by
        show F' a = some o ∧ _
        have h : (if F a = none ∧ F1 a ≠ none then none else F' a) = some o := h
        split at h
        · cases h
        · rename_i z; exact ⟨h, z⟩
      have g2 : Gr c F H F2 H' := ⟨fun a o h => by
          show (if F a = none ∧ F1 a ≠ none then none else F' a) = some o
          rw [if_neg (fun z => by rw [h] at z; cases z.1)]
          exact G.ex _ _ (e1 _ _ h), fun a o h _ => G.keep a o h (by show (none : Option Addr) ≠ some a; exact fun z => nomatch z), fun a h k => by
          cases z : F2 a with
          | none => exact absurd z k
          | some o =>
            obtain ⟨z1, z2⟩ := k2 a o z
            cases w : F1 a with
            | none => exact G.new a w (by rw [z1]; exact Option.some_ne_none o)
            | some o1 => exact absurd ⟨h, by rw [w]; exact Option.some_ne_none o1⟩ z2, G.dom⟩
      have ex2 : Ex F2 H' := fun a o h => ex a o (k2 a o h).1
      refine ⟨F2, g2, S.next g2 ex2 ?_, fun a o h hn => ?_⟩
      · have hh := S.hand
        have hh1 := S1.hand
        unfold HandAt at hh hh1 ⊢
        cases z : c.hd with
        | none => trivial
        | some p =>
          rw [z] at hh hh1
          obtain ⟨m1, vs, m2, m3⟩ := hh
          obtain ⟨m4, _⟩ := hh1
          refine ⟨?_, vs, G.keep p _ m2 (by show (none : Option Addr) ≠ some p; exact fun z => nomatch z), Reps.mono g2.ex _ _ m3⟩
          cases w : F2 p with
          | none => rfl
          | some o =>
            have := G.new p m4 (by rw [(k2 p o w).1]; exact Option.some_ne_none o)
            rw [m2] at this
            cases this
      · show (if F a = none ∧ F1 a ≠ none then none else F' a) = some o
        split
        · rename_i z
          obtain ⟨vs, hv⟩ := n1 a z.1 z.2
          have := G.ex _ _ hv
          rw [h] at this
          exact absurd (Option.some.inj this) (hn vs)
        · exact h
    cases z : e (keepR R ρ) [] with
    | none => rw [z] at q; cases q
    | some y =>
      obtain ⟨o, g2⟩ := y
      rw [z] at q
      refine h _ _ _ _ _ _ _ _ _ S2 z Q ?_
      cases o with
      | ok d =>
        simp only at q
        split at q
        · rename_i hd
          cases q
          intro v F' H' G S' rv
          obtain ⟨F2, k1, k2, k3⟩ := back F' H' G S'.ex
          exact p v F2 H' k1 k2 (Rep.noL (c := c.toCb) (c' := (noHd c).toCb) rfl rfl k3 d v hd rv)
        · cases q
      | exc n fs =>
        simp only at q
        split at q
        · rename_i hd
          cases q
          intro cls dd F' H' G S' x
          obtain ⟨F2, k1, k2, k3⟩ := back F' H' G S'.ex
          obtain ⟨x1, x2⟩ := x
          refine p cls dd F2 H' k1 k2 ⟨x1, x2.imp id ?_⟩
          rintro ⟨d, vs, y1, y2, y3⟩
          exact ⟨d, vs, y1, y2, RepF.noL (c := c.toCb) (c' := (noHd c).toCb) rfl rfl k3 fs vs hd y3⟩
        · cases q
  · cases q
/-! a, b = x, y -/
def sPar (i j : Nat) (ar : SA) : SS := fun ρ g => match ar ρ g with
  | some (.ok [x, y], g1) => some (.nx ((ρ.set i (some x)).set j (some y)), g1)
  | some (.exc n fs, g1) => some (.exc n fs ρ, g1)
  | _ => none
theorem snd_par {OL : List Nat} {i j : Nat} {ta : TA} {ar : SA} (h : SndA c O W ta ar) (hpi : c.np i = true := by rfl) (hpj : c.np j = true := by rfl) : SndS c O ((O.filter (· != i)).filter (· != j)) OL W (tPar i j ta) (sPar i j ar) := fun F0 H0 F H σ ρ g r g' S q D p => by
  unfold sPar at q
  split at q
  · rename_i x y g1 z
    cases q
    refine h _ _ _ _ _ _ _ _ _ S z _ fun vs F1 H1 G1 S1 rs => ?_
    obtain ⟨v, r1, rfl, hv, w, r2, rfl, hw, hr⟩ := rs
    cases hr
    exact ⟨v, w, rfl, p _ F1 H1 G1.ex ((S1.set (d := fun _ => True) hv hpi).set (d := fun _ => True) hw hpj)⟩
  · rename_i m fs g1 z
    cases q
    exact h _ _ _ _ _ _ _ _ _ S z _ (postX_of S p)
  · cases q
theorem snd_xor2 {ta tb : TE} {a b : SE} (ha : SndE c O W ta a) (hb : SndE c O W tb b) : SndE c O W (tOp (rI0 fun i j => .int (Builtin.bitXor i j)) ta tb) (eOp (fI0 fun i j => Builtin.bitXor i j) a b) := snd_op ha hb rv_I0
def cShl (i j : Int) : Bool := lt64 i && (decide (0 ≤ j) && decide (j ≤ 1000))
theorem snd_shl {ta tb : TE} {a b : SE} (ha : SndE c O W ta a) (hb : SndE c O W tb b) : SndE c O W (tOp (rI CPow fun i j => .int (i * 2 ^ j.toNat)) ta tb) (eOp (fI cShl fun i j => i * 2 ^ j.toNat) a b) := snd_op ha hb (rv_I fun i j h => by
  obtain ⟨h1, h⟩ := Bool.and_eq_true_iff.mp h
  obtain ⟨h2, h3⟩ := Bool.and_eq_true_iff.mp h
  have h2 := of_decide_eq_true h2
  have h3 := of_decide_eq_true h3
  exact ⟨h2, by omega, lt64_ok h1⟩)
/-! y = x.pop(i) -/
theorem Reps.cutAt {c : Cb} {F : Hp} : ∀ {ds : List D} {vs : List V} (m : Nat), Reps c F ds vs → Reps c F (ds.eraseIdx m) (vs.eraseIdx m)
  | [], _, _, h => by cases h; exact rfl
  | _ :: _, _, 0, ⟨v, r, h1, h2, h3⟩ => by subst h1; exact h3
  | _ :: _, _, m + 1, ⟨v, r, h1, h2, h3⟩ => by subst h1; exact ⟨v, _, rfl, h2, Reps.cutAt m h3⟩
def sPopAt (i j : Nat) (e : SE) : SS := fun ρ g => match ρ[i]? with
  | some (some (.lst ds)) => bV (e ρ g) ρ fun d g => (match d with
    | .int k => (match ixN ds.length k with
      | some m => (match ds[m]? with
        | some y => if szB ds.length = true then some (.nx ((ρ.set i (some (.lst (ds.eraseIdx m)))).set j (some y)), g) else none
        | none => none)
      | none => none)
    | _ => none)
  | _ => none
theorem snd_popAt {OL : List Nat} {i j : Nat} (hi : i ∈ O) (h : SndE c O W te e) (hp : c.np j = true := by rfl) : SndS c O (O.filter (· != j)) OL W (tAsg (tBM c.K "list" rPopAt (tVar i) (tCons te tNil)) (gName j)) (sPopAt i j e) := fun F0 H0 F H σ ρ g r g' S q D p => by
  unfold sPopAt at q
  split at q
  · rename_i ds hρ
    obtain ⟨v, h1, hw⟩ := S.own i _ hρ hi
    obtain ⟨a, vs, h3, h4, h5, h6, h7, h8⟩ := hw.lst
    subst h3
    refine ⟨.ref a, h1, .inl ⟨rfl, vs, SqL.of h7⟩, ?_⟩
    rcases bV_some q with ⟨d, g1, q1, q2⟩ | ⟨n, f, q1, rfl⟩
    · split at q2
      · rename_i k
        split at q2
        · rename_i m hm
          split at q2
          · rename_i y hy
            split at q2
            · rename_i hz
              cases q2
              refine h _ _ _ _ _ _ _ _ _ S q1 _ fun v1 F1 H1 G1 S1 rv => ?_
              cases rv
              have hl : H1 a = some (.lst vs) := G1.keep _ _ h7 h6
              have r1 := h8.mono G1.ex
              obtain ⟨s1, s2, s3, s4⟩ := ixN_seq hm
              obtain ⟨u, hu, ru⟩ := r1.get hy
              have := szB_lt hz
              exact ⟨a, vs, k, m, u, rfl, rfl, hl, by omega, by omega, by rw [r1.len]; exact s1, hu, p _ F1 _ G1.ex (((S1.setMut hi hρ h1 (r1.cutAt m))).set (d := fun _ => True) ru hp)⟩
            · cases q2
          · cases q2
        · cases q2
      · cases q2
    · exact h _ _ _ _ _ _ _ _ _ S q1 _ (postX_of S p)
  · cases q
/-! x.pop() -/
theorem Reps.cutLast {c : Cb} {F : Hp} : ∀ {ds : List D} {vs : List V}, Reps c F ds vs → Reps c F ds.dropLast vs.dropLast
  | [], _, h => by cases h; exact rfl
  | [_], _, ⟨v, r, h1, h2, h3⟩ => by cases h3; subst h1; exact rfl
  | _ :: _ :: _, _, ⟨v, r, h1, h2, h3⟩ => by
    obtain ⟨v', r', k1, k2, k3⟩ := h3
    subst h1 k1
    exact ⟨v, _, rfl, h2, Reps.cutLast (ds := _ :: _) ⟨v', r', rfl, k2, k3⟩⟩
def sPopD (i : Nat) : SS := fun ρ g => match ρ[i]? with
  | some (some (.lst ds)) => if ds.isEmpty = true then none else some (.nx (ρ.set i (some (.lst ds.dropLast))), g)
  | _ => none
theorem snd_popD {OL : List Nat} {i : Nat} (hi : i ∈ O) : SndS c O O OL W (tDrop (tBM c.K "list" rPop (tVar i) tNil)) (sPopD i) := fun F0 H0 F H σ ρ g r g' S q D p => by
  unfold sPopD at q
  split at q
  · rename_i ds hρ
    split at q
    · cases q
    · rename_i he
      cases q
      obtain ⟨v, h1, hw⟩ := S.own i _ hρ hi
      obtain ⟨a, vs, h3, h4, h5, h6, h7, h8⟩ := hw.lst
      subst h3
      have hl := h8.len
      have hne : vs.length ≠ 0 := fun z => he (by rw [hl] at z; exact List.isEmpty_iff.mpr (List.eq_nil_of_length_eq_zero z))
      have lt : vs.length - 1 < vs.length := by omega
      exact ⟨.ref a, h1, .inl ⟨rfl, vs, SqL.of h7⟩, a, vs, vs[vs.length - 1], rfl, rfl, h7, List.getElem?_eq_getElem lt, p σ F _ (.refl F) (S.setMut hi hρ h1 h8.cutLast)⟩
  · cases q
/-! range(a, b, -1) -/
def rngD (lo : Int) (n : Nat) : List D := (List.range n).map fun i => .int (lo + (i : Nat) * (-1))
theorem rngD_get {lo : Int} {n i : Nat} {d : D} (h : (rngD lo n)[i]? = some d) : d = .int (lo + (i : Nat) * (-1)) := by
  unfold rngD at h
  rw [List.getElem?_map] at h
  by_cases hi : i < n
  · rw [List.getElem?_range hi] at h
    exact (Option.some.inj h).symm
  · rw [List.getElem?_eq_none (by simp; omega)] at h
    cases h
theorem itok_rangeD {c : Cb} {F1 : Hp} {lo : Int} {n : Nat} : ItOk c F1 (Itc lo (-1) n) (rngD lo n) where
  goes := fun i F' H' hi _ _ => by show i < n; simpa [rngD] using hi
  stops := fun F' H' _ _ => by show n ≤ (rngD lo n).length; simp [rngD]
  yields := fun i d F' H' x H'' hd e1 e2 y => by
    obtain ⟨rfl, rfl⟩ := y
    rw [rngD_get hd]
    exact ⟨F', .refl e2, rfl⟩
def fRngD : List D → Option (List D)
  | [.int a, .int b, .int (-1)] => if (small62 a && small62 b) = true then some (rngD a (a - b).toNat) else none
  | _ => none
theorem snd_rngD {ar : SA} {tr : TA} (h : SndA c O W tr ar) : SndI c O W (iRng3 tr) (aVia fRngD ar) := snd_via rfl h fun F H ds xs vs ex q rs R p => by
  unfold fRngD at q
  split at q
  · rename_i a b
    split at q
    · rename_i hn
      cases q
      obtain ⟨v, r, h1, h2, v2, r2, h3, h4, v3, r3, h5, h6, h7⟩ := rs
      cases h2
      cases h4
      cases h6
      cases h7
      obtain ⟨n1, n2⟩ := Bool.and_eq_true_iff.mp hn
      obtain ⟨k1, k2⟩ := small62_ok n1
      obtain ⟨k3, k4⟩ := small62_ok n2
      exact ⟨a, b, -1, (a - b).toNat, by rw [h1, h3, h5], RgC.neg k1 k2 k3 k4, p _ itok_rangeD⟩
    · cases q
  · cases q
end
end MP

set_option maxRecDepth 100000
set_option maxHeartbeats 2000000
namespace MP
open PySem PySem.Spec PyProof.Rows L2
/-! ### zip of two sequences, each a list (true) or a tuple (false) -/
def SqK (k : Bool) (K : PySem.W.Frag) (H : Hp) (a : Addr) (xs : List V) : Prop := match k with
  | true => SqL K H a xs
  | false => SqT K H a xs
def ItrK (k : Bool) (h : Heap) (it l : Addr) (i : Nat) : Prop := match k with
  | true => h.IsListIter it l i
  | false => h.IsTupleIter it l i
def SeqK (k : Bool) (h : Heap) (l : Addr) (items : Array Value) : Prop := match k with
  | true => h.IsList l items
  | false => h.IsTuple l items
theorem drawsK (k : Bool) {prog : Program} {w : World} {A : Around} (hh : A.handled = none) (it l : Addr) (hne : l ≠ it) (items : Array Value) : Draws prog w A it [it, l] items.size (fun i v => items[i]? = some v) (fun i h => ItrK k h it l i ∧ SeqK k h l items) := by
  cases k
  · exact Draws.tuple hh it l hne items
  · exact Draws.list hh it l hne items
theorem ItrK.at {k : Bool} {h h' : Heap} {it l : Addr} {i : Nat} (x : ItrK k h it l i) (hk : ∀ o, h.get? it = some o → h'.get? it = some o) : ItrK k h' it l i := by
  cases k
  · exact Heap.IsTupleIter.at x hk
  · exact Heap.IsListIter.at x hk
theorem ItrK.obj {k : Bool} {h : Heap} {it l : Addr} {i : Nat} (x : ItrK k h it l i) : ∃ o, h.get? it = some o ∧ ∀ v, o.data ≠ .cell v := by
  cases k
  · obtain ⟨o, e, c, d⟩ := x
    exact ⟨o, e, fun v q => by rw [d] at q; cases q⟩
  · obtain ⟨o, e, c, d⟩ := x
    exact ⟨o, e, fun v q => by rw [d] at q; cases q⟩
theorem SqK.inv {k : Bool} {X : Cx} {pins : List (Addr × Obj)} {σ : L2.St} {H : Hp} {s : Shared} {a : Addr} {xs : List V} (I : Inv X pins σ H s) (h : SqK k X.K H a xs) : ∃ its : List Value, Vals xs its ∧ SeqK k s.heap a its.toArray := by
  cases k
  · obtain ⟨its, r, p, _⟩ := I.tuple h
    exact ⟨its, r, p⟩
  · obtain ⟨its, r, p, _⟩ := I.list h
    exact ⟨its, r, p.isList⟩
theorem SqK.inj {k : Bool} {X : Cx} {pins : List (Addr × Obj)} {σ : L2.St} {H : Hp} {s : Shared} {a : Addr} {xs ys : List V} (I : Inv X pins σ H s) (h : SqK k X.K H a xs) (h' : SqK k X.K H a ys) : xs = ys := by
  cases k
  · exact I.tuple_inj h h'
  · exact I.list_inj h h'
theorem SeqK.lt {k : Bool} {h : Heap} {a : Addr} {its : Array Value} (x : SeqK k h a its) : a < h.objs.size := by
  cases k
  · obtain ⟨o, e, _⟩ := x; exact Heap.lt_size e
  · obtain ⟨o, e, _⟩ := x; exact Heap.lt_size e
def ItzK (k1 k2 : Bool) (K : PySem.W.Frag) (a b : Addr) : It :=
  ⟨fun i H => ∃ (xs ys : List V) (x y : V), SqK k1 K H a xs ∧ SqK k2 K H b ys ∧ xs[i]? = some x ∧ ys[i]? = some y,
    fun i H v H' => ∃ T x y, v = .ref T ∧ H T = none ∧ H' = upd H T (.tup [x, y]) ∧ (∀ xs, SqK k1 K H a xs → xs[i]? = some x) ∧ ∀ ys, SqK k2 K H b ys → ys[i]? = some y,
    fun i H => ∃ xs ys : List V, SqK k1 K H a xs ∧ SqK k2 K H b ys ∧ i ≤ xs.length ∧ i ≤ ys.length ∧ (i = xs.length ∨ i = ys.length)⟩
theorem in5 {P : Addr → Prop} {z TI TO i1 i2 : Addr} (h1 : P z) (h2 : P TI) (h3 : P TO) (h4 : P i1) (h5 : P i2) : ∀ c ∈ [z, TI, TO, i1, i2], P c := fun c hc => by
  simp only [List.mem_cons, List.not_mem_nil, or_false] at hc
  rcases hc with rfl | rfl | rfl | rfl | rfl <;> assumption
theorem turn_zipK {P : Program} {w : World} {K : PySem.W.Frag} {elts : List Expr} {kk : Nat} {tpos : Pos} {k1 k2 : Bool} {a b z TI TO i1 i2 : Addr} (S : ZipSep2 z TI TO i1 i2 [i1, a] [i2, b]) (hai : a ≠ i1) (hbi : b ≠ i2) :
    Turn P w K (.Tuple elts kk tpos) (ItzK k1 k2 K a b) [z, TI, TO, i1, i2] z (fun i h => IsZip h z TI TO .none ∧ IsTupOf2 h TI (.ref i1) (.ref i2) ∧ (∃ x y, IsTupOf2 h TO x y) ∧ ItrK k1 h i1 a i ∧ ItrK k2 h i2 b i) where
  mem := by simp
  obj := fun i h st => by
    obtain ⟨e1, e2, ⟨x, y, e3⟩, t1, t2⟩ := st
    exact in5 ⟨_, e1, fun v q => nomatch q⟩ ⟨_, e2, fun v q => nomatch q⟩ ⟨_, e3, fun v q => nomatch q⟩ t1.obj t2.obj
  keep := fun i h h' st k => by
    obtain ⟨e1, e2, ⟨x, y, e3⟩, t1, t2⟩ := st
    exact ⟨k z (by simp) _ e1, k TI (by simp) _ e2, ⟨x, y, k TO (by simp) _ e3⟩, t1.at (k i1 (by simp)), t2.at (k i2 (by simp))⟩
  item := fun X hP hw hK hc i pins s σ H E I hf st hg => by
    subst hP hw hK
    obtain ⟨e1, e2, ⟨x0, y0, e3⟩, t1, t2⟩ := st
    obtain ⟨xs, ys, x, y, qx, qy, hx, hy⟩ := hg
    obtain ⟨ix, rx, px⟩ := qx.inv I
    obtain ⟨iy, ry, py⟩ := qy.inv I
    obtain ⟨u, hu, ru⟩ := rx.get hx
    obtain ⟨u', hu', ru'⟩ := ry.get hy
    have l1 : i < ix.toArray.size := by rw [List.size_toArray]; exact (List.getElem?_eq_some_iff.mp hu).1
    have l2 : i < iy.toArray.size := by rw [List.size_toArray]; exact (List.getElem?_eq_some_iff.mp hu').1
    have zl : z < s.heap.objs.size := Heap.lt_size e1
    have all : ∀ c ∈ [z, TI, TO, i1, i2], c < s.heap.objs.size := by
      obtain ⟨o1, w1, _⟩ := t1.obj
      obtain ⟨o2, w2, _⟩ := t2.obj
      exact in5 zl (Heap.lt_size e2) (Heap.lt_size e3) (Heap.lt_size w1) (Heap.lt_size w2)
    refine wpAny_pyNext_zipD2_item S (drawsK k1 (A := X.A.in1) (I.ok.hd hc) i1 a hai ix.toArray) (drawsK k2 (A := X.A.in1) (I.ok.hd hc) i2 b hbi iy.toArray) e1 e2 e3 ⟨t1, px⟩ ⟨t2, py⟩ l1 l2 fun x1 x2 h' tk p1 p2 z' TO' d1 d2 hT hsz hk => ?_
    have ex1 : x1 = u := by
      have w1 : ix[i]? = some x1 := by simpa using p1
      rw [hu] at w1
      exact (Option.some.inj w1).symm
    have ex2 : x2 = u' := by
      have w2 : iy[i]? = some x2 := by simpa using p2
      rw [hu'] at w2
      exact (Option.some.inj w2).symm
    subst ex1 ex2
    refine ⟨_, rfl, wpAny_letOwnedTupleGo_zip (s := { s with heap := h', toks := tk }) z' fun h'' z'' sb => ?_⟩
    have hN : h''.get? s.heap.objs.size = some { cls := .type "tuple", data := .seq #[x1, x2] } := (sb.2 _ (Nat.ne_of_gt zl)).trans hT
    have nw : ObjOk X.prog X.w (upd H s.heap.objs.size (.tup [x, y])) h'' s.heap.objs.size (.tup [x, y]) := ⟨by show 2 ≤ sizeLine; decide, [x1, x2], .cons ru (.cons ru' .nil), ⟨_, hN, rfl, _, rfl⟩⟩
    have J : Inv X pins σ (upd H s.heap.objs.size (.tup [x, y])) { s with heap := h'', toks := tk } :=
      I.turnedNew (ch := [z, TI, TO, i1, i2]) (fun c o nc q => (sb.2 c fun e => nc (by rw [e]; simp)).trans (hk c o (fun e => nc (by rw [e]; simp)) (fun e => nc (by rw [e]; simp)) (fun e => nc (by rw [e]; simp)) (fun e => nc (by rw [e]; simp)) q)) hf (Nat.le_refl _) nw
    exact ⟨.ref s.heap.objs.size, _, J, rfl, ⟨_, x, y, rfl, I.hok.fresh (Nat.le_refl _), rfl, fun l hl => by rw [hl.inj I qx]; exact hx, fun l hl => by rw [hl.inj I qy]; exact hy⟩,
      ⟨z'', (sb.2 _ S.TIz).trans (hk _ _ S.TIz S.TITO S.TIi1 S.TIi2 e2), ⟨x1, x2, (sb.2 _ S.TOz).trans TO'⟩, d1.1.at fun o q => (sb.2 _ (Ne.symm S.zi1)).trans q, d2.1.at fun o q => (sb.2 _ (Ne.symm S.zi2)).trans q⟩,
      fun c hcm => by rw [upd_ne (Nat.ne_of_lt (all c hcm))]; exact (hf c hcm).1⟩
  done := fun X hP hw hK hc i pins s σ H E I hf st hg => by
    subst hP hw hK
    obtain ⟨e1, e2, ⟨x0, y0, e3⟩, t1, t2⟩ := st
    obtain ⟨xs, ys, qx, qy, m1, m2, m3⟩ := hg
    obtain ⟨ix, rx, px⟩ := qx.inv I
    obtain ⟨iy, ry, py⟩ := qy.inv I
    have n1 := rx.length
    have n2 := ry.length
    refine wpAny_pyNext_zipD2_end S (drawsK k1 (A := X.A.in1) (I.ok.hd hc) i1 a hai ix.toArray) (drawsK k2 (A := X.A.in1) (I.ok.hd hc) i2 b hbi iy.toArray) e1 e2 e3 ⟨t1, px⟩ ⟨t2, py⟩ (by rw [List.size_toArray]; omega) (by rw [List.size_toArray]; omega) (by rw [List.size_toArray, List.size_toArray]; omega) fun h' tk hk => ?_
    exact ⟨rfl, I.turnedL (ch := [z, TI, TO, i1, i2]) (fun c o nc q => hk c o (fun e => nc (by rw [e]; simp)) (fun e => nc (by rw [e]; simp)) (fun e => nc (by rw [e]; simp)) (fun e => nc (by rw [e]; simp)) q) hf⟩
  self := fun A i s Q E st h => wpAny_pyIter_zip st.1 h
def iZipK (K : PySem.W.Frag) (ta : TA) : TI := fun σ H R => ta σ H fun vs H1 => ∃ k1 k2 a b xs ys, vs = [.ref a, .ref b] ∧ SqK k1 K H1 a xs ∧ SqK k2 K H1 b ys ∧ R (ItzK k1 k2 K a b) H1
/-- the iterator that a sequence begins with -/
def begO (k : Bool) (a : Addr) : Obj := match k with
  | true => { cls := .type "list_iterator", data := .fields #[.ref a, .int 0 0] }
  | false => { cls := .type "tuple_iterator", data := .fields #[.ref a, .int 0 0] }
theorem begK (k : Bool) (a : Addr) (its : Array Value) : Begins (.ref a) (begO k a) fun h => SeqK k h a its := by
  cases k
  · exact begins_tuple a its
  · exact begins_list a its
theorem begO_it {k : Bool} {h : Heap} {it a : Addr} (e : h.get? it = some (begO k a)) : ItrK k h it a 0 := by
  cases k
  · exact ⟨_, e, rfl, rfl⟩
  · exact ⟨_, e, rfl, rfl⟩
theorem pi_zipK {X : Cx} {e e2 : Expr} {ta : TA} {p pos tpos : Pos} {elts : List Expr} {kk : Nat} (hg : Gl X "zip") (hm : X.mg "zip" = none) (ha : PA X [e, e2] ta)
    (hst : starEach [e, e2] X.env = (false, eval e X.env) :: starEach [e2] X.env := by rfl) (hbt : (backTo pos (starEach [e2] X.env)).any (·.1) = false := by rfl) :
    PI X (.Tuple elts kk tpos) (.Call (.Name "zip" p) [e, e2] [] pos) (iZipK X.K ta) := by
  refine ⟨fun pins s σ H R I h => Call_ (ld_blt I hg hm PyProof.Rows.boot_zip (PyProof.Rows.callWith_type1 (thn (ha.run pos pins s σ H _ I h) fun us s1 ⟨vs, H1, I1, r1, q1⟩ => ?_) hst hbt))⟩
  obtain ⟨k1, k2, a, b, xs, ys, rfl, qx, qy, q⟩ := q1
  obtain ⟨u1, u2, rfl, ru1, ru2⟩ := vals2 r1
  cases ru1
  cases ru2
  obtain ⟨ix, rx, px⟩ := qx.inv I1
  obtain ⟨iy, ry, py⟩ := qy.inv I1
  have la := px.lt
  have lb := py.lt
  refine zip_begins2 (begK k1 a ix.toArray) (begK k2 b iy.toArray) px py fun h' hz hTI hTO g1 g2 hsz hk => wpAny_pyIter_zip hz ?_
  have sep : ZipSep2 (s1.heap.objs.size + 4) (s1.heap.objs.size + 2) (s1.heap.objs.size + 3) s1.heap.objs.size (s1.heap.objs.size + 1) [s1.heap.objs.size, a] [s1.heap.objs.size + 1, b] := by
    have ne : ∀ {x y : Nat}, x < y → (x : Addr) ≠ y := fun h => Nat.ne_of_lt h
    have n2 : ∀ {x p q : Addr}, x ≠ p → x ≠ q → x ∉ [p, q] := fun h1 h2 m => by
      simp only [List.mem_cons, List.not_mem_nil, or_false] at m
      exact m.elim h1 h2
    have up : ∀ k : Nat, s1.heap.objs.size < s1.heap.objs.size + (k + 1) := fun k => Nat.lt_add_of_pos_right (Nat.succ_pos k)
    have st : ∀ {j k : Nat}, j < k → s1.heap.objs.size + j < s1.heap.objs.size + k := fun h => Nat.add_lt_add_left h _
    exact ⟨ne (st (by decide)), ne (st (by decide)), ne (st (by decide)), (ne (up 1)).symm, List.mem_cons_self, n2 (ne (up 3)).symm (ne (Nat.lt_trans la (up 3))).symm, n2 (ne (up 2)).symm (ne (Nat.lt_trans la (up 2))).symm, (ne (st (j := 1) (k := 2) (by decide))).symm, List.mem_cons_self,
      n2 (ne (st (j := 1) (k := 4) (by decide))).symm (ne (Nat.lt_trans lb (up 3))).symm, n2 (ne (st (j := 1) (k := 3) (by decide))).symm (ne (Nat.lt_trans lb (up 2))).symm, n2 (ne (up 0)) (ne lb).symm, n2 (ne (up 0)).symm (ne (Nat.lt_trans la (up 0))).symm⟩
  exact ⟨s1.heap.objs.size + 4, [s1.heap.objs.size + 4, s1.heap.objs.size + 2, s1.heap.objs.size + 3, s1.heap.objs.size, s1.heap.objs.size + 1], _, _, H1, rfl, I1.kept (t' := s1.toks) hk, turn_zipK sep (Nat.ne_of_lt la) (Nat.ne_of_lt (Nat.lt_succ_of_lt lb)),
    ⟨hz, hTI, ⟨_, _, hTO⟩, begO_it g1, begO_it g2⟩, in5 (I1.fpOk (Nat.le_add_right _ _) (I1.hok.fresh (Nat.le_add_right _ _))) (I1.fpOk (Nat.le_add_right _ _) (I1.hok.fresh (Nat.le_add_right _ _))) (I1.fpOk (Nat.le_add_right _ _) (I1.hok.fresh (Nat.le_add_right _ _))) (I1.fpOk (Nat.le_refl _) (I1.hok.fresh (Nat.le_refl _))) (I1.fpOk (Nat.le_add_right _ _) (I1.hok.fresh (Nat.le_add_right _ _))), q⟩
end MP
namespace MP
open PySem L2
open Evl (Ex ex_rd ex_l ex_t)
/-- a sequence's items and its kind -/
def seqD : D → Option (Bool × List D)
  | .lst ds => some (true, ds)
  | .slst ds => some (true, ds)
  | .tup ds => some (false, ds)
  | _ => none
def fZipU : List D → Option (List D)
  | [x, y] => match seqD x, seqD y with
    | some (_, ds), some (_, es) => some (pairs2 ds es)
    | _, _ => none
  | _ => none
section
variable {c : Ct} {F0 H0 F H F' H' F1 : Hp} {σ : St} {ρ : Env} {O O1 O' OL : List Nat} {W : WX} {g g' : G}
theorem SqK.ex {k : Bool} {K : PySem.W.Frag} {F F' : Hp} (e : Ex F F') {a : Addr} {xs : List V} (h : SqK k K F a xs) : SqK k K F' a xs := by
  cases k
  · exact ex_t e h
  · exact ex_l e h
theorem itok_zipK {k1 k2 : Bool} {k l : Addr} {vs ws : List V} {ds es : List D} (h : SqK k1 c.K F1 k vs) (r : Reps c F1 ds vs) (h' : SqK k2 c.K F1 l ws) (r' : Reps c F1 es ws) : ItOk c F1 (ItzK k1 k2 c.K k l) (pairs2 ds es) where
  goes := fun i Fa Ha hi e1 e2 => by
    rw [pairs2_len] at hi
    have i1 : i < vs.length := by rw [r.len]; omega
    have i2 : i < ws.length := by rw [r'.len]; omega
    exact ⟨vs, ws, vs[i], ws[i], h.ex (e1.trans e2), h'.ex (e1.trans e2), List.getElem?_eq_getElem i1, List.getElem?_eq_getElem i2⟩
  stops := fun Fa Ha e1 e2 => ⟨vs, ws, h.ex (e1.trans e2), h'.ex (e1.trans e2), by rw [pairs2_len, r.len]; omega, by rw [pairs2_len, r'.len]; omega, by rw [pairs2_len, r.len, r'.len]; omega⟩
  yields := fun i d Fa Ha x H'' hd e1 e2 y => by
    obtain ⟨T, u, v, rfl, hT, rfl, m1, m2⟩ := y
    obtain ⟨p, q, rfl, hp, hq⟩ := pairs2_get hd
    obtain ⟨u', n1, n2⟩ := r.get hp
    obtain ⟨v', n3, n4⟩ := r'.get hq
    have a1 := m1 vs (h.ex (e1.trans e2))
    have a2 := m2 ws (h'.ex (e1.trans e2))
    rw [n1] at a1
    rw [n3] at a2
    cases a1
    cases a2
    exact new_pair e2 hT ⟨_, _, rfl, n2.mono e1, .one (n4.mono e1)⟩
theorem seqD_rep {x : D} {k : Bool} {ds : List D} {v : V} (ex : Ex F H) (q : seqD x = some (k, ds)) (h : Rep c F x v) : ∃ a vs, v = .ref a ∧ SqK k c.K H a vs ∧ SqK k c.K F a vs ∧ Reps c F ds vs := by
  cases x with
  | lst es =>
    cases q
    obtain ⟨a, vs, h1, h2, h3⟩ := h
    exact ⟨a, vs, h1, SqL.of (ex _ _ h2), SqL.of h2, h3⟩
  | slst es =>
    cases q
    obtain ⟨a, vs, h1, h2, h3⟩ := h
    exact ⟨a, vs, h1, ex_l ex h2, h2, h3⟩
  | tup es =>
    cases q
    obtain ⟨a, vs, h1, h2, h3⟩ := h
    exact ⟨a, vs, h1, ex_t ex h2, h2, h3⟩
  | _ => cases q
theorem snd_zipU {ar : SA} {tr : TA} (h : SndA c O W tr ar) : SndI c O W (iZipK c.K tr) (aVia fZipU ar) := snd_via rfl h fun F H ds xs vs ex q rs R p => by
  unfold fZipU at q
  split at q
  · rename_i x y
    split at q
    · rename_i k1 ds k2 es z1 z2
      cases q
      obtain ⟨v, r, h1, h2, w, r', h3, h4, h5⟩ := rs
      cases h5
      subst h3 h1
      obtain ⟨a, us, rfl, s1, s2, s3⟩ := seqD_rep ex z1 h2
      obtain ⟨b, ws, rfl, t1, t2, t3⟩ := seqD_rep ex z2 h4
      exact ⟨k1, k2, a, b, us, ws, rfl, s1, t1, p _ (itok_zipK s2 s3 t2 t3)⟩
    · cases q
  · cases q
/-! min of a list of numbers -/
def leastI : Int → List Int → Int
  | m, [] => m
  | m, n :: ns => leastI (if n < m then n else m) ns
theorem leastI_ok : ∀ (ns : List Int) (m : Int), leastI m ns ∈ m :: ns ∧ ∀ y ∈ m :: ns, leastI m ns ≤ y
  | [], m => ⟨List.mem_cons_self, fun y h => by simp at h; rw [h]; exact Int.le_refl _⟩
  | n :: ns, m => by
    obtain ⟨h1, h2⟩ := leastI_ok ns (if n < m then n else m)
    unfold leastI
    refine ⟨?_, fun y hy => ?_⟩
    · rcases List.mem_cons.mp h1 with h | h
      · rw [h]
        split
        · exact List.mem_cons_of_mem _ List.mem_cons_self
        · exact List.mem_cons_self
      · exact List.mem_cons_of_mem _ (List.mem_cons_of_mem _ h)
    · have k := h2 _ List.mem_cons_self
      have e1 : (if n < m then n else m) ≤ n := by split <;> omega
      have e2 : (if n < m then n else m) ≤ m := by split <;> omega
      rcases List.mem_cons.mp hy with hy | hy
      · rw [hy]; exact Int.le_trans k e2
      · rcases List.mem_cons.mp hy with hy | hy
        · rw [hy]; exact Int.le_trans k e1
        · exact h2 y (List.mem_cons_of_mem _ hy)
def fMinL : D → Option D
  | .lst ds => match onlyI ds with
    | some (n :: ns) => some (.int (leastI n ns))
    | _ => none
  | _ => none
theorem rb_minL : RB c (rMin c.K) fMinL := fun F H d z v ex q rx Q p => by
  cases d with
  | lst ds =>
    simp only [fMinL] at q
    cases w : onlyI ds with
    | none => rw [w] at q; cases q
    | some l =>
      cases l with
      | nil => rw [w] at q; cases q
      | cons n ns =>
        rw [w] at q
        cases q
        obtain ⟨a, vs, h1, h2, h3⟩ := rx.lst ex
        refine ⟨a, n :: ns, by rw [h1], by rw [← onlyI_ok w h3]; exact SqL.of h2, by simp, fun m hm hl => ?_⟩
        obtain ⟨k1, k2⟩ := leastI_ok ns n
        have e : m = leastI n ns := Int.le_antisymm (hl _ k1) (k2 m hm)
        rw [e]
        exact p _ F H (.refl ex) rfl
  | _ => cases q
/-! divmod of numbers of any size -/
def rDivmodP : List V → Hp → VK → Prop := fun xs H Q => ∃ i j, xs = [.int i, .int j] ∧ CDivP i j ∧ ∀ p, H p = none → Q (.ref p) (upd H p (.tup [.int (i / j), .int (i % j)]))
theorem call_divmodP {X : Cx} : CallR X (.builtin "divmod") rDivmodP := call_divmodW
def fDivmodP : List D → Option D
  | [.int i, .int j] => if cDiv i j = true then some (.tup [.int (i / j), .int (i % j)]) else none
  | _ => none
theorem snd_divmodP {ta : TA} {ar : SA} (h : SndA c O W ta ar) : SndE c O W (tCB rDivmodP ta) (eArgs (pf fDivmodP) ar) := snd_cb h fun F H ds z vs ex q rs Q p => by
  unfold fDivmodP at q
  split at q
  · rename_i i j
    split at q
    · rename_i hk
      cases q
      obtain ⟨v, r, h1, h2, v2, r2, h3, h4, h5⟩ := rs
      cases h2
      cases h4
      cases h5
      subst h3
      obtain ⟨k1, k2⟩ := Bool.and_eq_true_iff.mp hk
      refine ⟨i, j, h1, ⟨of_decide_eq_true k1, PyProof.noPylong_of_log2 (of_decide_eq_true k2)⟩, fun l hl => ?_⟩
      have P := gp_new (o := .tup [.int (i / j), .int (i % j)]) ex hl
      exact p _ _ _ P ⟨l, _, rfl, SqT.of upd_same, ⟨_, _, rfl, rfl, .one rfl⟩⟩
    · cases q
  · cases q
end
end MP

set_option maxRecDepth 100000
set_option maxHeartbeats 4000000
/-! ### isinstance(e, T) in a suite, e an own error that may have fields -/
namespace MP
open PySem PySem.Spec PySem.Calls PyProof.Rows L2
section
variable {pr : Program} {wd : World} {ar : Around} {ex : Value → Shared → Prop} {K : PySem.W.Frag} {a D : Addr} {oe : Obj} {dct : Option Obj}
theorem xi_found (c : ExcC K D) : PySem.W.findObj K D dct "__class__" = some (.bind (.builtin "getset_descriptor.__get__") (.builtin "object.__class__")) := by
  obtain ⟨cd, hcd, _⟩ := PySem.W.any_some c.hd
  unfold PySem.W.findObj
  rw [hcd, Option.bind_some, c.ha, Option.bind_some]
  simp [c.hn, c.ht]
theorem xi_class (c : ExcC K D) {Q : Option Value → Shared → Prop} : ∀ {st : Shared}, K.In st.heap → PySem.W.InstAt st.heap a oe D dct → Q (some (.ref D)) { st with toks := st.toks + 1 } → wpAny (model pr wd) ar (getAttr? (.ref a) "__class__") Q ex st
  | ⟨hp, g, d, t, os⟩, kin, ins, fin => by
    have ty := ins.type (M := model pr wd)
    have l1 := PySem.W.looks_findIn (M := model pr wd) kin c.hg
    have l2 := PySem.W.looks_findIn (M := model pr wd) kin c.hk
    have l3 := PySem.W.looks_find (M := model pr wd) kin ins (xi_found c)
    have ne : (Value.builtin "BaseException.__getattribute__" == Value.builtin "object.__getattribute__") = false := by decide +kernel
    have ne' : (onTheHeap (Value.ref D) && Value.builtin "BaseException.__getattribute__" == Value.builtin "object.__getattribute__") = false := by
      rw [ne]
      rfl
    have off : (false && onTheHeap (Value.builtin "BaseException.__getattribute__")) = false := rfl
    unfold getAttr? getAttrBy? getAttrBy
    apply wpAny_bind
    apply wpAny_mkText
    apply wpAny_bind
    apply wpAny_attempt
    apply wpAny_holding
    apply wpAny_bind
    refine ty.at ?_
    apply wpAny_bind
    refine l1.at ?_
    show wpAny _ _ (if (onTheHeap (Value.ref D) && Value.builtin "BaseException.__getattribute__" == Value.builtin "object.__getattribute__") = true then _ else _)
      _ _ _
    rw [ne', if_neg Bool.false_ne_true]
    unfold getAttrByItsOwn hookBefore
    apply wpAny_bind
    rw [if_pos (show onTheHeap (Value.ref D) = true from rfl)]
    refine l2.at ?_
    apply wpAny_bind
    apply wpAny_attempt
    apply wpAny_holding
    unfold callGetattribute
    rw [off, if_neg Bool.false_ne_true]
    unfold boundAndCalled
    rw [PySem.F.excAttr_ValueError.ga.bind (.ref a)]
    apply wpAny_bind
    apply wpAny_pure
    show wpAny _ _ (call (.builtin "BaseException.__getattribute__") [.ref a, .str "__class__" t])
      _ _ _
    apply wpAny_call
    apply codeAny_call_builtin PySem.F.excAttr_ValueError.ga.plain PySem.F.entry_bexc_ga
    have sb : PySem.W.Looks (model pr wd) hp (isInstance (.ref a) (.type "BaseException")) true := ty.andThen (PySem.W.looks_subIn kin c.hs)
    refine @PySem.W.check_slot (model pr wd) _ _ ⟨hp, g, d, t + 1, os⟩ "BaseException.__getattribute__" "BaseException" "__getattribute__" (.ref a) [.str "__class__" t]
      [] _ (by decide +kernel) (by decide +kernel) sb (PySem.F.args_bexc_ga (.ref a) (.str "__class__" t)) ?_
    unfold Builtin.«object.__getattribute__»
    apply wpAny_bind
    refine wpAny_of_eq (a := ((Value.ref a : Value), [Value.str "__class__" t]))
      (by first | rfl | (simp only [slotArgs]; rfl)) ?_
    apply wpAny_bind
    apply wpAny_pure
    apply wpAny_bind
    refine ty.at ?_
    apply wpAny_bind
    refine l3.at ?_
    show wpAny _ _ (holding [Value.builtin "object.__class__"] (call (.builtin "getset_descriptor.__get__") [.builtin "object.__class__", .ref a, .ref D]) >>= ret)
      _ _ _
    apply wpAny_bind
    apply wpAny_holding
    apply wpAny_call
    refine PySem.W.class_get (s := ⟨hp, g, d, t + 1, os⟩) (ox := oe) (od := dct) kin ins c.hm ?_
    apply wpAny_pure
    show wpAny _ _ (handedOut (.ref D))
      _ _ _
    rw [PySem.W.handedOut_of (v := .ref D) rfl]
    apply wpAny_pure
    first
      | exact wpAny_pure fin
      | exact fin
      | exact wpAny_bind (wpAny_pure (wpAny_pure fin))
theorem xi_kit (c : ExcC K D) : PySem.W.KitX K (.ref a) (.ref D) (fun h => PySem.W.InstAt h a oe D dct) where
  ty := fun _ _ _ i => i.type
  it := fun _ _ kin _ => by
    obtain ⟨_, hcD, _⟩ := PySem.W.any_some c.hd
    unfold PySem.W.clsIn at hcD
    split at hcD
    · rename_i ho
      intro _ _ _ _ k q
      unfold isType loadHead
      exact wpAny_bind (wpAny_loadPart (k _ _ (kin _ _ ho)) (wpAny_pure q))
    · cases hcD
  ne := fun h tp dd its n sl kin htp => by
    obtain ⟨_, hcD, _⟩ := PySem.W.any_some c.hd
    refine Bool.eq_false_iff.mpr fun q => ?_
    cases Value.ref.inj (beq_iff_eq.mp q)
    unfold PySem.W.clsIn at hcD
    split at hcD
    · rename_i ho
      cases (kin _ _ ho).symm.trans htp
    · cases hcD
  ca := fun kin i k => xi_class c kin i k
end
/-- isinstance(e, c), e the error that the suite holds, of a class that is known to the reading alone -/
def rXi (K : PySem.W.Frag) (a : Addr) (cls : Value) (dd : Option Addr) : List V → Hp → VK → Prop := fun xs H Q => ∃ (c : V) (cv : Value) (b : Bool) (D : Addr), xs = [.ref a, c] ∧ ClsV c cv ∧ cls = .ref D ∧ ExcC K D ∧
  (dd = none ∨ ∃ d fs, dd = some d ∧ H d = some (.xd fs)) ∧ PySem.W.kitOne K (.ref D) cv = some b ∧ Q (.bl b) H
theorem call_xi {X : Cx} {a : Addr} {oe : Obj} {cls : Value} {dd : Option Addr} {pn : List (Addr × Obj)} (hz : Zc cls dd oe) (hf : ∃ vs, oe.data = .fields vs) : CallR (X.suite a ((a, oe) :: pn)) (.builtin "isinstance") (rXi X.K a cls dd) := by
  intro pins s σ H xs us Q I r h
  obtain ⟨c, cv, b, D, rfl, hcv, ec, xc, ex, e, q⟩ := h
  subst ec
  obtain ⟨u1, u2, rfl, r1, r2⟩ := vals2 r
  have e2 := hcv.eq r2
  subst e2
  obtain rfl : u1 = Value.ref a := r1
  obtain ⟨ha, _⟩ := I.pin (a, oe) (List.mem_append_left _ List.mem_cons_self)
  obtain ⟨vs, hv⟩ := hf
  have nc : PySem.W.notCls oe = true := by unfold PySem.W.notCls; rw [hv] <;> rfl
  rcases ex with ed | ⟨d, fs, ed, hd⟩
  · subst ed
    have J : PySem.W.InstAt s.heap a oe D none := ⟨ha, hz.1, nc, by rw [hz.2]; trivial⟩
    exact PySem.W.kia_one (xi_kit xc) I.kIn J e (fun z => nomatch z) fun tk => ⟨.bl b, H, I.tok tk, rfl, q⟩
  · subst ed
    have hx : ObjOk X.prog X.w H s.heap d (.xd fs) := I.hok d _ hd
    obtain ⟨mA, hns, hr⟩ := hx
    obtain ⟨od, ho, hl⟩ := lookIn_ns hns
    have J : PySem.W.InstAt s.heap a oe D (some od) := ⟨ha, hz.1, nc, by rw [hz.2]; exact ho⟩
    exact PySem.W.kia_one (xi_kit xc) I.kIn J e (fun z => nomatch z) fun tk => ⟨.bl b, H, I.tok tk, rfl, q⟩
/-- isinstance(e, T) of the caught error -/
def eXi (xfl : List Str) (l : Isi) (T : Tg) (i : Nat) (n : Str) (fs : List (Str × D)) : SE := fun ρ g => if (decide (i < ρ.length) && xfl.contains n) = true then (match l.lookup (.own n, T) with
  | some b => some (.ok (.bl b), g)
  | none => none) else none
theorem snd_xi {c : Ct} {a : Addr} {i : Nat} {O : List Nat} {W : WX} {n : Str} {fs : List (Str × D)} {F1 : Hp} {cls : Value} {dd : Option Addr} {exl : List (Str × List Str)} {own : List Str} {l : Isi} {eml : Eml} {xfl : List Str} {T : Tg}
    (hx : exAll2 exl own l eml xfl c.K = true) (hca : c.ca = He.ga c.K) (he : ExcF c F1 n fs cls dd) :
    SndE (csu c (some i) a F1) O W (tCB (rXi c.K a cls dd) (tCons (tVar i) (tCons (tC (T.v c.K)) tNil))) (eXi xfl l T i n fs) := fun F0 H0 F H σ ρ g r g' S q Q p => by
  unfold eXi at q
  split at q
  · rename_i hc
    rw [Bool.and_eq_true_iff] at hc
    obtain ⟨h1, h2⟩ := hc
    have h1 := of_decide_eq_true h1
    split at q
    · rename_i b hb
      cases q
      obtain ⟨x1, x2⟩ := he
      have k := isi_kit (exAll_isi (exAll2_a hx)) hb
      have hd : dd = none ∨ ∃ d fs, dd = some d ∧ H d = some (.xd fs) := by
        rcases x2 with x2 | ⟨dd', vs, e1, e2, e3⟩
        · exact .inl x2.2
        · have bs : Evl.Ex F1 F := S.bs
          exact .inr ⟨dd', vs, e1, S.ex _ _ (bs _ _ e2)⟩
      exact ⟨.ref a, S.pn i _ List.mem_cons_self (by rw [S.len]; exact h1), T.v c.K, T.u c.K, b, He.ga c.K n, rfl, T.cls c.K, by rw [x1, hca], exAll2_xi hx h2, hd, k, p _ F H (Gr.refl ..) S rfl⟩
    · cases q
  · cases q
end MP

set_option maxRecDepth 100000
set_option maxHeartbeats 4000000
/-! ### the place of a flat item in a list -/
namespace MP
open PySem L2
section
variable {c : Ct} {F0 H0 F H F' H' F1 : Hp} {σ : St} {ρ : Env} {O O1 O' OL : List Nat} {W : WX} {g g' : G} {te ta tb tc : TE} {e a b : SE}
def eLIx (a b : SE) : SE := fun ρ g => bE (a ρ g) fun x g => match x with
  | .lst ds => bE (b ρ g) fun y g => if (flatD y && ds.all flatD) = true then (idxGo y ds 0).map fun i => (.ok (.int (i : Nat)), g) else none
  | _ => none
theorem snd_lix (ha : SndR c O W ta a) (hb : SndE c O W tb b) : SndE c O W (tBM c.K "list" (rIndex c.K) ta (tCons tb tNil)) (eLIx a b) := fun F0 H0 F H σ ρ g ro g' S q Q p => by
  refine ha.bind S q p.x fun x g1 vx F1 H1 q1 G1 S1 rx => ?_
  cases x with
  | lst ds =>
    obtain ⟨l, vs, h1, h2, h3⟩ := rx.lst S1.ex
    refine ⟨by rw [h1]; exact .inl ⟨rfl, _, SqL.of h2⟩, hb.bind S1 q1 (p.gr G1) fun y g2 vy F2 H2 q2 G2 S2 ry => ?_⟩
    split at q2
    · rename_i hk
      obtain ⟨k1, k2⟩ := Bool.and_eq_true_iff.mp hk
      cases w : idxGo y ds 0 with
      | none => rw [w] at q2; cases q2
      | some i =>
        rw [w] at q2
        cases q2
        obtain ⟨_, u, hu, hy, hno⟩ := idxGo_some w
        rw [Nat.sub_zero] at hu hno
        obtain ⟨l2, vs2, e1, e2, rs⟩ := (rx.gr G2).lst S2.ex
        obtain ⟨v, hv, rv⟩ := rs.get hu
        refine ⟨l2, vs2, vy, i, v, e1, rfl, SqL.of e2, flat_rep ry k1, flats_rep rs k2, hv, ?_, fun m z' hm hz => ?_, p _ F2 H2 (G1.trans G2) S2 rfl⟩
        · rw [eq_rep rv (List.all_eq_true.mp k2 _ (List.mem_of_getElem? hu)) ry k1]
          exact hy
        · obtain ⟨dz, e1, e2⟩ := rs.get' hz
          rw [eq_rep e2 (List.all_eq_true.mp k2 _ (List.mem_of_getElem? e1)) ry k1]
          exact hno m dz hm e1
    · cases q2
  | _ => cases q1
end
end MP

set_option maxRecDepth 100000
set_option maxHeartbeats 4000000
/-! ### a tuple times a number below 2 -/
namespace MP
open PySem L2
open Evl (Ex ex_rd ex_l ex_t)
theorem dec_f {b : Bool} (h : b = false) : decide (b = true) = false := by rw [h]; rfl
theorem dec_t {b : Bool} (h : b = true) : decide (b = true) = true := by rw [h]; rfl
theorem tuple_mul0 (l : Addr) (items : Array Value) (n : Nat) (dd : Option Addr) (sl : Array (Option Value)) (x : Int) (u : Tok) (h1 : (decide (x < -2 ^ 63) || decide (x ≥ 2 ^ 63)) = false) (h2 : (items.isEmpty || x == 1) = false) (h3 : (decide (x ≤ 0) || items.isEmpty) = true) :
    Meets (Builtin.«tuple.__mul__» { pos := [Value.ref l, Value.int x u] }) fun _ R s =>
      s.heap.get? l = some { cls := Value.type "tuple", dict := dd, data := Data.seq items n, slots := sl } ∧
        R (Except.ok (Flow.ret (Value.ref s.heap.objs.size))) { heap := s.heap.push { cls := Value.type "tuple", data := Data.seq #[] }, gens := s.gens, drawn := s.drawn, toks := s.toks, os := s.os } := by
  refine Meets.of_wp fun prog w A R s h => ?_
  obtain ⟨heap, g, d, t, os⟩ := s
  obtain ⟨hg, hR⟩ := h
  unfold PySem.Builtin.«tuple.__mul__»
  refine wpAny_ite_false (dec_f h1) ?_
  refine wpAny_bind ?_
  refine wpAny_bind ?_
  refine wpAny_bind ?_
  refine wpAny_load' hg ?_
  refine wpAny_pure ?_
  refine wpAny_pure ?_
  refine wpAny_ite_false (dec_f h2) ?_
  refine wpAny_ite_true (dec_t h3) ?_
  refine wpAny_bind ?_
  have e : Builtin.Tuple.tupleExact #[] = newObjAsIs (Value.type "tuple") (Data.seq #[]) := rfl
  rw [e]
  refine wpAny_bind ?_
  refine wpAny_alloc' ?_
  refine wpAny_pure ?_
  refine wpAny_pure ?_
  exact ⟨_, rfl, hR⟩
theorem tuple_mul1 (l : Addr) (items : Array Value) (n : Nat) (dd : Option Addr) (sl : Array (Option Value)) (x : Int) (u : Tok) (h1 : (decide (x < -2 ^ 63) || decide (x ≥ 2 ^ 63)) = false) (h2 : (items.isEmpty || x == 1) = true) :
    Meets (Builtin.«tuple.__mul__» { pos := [Value.ref l, Value.int x u] }) fun _ R s =>
      s.heap.get? l = some { cls := Value.type "tuple", dict := dd, data := Data.seq items n, slots := sl } ∧
        R (Except.ok (Flow.ret (Value.ref l))) s := by
  refine Meets.of_wp fun prog w A R s h => ?_
  obtain ⟨heap, g, d, t, os⟩ := s
  obtain ⟨hg, hR⟩ := h
  unfold PySem.Builtin.«tuple.__mul__»
  refine wpAny_ite_false (dec_f h1) ?_
  refine wpAny_bind ?_
  refine wpAny_bind ?_
  refine wpAny_bind ?_
  refine wpAny_load' hg ?_
  refine wpAny_pure ?_
  refine wpAny_pure ?_
  refine wpAny_ite_true (dec_t h2) ?_
  refine wpAny_bind ?_
  refine wpAny_bind ?_
  refine wpAny_typeOf (T := "tuple") ⟨_, hg, rfl⟩ ?_
  refine wpAny_pure ?_
  refine wpAny_ite_true (by rfl) ?_
  refine wpAny_bind ?_
  refine wpAny_rule ?_
  refine wpAny_pure ?_
  exact ⟨_, rfl, hR⟩
def rRepT1 (K : PySem.W.Frag) : R2 := fun x y H Q => ∃ l k xs, x = .ref l ∧ y = .int k ∧ SqT K H l xs ∧ k = 1 ∧ Q (.ref l) H
def rRepT0 (K : PySem.W.Frag) : R2 := fun x y H Q => ∃ l k xs, x = .ref l ∧ y = .int k ∧ SqT K H l xs ∧ xs ≠ [] ∧ k ≤ 0 ∧ -1000 ≤ k ∧ ∀ p, H p = none → Q (.ref p) (upd H p (.tup []))
theorem op_repT1 {X : Cx} : OpR X (binaryOp .Mult) (rRepT1 X.K) := fun pins s σ H x y v u Q I rx ry h => by
  obtain ⟨l, k, xs, rfl, rfl, hT, rfl, q⟩ := h
  cases rx
  obtain ⟨t, rfl⟩ := ry
  obtain ⟨its, rv, ⟨o, ho, hc, n, hd⟩, _⟩ := I.tuple hT
  obtain ⟨cls, dd, data, sl⟩ := o
  cases hc
  cases hd
  refine wpAny_binaryOp_repeat_ref (T := "tuple") (U := "int") (by decide +kernel) ⟨_, ho, rfl⟩ (fun s' => typeIs_int s' 1 t) noFill_tuple_mul PySem.F.fills_int_mul PySem.F.slot_int_rmul repeat_tuple PySem.F.slot_int_index.lookup ?_
  refine call_meets PySem.F.slot_int_rmul (typeIs_int _ _ _) PySem.F.entry_int_rmul (PySem.F.args_int_rmul_2 _ _) (int_rmul_tuple 1 t l its.toArray n dd sl) ⟨ho, rfl, ⟨_, ho, rfl⟩, ?_⟩
  exact call_meets PySem.F.slot_tuple_mul ⟨_, ho, rfl⟩ PySem.F.entry_tuple_mul (PySem.F.args_tuple_mul_2 _ _) (tuple_mul1 l its.toArray n dd sl 1 t (by decide) (by rw [Bool.or_eq_true]; exact .inr rfl)) ⟨ho, ⟨.ref l, H, I, rfl, q⟩⟩
theorem op_repT0 {X : Cx} : OpR X (binaryOp .Mult) (rRepT0 X.K) := fun pins s σ H x y v u Q I rx ry h => by
  obtain ⟨l, k, xs, rfl, rfl, hT, hne, h0, h1, q⟩ := h
  cases rx
  obtain ⟨t, rfl⟩ := ry
  obtain ⟨its, rv, ⟨o, ho, hc, n, hd⟩, _⟩ := I.tuple hT
  obtain ⟨cls, dd, data, sl⟩ := o
  cases hc
  cases hd
  have hi : its.toArray.isEmpty = false := by
    cases its with
    | nil => exact absurd (List.eq_nil_of_length_eq_zero (by rw [rv.length]; rfl)) hne
    | cons a b => rfl
  refine wpAny_binaryOp_repeat_ref (T := "tuple") (U := "int") (by decide +kernel) ⟨_, ho, rfl⟩ (fun s' => typeIs_int s' k t) noFill_tuple_mul PySem.F.fills_int_mul PySem.F.slot_int_rmul repeat_tuple PySem.F.slot_int_index.lookup ?_
  refine call_meets PySem.F.slot_int_rmul (typeIs_int _ _ _) PySem.F.entry_int_rmul (PySem.F.args_int_rmul_2 _ _) (int_rmul_tuple k t l its.toArray n dd sl) ⟨ho, rfl, ⟨_, ho, rfl⟩, ?_⟩
  refine call_meets PySem.F.slot_tuple_mul ⟨_, ho, rfl⟩ PySem.F.entry_tuple_mul (PySem.F.args_tuple_mul_2 _ _) (tuple_mul0 l its.toArray n dd sl k t (by rw [Bool.or_eq_false_iff]; exact ⟨decide_eq_false (by omega), decide_eq_false (by omega)⟩) (by rw [hi, Bool.false_or]; exact beq_false_of_ne (by omega)) (by rw [Bool.or_eq_true]; exact .inl (decide_eq_true h0))) ⟨ho, ⟨.ref s.heap.objs.size, _, I.laid (a := s.heap.objs.size) (o := .tup []) (fun b u hb => Heap.get?_push_of_some _ hb) (Nat.le_refl _) ?_, rfl, q _ (I.hok.fresh (Nat.le_refl _))⟩⟩
  exact ⟨Nat.zero_le _, [], .nil, PyProof.Rows.IsTup.new s.heap #[]⟩
def rMulT (K : PySem.W.Frag) : R2 := fun x y H Q => rRepT1 K x y H Q ∨ (rRepT0 K x y H Q ∨ rRepT K x y H Q)
theorem op_mulT {X : Cx} : OpR X (binaryOp .Mult) (rMulT X.K) := OpR.or op_repT1 (OpR.or op_repT0 op_repT)
def fMulT : D → D → Option D
  | .tup a, .int k => if (decide (-1000 ≤ k) && (decide (k ≤ 1000) && (!a.isEmpty && decide (a.length ≤ 1000)))) = true then some (.tup (List.replicate k.toNat a).flatten) else none
  | _, _ => none
section
variable {c : Ct} {F0 H0 F H F' H' F1 : Hp} {σ : St} {ρ : Env} {O O1 O' OL : List Nat} {W : WX} {g g' : G} {te ta tb tc : TE} {e a b : SE}
theorem snd_mulT (ha : SndR c O W ta a) (hb : SndE c O W tb b) : SndE c O W (tOp (rMulT c.K) ta tb) (eOp fMulT a b) := fun F0 H0 F H σ ρ g ro g' S q Q p => by
  have p0 := p.x
  refine ha.bind S q p0 fun x g1 vx F1 H1 q1 G1 S1 rx => ?_
  refine hb.bind S1 q1 (p.gr G1) fun y g2 vy F2 H2 q2 G2 S2 ry => ?_
  have rx2 := rx.gr G2
  have G3 := G1.trans G2
  cases z : fMulT x y with
  | none => simp only [z] at q2; cases q2
  | some d =>
    simp only [z] at q2
    cases q2
    unfold fMulT at z
    split at z
    · split at z
      · rename_i ds k w
        cases z
        cases ry
        simp only [Bool.and_eq_true, decide_eq_true_eq, Bool.not_eq_true'] at w
        obtain ⟨w1, w2, w3, w4⟩ := w
        have hds : ds ≠ [] := fun e => by rw [e] at w3; cases w3
        obtain ⟨l, vs, h1, h2, h3⟩ := rx2.rep rfl
        have hvs : vs ≠ [] := fun e => by
          have := h3.len
          rw [e] at this
          exact hds (List.length_eq_zero_iff.mp this.symm)
        by_cases k1 : k = 1
        · subst k1
          refine .inl ⟨l, 1, vs, h1, rfl, ex_t S2.ex h2, rfl, ?_⟩
          have e1 : (List.replicate (1 : Int).toNat ds).flatten = ds := by
            show (ds ++ [] : List D) = ds
            exact List.append_nil ds
          rw [e1] at p
          rw [← h1]
          exact p vx F2 H2 G3 S2 (rx2.rep rfl)
        · by_cases k0 : k ≤ 0
          · refine .inr (.inl ⟨l, k, vs, h1, rfl, ex_t S2.ex h2, hvs, k0, w1, fun n hn => ?_⟩)
            have P := gp_new (o := .tup []) S2.ex hn
            have e1 : (List.replicate k.toNat ds).flatten = [] := by rw [Int.toNat_of_nonpos k0]; rfl
            rw [e1] at p
            exact p _ _ _ (G3.trans P.gr) (S2.pure P) ⟨n, _, rfl, SqT.of upd_same, rfl⟩
          · refine .inr (.inr ⟨l, k, vs, h1, rfl, ex_t S2.ex h2, hvs, by omega, w2, by rw [h3.len]; exact w4, fun n hn => ?_⟩)
            have P := gp_new (o := .tup (List.replicate k.toNat vs).flatten) S2.ex hn
            exact p _ _ _ (G3.trans P.gr) (S2.pure P) ⟨n, _, rfl, SqT.of upd_same, (h3.flat k.toNat).mono P.ex⟩
      · cases z
    · cases z
end
end MP

set_option maxRecDepth 100000
set_option maxHeartbeats 4000000
/-! ### a, b, c = a list -/
namespace MP
open PySem L2
open Evl (Ex ex_rd ex_l ex_t)
section
variable {c : Ct} {F0 H0 F H F' H' F1 : Hp} {σ : St} {ρ : Env} {O O1 O' OL : List Nat} {W : WX} {g g' : G}
def gUnlD (f : List MP.D → Env → Option Env) : ST := fun d ρ => match d with
  | .lst ds => f ds ρ
  | _ => none
theorem snd_gunl {tv : List Nat} {n : Nat} {u : TGs} {fs : List MP.D → Env → Option Env} (k : SndGs c O O' tv n u fs) : SndG c O O' tv (gUnl c.K n u) (gUnlD fs) := fun F0 H0 F H σ ρ g d ρ1 v S q rv Q p => by
  unfold gUnlD at q
  split at q
  · rename_i ds
    obtain ⟨a, vs, h1, h2, h3⟩ := rv
    exact ⟨a, vs, h1, SqL.of (S.ex _ _ h2), by rw [h3.len]; exact k.1 _ _ _ q, k.2 _ _ _ _ _ _ _ _ _ _ S q h3 Q p⟩
  · cases q
end
end MP

set_option maxRecDepth 100000
set_option maxHeartbeats 1000000
namespace MP
open PySem L2
/-! ### what a meaning gives, said from its end: for texts that draw -/
def wE (e : SE) (ρ : Env) (g : G) (Q : D → G → Prop) : Prop := ∃ d g', e ρ g = some (.ok d, g') ∧ Q d g'
def wA (e : SA) (ρ : Env) (g : G) (Q : List D → G → Prop) : Prop := ∃ ds g', e ρ g = some (.ok ds, g') ∧ Q ds g'
def wS (s : SS) (ρ : Env) (g : G) (Q : SOut → G → Prop) : Prop := ∃ o g', s ρ g = some (o, g') ∧ Q o g'
def wF (m : FM) (ds : List D) (g : G) (Q : D → G → Prop) : Prop := ∃ d g', m ds g = some (.ok d, g') ∧ Q d g'
section
variable {e a b t : SE} {ρ : Env} {g : G} {Q : D → G → Prop} {Rs : SOut → G → Prop}
theorem wE_eq {d : D} {g' : G} (h : e ρ g = some (.ok d, g')) (q : Q d g') : wE e ρ g Q := ⟨d, g', h, q⟩
theorem wE.mono {Q' : D → G → Prop} (h : wE e ρ g Q) (k : ∀ d g', Q d g' → Q' d g') : wE e ρ g Q' := let ⟨d, g', h, q⟩ := h; ⟨d, g', h, k _ _ q⟩
theorem wF.mono {m : FM} {ds : List D} {Q' : D → G → Prop} (h : wF m ds g Q) (k : ∀ d g', Q d g' → Q' d g') : wF m ds g Q' := let ⟨d, g', h, q⟩ := h; ⟨d, g', h, k _ _ q⟩
theorem wS.mono {s : SS} {Rs' : SOut → G → Prop} (h : wS s ρ g Rs) (k : ∀ o g', Rs o g' → Rs' o g') : wS s ρ g Rs' := let ⟨d, g', h, q⟩ := h; ⟨d, g', h, k _ _ q⟩
theorem wE_var {i : Nat} {d : D} (h : ρ[i]? = some (some d)) (q : Q d g) : wE (eVar i) ρ g Q := ⟨d, g, by unfold eVar; rw [h], q⟩
theorem wE_c {d : D} (q : Q d g) : wE (eC d) ρ g Q := ⟨d, g, rfl, q⟩
theorem wE_op {f : D → D → Option D} (h : wE a ρ g fun x g1 => wE b ρ g1 fun y g2 => ∃ z, f x y = some z ∧ Q z g2) : wE (eOp f a b) ρ g Q := by
  obtain ⟨x, g1, h1, y, g2, h2, z, h3, q⟩ := h
  exact ⟨z, g2, by unfold eOp; rw [h1, bE_ok, h2, bE_ok, h3], q⟩
theorem wE_un {f : D → Option D} (h : wE a ρ g fun x g1 => ∃ z, f x = some z ∧ Q z g1) : wE (eUn f a) ρ g Q := by
  obtain ⟨x, g1, h1, z, h3, q⟩ := h
  exact ⟨z, g1, by unfold eUn; rw [h1, bE_ok, h3], q⟩
theorem wE_not (h : wE a ρ g fun x g1 => ∃ y, x = .bl y ∧ Q (.bl (!y)) g1) : wE (eNot a) ρ g Q := by
  obtain ⟨x, g1, h1, y, rfl, q⟩ := h
  exact ⟨_, g1, by unfold eNot; rw [h1], q⟩
theorem wE_only (h : wE a ρ g fun x g1 => ∃ y, x = .bl y ∧ Q (.bl y) g1) : wE (onlyB a) ρ g Q := by
  obtain ⟨x, g1, h1, y, rfl, q⟩ := h
  exact ⟨_, g1, by unfold onlyB; rw [h1], q⟩
theorem wE_tru (h : wE a ρ g fun x g1 => ∃ y, truth x = some y ∧ Q (.bl y) g1) : wE (eTru a) ρ g Q := by
  obtain ⟨x, g1, h1, y, h2, q⟩ := h
  exact ⟨_, g1, by unfold eTru; rw [h1, bE_ok, h2], q⟩
theorem wE_and (h : wE a ρ g fun x g1 => (x = .bl true ∧ wE b ρ g1 Q) ∨ (x = .bl false ∧ Q (.bl false) g1)) : wE (eAnd a b) ρ g Q := by
  obtain ⟨x, g1, h1, ⟨rfl, d, g2, h2, q⟩ | ⟨rfl, q⟩⟩ := h
  · exact ⟨d, g2, by unfold eAnd; rw [h1]; exact h2, q⟩
  · exact ⟨_, g1, by unfold eAnd; rw [h1], q⟩
theorem wE_or (h : wE a ρ g fun x g1 => (x = .bl false ∧ wE b ρ g1 Q) ∨ (x = .bl true ∧ Q (.bl true) g1)) : wE (eOr a b) ρ g Q := by
  obtain ⟨x, g1, h1, ⟨rfl, d, g2, h2, q⟩ | ⟨rfl, q⟩⟩ := h
  · exact ⟨d, g2, by unfold eOr; rw [h1]; exact h2, q⟩
  · exact ⟨_, g1, by unfold eOr; rw [h1], q⟩
theorem wE_if (h : wE t ρ g fun x g1 => (x = .bl true ∧ wE a ρ g1 Q) ∨ (x = .bl false ∧ wE b ρ g1 Q)) : wE (eIf t a b) ρ g Q := by
  obtain ⟨x, g1, h1, ⟨rfl, d, g2, h2, q⟩ | ⟨rfl, d, g2, h2, q⟩⟩ := h
  · exact ⟨d, g2, by unfold eIf; rw [h1]; exact h2, q⟩
  · exact ⟨d, g2, by unfold eIf; rw [h1]; exact h2, q⟩
theorem wA_nil {Q : List D → G → Prop} (q : Q [] g) : wA aNil ρ g Q := ⟨[], g, rfl, q⟩
theorem wA_cons {r : SA} {Q : List D → G → Prop} (h : wE a ρ g fun x g1 => wA r ρ g1 fun xs g2 => Q (x :: xs) g2) : wA (aCons a r) ρ g Q := by
  obtain ⟨x, g1, h1, xs, g2, h2, q⟩ := h
  exact ⟨_, g2, by unfold aCons; rw [h1]; simp only; rw [h2], q⟩
theorem wE_args {f : List D → G → MP.R} {r : SA} (h : wA r ρ g fun ds g1 => wF f ds g1 Q) : wE (eArgs f r) ρ g Q := by
  obtain ⟨ds, g1, h1, d, g2, h2, q⟩ := h
  exact ⟨d, g2, by unfold eArgs; rw [h1]; exact h2, q⟩
theorem wE_pf {f : List D → Option D} {r : SA} (h : wA r ρ g fun ds g1 => ∃ d, f ds = some d ∧ Q d g1) : wE (eArgs (pf f) r) ρ g Q := by
  obtain ⟨ds, g1, h1, d, h2, q⟩ := h
  exact ⟨d, g1, by unfold eArgs; rw [h1]; show pf f ds g1 = _; unfold pf; rw [h2], q⟩
theorem wE_call {m : FM} {r : SA} (h : wA r ρ g fun ds g1 => wF m ds g1 Q) : wE (eCall m [] r) ρ g Q := by
  obtain ⟨ds, g1, h1, d, g2, h2, q⟩ := h
  exact ⟨d, g2, by unfold eCall eArgs; rw [h1]; simp only [List.append_nil]; exact h2, q⟩
theorem wE_comp {own : List Nat} {it : SA} {f : ST} {elt : SE} {I : G → Prop} {P : D → Prop} (h : wA it ρ g fun ds g1 => I g1 ∧ ds.length < 2 ^ 19 ∧ (∀ d ∈ ds, ∃ ρ1, f d (wipeD ρ own) = some ρ1 ∧ ∀ g2, I g2 → wE elt ρ1 g2 fun y g3 => P y ∧ I g3) ∧
    ∀ ys g2, ys.length = ds.length → (∀ y ∈ ys, P y) → I g2 → Q (.lst ys) g2) : wE (eComp own it f eYes elt) ρ g Q := by
  obtain ⟨ds, g1, h1, i1, hl, hs, q⟩ := h
  have go : ∀ (l : List D) (acc : List D) (g2 : G), acc.length + l.length < 2 ^ 19 → (∀ d ∈ l, ∃ ρ1, f d (wipeD ρ own) = some ρ1 ∧ ∀ g2, I g2 → wE elt ρ1 g2 fun y g3 => P y ∧ I g3) → I g2 →
      ∃ ys g3, compGo f eYes elt (wipeD ρ own) l g2 acc = some (acc ++ ys, g3) ∧ ys.length = l.length ∧ (∀ y ∈ ys, P y) ∧ I g3 := by
    intro l
    induction l with
    | nil => exact fun acc g2 _ _ i => ⟨[], g2, by unfold compGo; rw [List.append_nil], rfl, fun y h => (nomatch h), i⟩
    | cons d l ih =>
      intro acc g2 hl2 hs2 i
      obtain ⟨ρ1, f1, k1⟩ := hs2 d List.mem_cons_self
      obtain ⟨y, g3, e3, py, i3⟩ := k1 g2 i
      rw [List.length_cons] at hl2
      obtain ⟨ys, g4, e4, l4, p4, i4⟩ := ih (acc ++ [y]) g3 (by rw [List.length_append, List.length_singleton]; omega) (fun d h => hs2 d (List.mem_cons_of_mem _ h)) i3
      refine ⟨y :: ys, g4, ?_, by rw [List.length_cons, l4, List.length_cons], fun z hz => ?_, i4⟩
      · unfold compGo
        rw [f1]
        show (match elt ρ1 g2 with
          | some (.ok y, g3) => if szB (acc.length + 1) = true then compGo f eYes elt (wipeD ρ own) l g3 (acc ++ [y]) else none
          | _ => none) = _
        rw [e3]
        simp only
        rw [if_pos (szB_of (by omega)), e4, List.append_assoc]
        rfl
      · cases hz with
        | head => exact py
        | tail _ hz => exact p4 z hz
  obtain ⟨ys, g2, e2, l2, p2, i2⟩ := go ds [] g1 (by rw [List.length_nil]; omega) hs i1
  rw [List.nil_append] at e2
  refine ⟨.lst ys, g2, ?_, q ys g2 l2 p2 i2⟩
  unfold eComp
  rw [h1]
  simp only [e2]
/-! statements -/
theorem wS_eq {s : SS} {o : SOut} {g' : G} (h : s ρ g = some (o, g')) (q : Rs o g') : wS s ρ g Rs := ⟨o, g', h, q⟩
theorem wS_seq {s1 s2 : SS} {ρ1 : Env} {g1 : G} (h : s1 ρ g = some (.nx ρ1, g1)) (k : wS s2 ρ1 g1 Rs) : wS (sSeq s1 s2) ρ g Rs := by
  obtain ⟨o, g', e, q⟩ := k
  exact ⟨o, g', by rw [sSeq_nx h]; exact e, q⟩
theorem wS_seq' {s1 s2 : SS} (h : wS s1 ρ g fun o g1 => match o with
    | .nx ρ1 => wS s2 ρ1 g1 Rs
    | o => Rs o g1) : wS (sSeq s1 s2) ρ g Rs := by
  obtain ⟨o, g1, e, q⟩ := h
  unfold wS sSeq
  rw [e]
  cases o with
  | nx ρ1 => exact q
  | _ => exact ⟨_, _, rfl, q⟩
theorem wS_set {i : Nat} (h : wE e ρ g fun d g' => Rs (.nx (ρ.set i (some d))) g') : wS (sSet i e) ρ g Rs := by
  obtain ⟨d, g', h, q⟩ := h
  exact ⟨_, g', by unfold sSet bV; rw [h], q⟩
theorem wS_unp {f : ST} (h : wE e ρ g fun d g' => ∃ ρ1, f d ρ = some ρ1 ∧ Rs (.nx ρ1) g') : wS (sUnp f e) ρ g Rs := by
  obtain ⟨d, g', h, ρ1, h1, q⟩ := h
  exact ⟨_, g', by unfold sUnp bV; rw [h]; simp only [h1], q⟩
theorem wS_ret (h : wE e ρ g fun d g' => Rs (.ret d) g') : wS (sRet e) ρ g Rs := by
  obtain ⟨d, g', h, q⟩ := h
  exact ⟨_, g', by unfold sRet bV; rw [h], q⟩
theorem wS_pass (q : Rs (.nx ρ) g) : wS sPass ρ g Rs := ⟨_, g, rfl, q⟩
theorem wS_if {s1 s2 : SS} (h : wE t ρ g fun x g1 => (x = .bl true ∧ wS s1 ρ g1 Rs) ∨ (x = .bl false ∧ wS s2 ρ g1 Rs)) : wS (sIf t s1 s2) ρ g Rs := by
  obtain ⟨x, g1, h1, ⟨rfl, o, g2, h2, q⟩ | ⟨rfl, o, g2, h2, q⟩⟩ := h
  · exact ⟨o, g2, by unfold sIf; rw [h1]; exact h2, q⟩
  · exact ⟨o, g2, by unfold sIf; rw [h1]; exact h2, q⟩
theorem wS_setIx {i j : Nat} {ix : SE} {ds : List D} (hi : ρ[i]? = some (some (.lst ds))) (h : wE e ρ g fun d g1 => wE ix ρ g1 fun k g2 => ∃ z, k = .int z ∧ ixN ds.length z = some j ∧ Rs (.nx (ρ.set i (some (.lst (ds.set j d))))) g2) : wS (sSetIx i ix e) ρ g Rs := by
  obtain ⟨d, g1, h1, k, g2, h2, z, rfl, h3, q⟩ := h
  exact ⟨_, g2, by unfold sSetIx bV; rw [hi]; simp only [h1, h2, h3], q⟩
theorem wS_for {it : SA} {f : ST} {body : SS} {I : Nat → Env → G → Prop} (h : wA it ρ g fun ds g1 => I 0 ρ g1 ∧ (∀ (k : Nat) d ρ g, ds[k]? = some d → I k ρ g → ∃ ρ1, f d ρ = some ρ1 ∧ wS body ρ1 g fun o g2 => ∃ ρ2, o = .nx ρ2 ∧ I (k + 1) ρ2 g2) ∧
    ∀ ρ g, I ds.length ρ g → Rs (.nx ρ) g) : wS (sFor it f body) ρ g Rs := by
  obtain ⟨ds, g1, h1, i1, hs, q⟩ := h
  have go : ∀ (n : Nat) (l : List D) (k : Nat) (ρ : Env) (g : G), l = ds.drop k → l.length = n → I k ρ g → ∃ ρ2 g2, forGo f body l ρ g = some (.nx ρ2, g2) ∧ I (k + l.length) ρ2 g2 := by
    intro n
    induction n with
    | zero =>
      intro l k ρ g hl hn i
      cases l with
      | nil => exact ⟨ρ, g, rfl, i⟩
      | cons d l => cases hn
    | succ n ih =>
      intro l k ρ g hl hn i
      cases l with
      | nil => cases hn
      | cons d l =>
        have hd : ds[k]? = some d := by
          have := congrArg (fun x => x[0]?) hl
          simp only [List.getElem?_cons_zero, List.getElem?_drop, Nat.add_zero] at this
          exact this.symm
        have hl2 : l = ds.drop (k + 1) := by
          have := congrArg List.tail hl
          rwa [List.tail_cons, List.tail_drop] at this
        obtain ⟨ρ1, f1, o, g2, e2, ρ2, rfl, i2⟩ := hs k d ρ g hd i
        obtain ⟨ρ3, g3, e3, i3⟩ := ih l (k + 1) ρ2 g2 hl2 (Nat.succ.inj hn) i2
        refine ⟨ρ3, g3, ?_, by rw [List.length_cons, Nat.add_comm l.length 1, ← Nat.add_assoc]; exact i3⟩
        unfold forGo
        rw [f1]
        simp only [e2]
        exact e3
  obtain ⟨ρ2, g2, e2, i2⟩ := go ds.length ds 0 ρ g1 rfl rfl i1
  rw [Nat.zero_add] at i2
  exact ⟨_, g2, by unfold sFor; rw [h1]; exact e2, q ρ2 g2 i2⟩
theorem wF_fn {nn np : Nat} {s : SS} {ds : List D} (h : ds.length = np) (k : wS s (ds.map some ++ List.replicate (nn - np) none) g fun o g' => match o with
    | .nx _ => Q .non g'
    | .ret d => Q d g'
    | _ => False) : wF (mkFn nn np s) ds g Q := by
  obtain ⟨o, g', e, q⟩ := k
  unfold wF
  rw [mkFn_eq h, e]
  cases o with
  | nx ρ => exact ⟨_, _, rfl, q⟩
  | ret d => exact ⟨_, _, rfl, q⟩
  | _ => exact q.elim
end
end MP

set_option maxRecDepth 100000
set_option maxHeartbeats 1000000
namespace MP
open PySem L2
open Evl (Ex ex_rd ex_l ex_t)
/-! ### a call with a keyword: two values, then one by its name -/
abbrev KB21 (K : PySem.W.Frag) (fd : FuncData) (ps : List Str) (kn : Str) : Prop := KBn K fd ps 2 [kn] (fun us ws => us ++ ws) (fun vs zs => vs ++ zs)
section
variable {X : Cx} {CX : CXT} {k : Nat} {f : Addr} {fd : FuncData} {ps : List Str} {sp : Sp} {E : St → XK} {x kn : Str} {p pos kp : Pos} {e1 e2 e3 : Expr} {t1 t2 t3 : TE}
theorem run_fnKD {pins : List (Addr × Obj)} {σ : St} {H : Hp} {s : Shared} {Q : VK} {us ws : List Value} {vs zs : List V} (F : FnG X.prog X.w X.K X.mg X.base CX k f fd ps sp) (hr : RG k X.A) (hb : KB21 X.K fd ps kn) (hx : PassesAt CX X σ (E σ))
    (I : Inv X pins σ H s) (r : Vals vs us) (rz : Vals zs ws) (l1 : vs.length = 2) (l2 : zs.length = 1) (h : sp (vs ++ zs) H Q (E σ)) : wpAny (model X.prog X.w) X.A (call (.ref f) us ([kn].zip ws)) (EP X pins σ Q) X.xe s := by
  have r2 := hb.rel r rz
  refine wpAny_call (codeAny_mono (F.run X.A X.stack s H ⟨us, [kn].zip ws⟩ (us ++ ws) (vs ++ zs) Q (E σ) hr I.env0 (hb.to s us ws I.kIn (r.length.symm.trans l1) (rz.length.symm.trans l2)) r2 h) fun r s' hq => ?_)
  cases r with
  | error y => exact hx pins H s y s' I hq
  | ok fl =>
    cases fl with
    | ret u => exact I.after hq
    | next => exact hq.elim
    | brk => exact hq.elim
    | cont => exact hq.elim
theorem pe_callK21 (F : FnG X.prog X.w X.K X.mg X.base CX k f fd ps sp) (hr : RG k X.A) (hg : Gl X x) (hm : X.mg x = some (.ref f)) (hk : PySem.W.keepIn X.K (.ref f) = true) (hb : KB21 X.K fd ps kn) (hx : ∀ σ, PassesAt CX X σ (E σ))
    (ha : PA X [e1, e2] (tCons t1 (tCons t2 tNil))) (h3 : PE X e3 t3) (hall : (backToKw pos (keywordEach [⟨some kn, e3, kp⟩] X.env)).all (·.1.isSome) = true := by rfl) (hks : (backToKw pos (keywordEach [⟨some kn, e3, kp⟩] X.env)).filterMap (·.1) = [kn] := by rfl)
    (hdb : (x == ("__debug__" : Str)) = false := by decide) (he : starEach [e1, e2] X.env = (false, eval e1 X.env) :: starEach [e2] X.env := by rfl)
    (hpl : ((backTo pos (starEach [e1, e2] X.env)).any (·.1) || (backToKw pos (keywordEach [⟨some kn, e3, kp⟩] X.env)).any (·.1.isNone)) = false := by rfl) :
    PE X (.Call (.Name x p) [e1, e2] [⟨some kn, e3, kp⟩] pos) (tCallD sp [] E (tCons t1 (tCons t2 (tCons t3 tNil)))) := by
  refine ⟨fun pins s σ H Q I h => ?_⟩
  refine wpAny_Call_Name_kw (ld_glob I hg hm ?_ hdb)
  refine PySem.W.callWith_KW (h₀ := X.base) I.ok.mod.kin hk hall (thn (ha.run pos pins s σ H (fun vs H1 => match vs with | [x, y] => t3 σ H1 fun z H2 => sp [x, y, z] H2 Q (E σ) | _ => False) I h) fun us s1 ⟨vs, H1, I1, r, q⟩ => ?_) hpl he
  match vs, q with
  | [y1, y2], q =>
    refine thn ((pk_cons h3 pk_nil).run pos pins s1 σ H1 (fun zs H2 => match zs with | [z] => sp [y1, y2, z] H2 Q (E σ) | _ => False) I1 q) fun ws s2 ⟨zs, H2, I2, rz, q2⟩ => ⟨I2.kIn, ?_⟩
    match zs, q2 with
    | [z], q2 =>
      rw [hks]
      exact run_fnKD F hr hb (hx σ) I2 r rz rfl rfl q2
    | [], q2 => exact q2.elim
    | _ :: _ :: _, q2 => exact q2.elim
  | [], q => exact q.elim
  | [_], q => exact q.elim
  | _ :: _ :: _ :: _, q => exact q.elim
end
theorem kb21 {K : PySem.W.Frag} {x qual : Str} {params : Arguments} {body : List Stmt} {scope : Scope} {d : V} {dvs : List V} {kws : List (Str × V)} {f : Addr} {fd : FuncData} {ps : List Str} {kn : Str} (F : FunD K x qual params body scope (d :: dvs) kws f fd)
    (h : ∀ (T : Addr) (kV doc pm : Value) (an : Option Addr) (cdv ct : Value) (us its ws : List Value), us.length = 2 → its.length = (d :: dvs).length → ws.length = 1 →
      ∃ k, bindArgs (PySem.W.fnOf x qual params body scope (.ref T) kV doc pm an cdv ct) ⟨us, [kn].zip ws⟩ = seqItems? (.ref T) >>= k ∧ k (some its.toArray) = pure (ps.zip (us ++ ws))) : KB21 K fd ps kn := by
  obtain ⟨_, h⟩ := F.kbindsD 2 [kn] (fun vs _ zs => vs ++ zs) (List.cons_ne_nil _ _) (fun r1 _ r3 => r1.append r3) h
  exact h
end MP

set_option maxRecDepth 100000
set_option maxHeartbeats 1000000
/-! ### an own def called in an except suite, where it raises nothing -/
namespace MP
open PySem PySem.Spec PyProof.Rows L2
open Evl (Ex ex_rd ex_l ex_t)
/-- what a def does while an exception is handled -/
structure FnQ (P : Program) (w : World) (K : PySem.W.Frag) (mg : Str → Option Value) (base : Heap) (CX : CXT) (k : Nat) (f : Addr) (fd : FuncData) (ps : List Str) (sp : Sp) : Prop where
  ar : ∀ vs H Q E, sp vs H Q E → vs.length = ps.length
  does : ∀ (A : Around) (outer : List PySem.Env) (s : Shared) (H : Hp) (args : Args) (us : List Value) (vs : List V) (Q : VK) (E : XK) (z : Addr × Obj), L2H.RoomH k A → L2H.PinOk outer H s z → Env0 P w K mg base A outer s H → BindsTo s fd args (ps.zip us) → Vals vs us →
    sp vs H Q E → codeAny (model P w) A (.call (.ref f) args) (CR CX outer P w H s Q E) s
section
variable {P : Program} {w : World} {K : PySem.W.Frag} {mg : Str → Option Value} {base : Heap} {CX : CXT}
theorem FnQ.up {j k : Nat} {f : Addr} {fd : FuncData} {ps : List Str} {sp : Sp} (F : FnQ P w K mg base CX j f fd ps sp) (h : j ≤ k) : FnQ P w K mg base CX k f fd ps sp := ⟨F.ar, fun A o s H a us vs Q E z r => F.does A o s H a us vs Q E z (r.mono h)⟩
theorem fnQ_of {k : Nat} {f : Addr} {name qual : Str} {params : Arguments} {body : List Stmt} {scope : Scope} {dV kV doc pm cdv ct oc : Value} {an od : Option Addr} {osl : Array (Option Value)} {N ps : List Str} {sp : Sp}
    (lk : K.lookup f = some ⟨oc, od, .func (PySem.W.fnOf name qual params body scope dV kV doc pm an cdv ct), osl⟩) (hcd : PySem.W.codeIn K cdv qual = true) (S : FnScope N ps scope) (ar : ∀ vs H Q E, sp vs H Q E → vs.length = ps.length)
    (hb : ∀ (A : Around) (outer : List PySem.Env) (s : Shared) (H : Hp) (vs : List V) (Q : VK) (E : XK) (z : Addr × Obj), sp vs H Q E → ∃ t, PSs (L2H.cxH CX P w K mg base N qual scope f cdv A outer s H E z) body t ∧ t { nx := fun _ H' => Q .non H', rt := Q } (L2.start N vs) H) :
    FnQ P w K mg base CX (k + 1) f (PySem.W.fnOf name qual params body scope dV kV doc pm an cdv ct) ps sp := by
  refine ⟨ar, fun A outer s H args us vs Q E z rm pin en bd rl q => ?_⟩
  have inK : K.In s.heap := en.mod.kin.keeps (fun b o e => (en.bs b o e).1)
  have nol : s.heap.NoLimit := en.mod.nolimit.keeps (fun b o e => (en.bs b o e).1)
  refine codeAny_call_function rm.depth (inK _ _ lk) rfl S.co S.gen rfl (PySem.W.codeRec_of inK hcd) (bd _ _ _ _ (wpAny_newFunctionEnv_cells S.kind (fun y hy => ?_) fun env ee s1 st => ?_))
  · obtain ⟨n, v⟩ := y
    exact (S.par n (List.of_mem_zip hy).1).imp (fun z => z) fun z => ⟨z, PySem.W.cellsFrom_some _ _ _ (.inl z)⟩
  · subst ee
    obtain ⟨t, ht, tq⟩ := hb A outer s H vs Q E z q
    have J := L2H.inv_startH (CX := CX) (E := E) S pin en (ar _ _ _ _ q) rl st
    refine ⟨nol.keeps st.toInCall.keep, codeAny_func (wpAny_mono (ht.run [] s1 (L2.start N vs) H _ J tq) (fun fl s' hs => ?_) fun e s' hs => hs)⟩
    match fl, hs with
    | .ret u, ⟨v, _, H', J', rv, z⟩ => exact ⟨v, H', J'.os, J'.bare, J'.base, J'.hok, rv, z⟩
    | .next, ⟨_, H', J', z⟩ => exact ⟨V.non, H', J'.os, J'.bare, J'.base, J'.hok, rfl, z⟩
    | .brk, ⟨_, _, _, z⟩ => exact z.elim
    | .cont, ⟨_, _, _, z⟩ => exact z.elim
theorem fnQ_ok {x qual : Str} {params : Arguments} {body : List Stmt} {scope : Scope} {dvs : List V} {kws : List (Str × V)} {f : Addr} {fd : FuncData} {ca : Str → Addr} {N ps : List Str} {s : SS} (F : FunD K x qual params body scope dvs kws f fd) (S : FnScope N ps scope)
    (hb : ∀ (h : Option Addr) (cdv : Value) (A : Around) (outer : List PySem.Env) (st : Shared) (H : Hp) (E : XK) (z : Addr × Obj), ∃ ts O' OL, PSs (L2H.cxH (L2.CX P w) P w K mg base N qual scope f cdv A outer st H E z) body ts ∧ SndS (ct K ca h) [] O' OL (fun cls d _ H => E cls d H) ts s) :
    FnQ P w K mg base (L2.CX P w) 1 f fd ps (specA K ca (mkFn N.length ps.length s)) := by
  obtain ⟨oc, od, dV, kV, doc, pm, an, cdv, ct, osl, rfl, lk, hcd, _⟩ := F.ex
  refine fnQ_of lk hcd S (fun vs H Q E ⟨_, q⟩ => spec_len mkFn_len vs H Q E q) fun A outer st H vs Q E z ⟨h, q⟩ => ?_
  obtain ⟨ts, O', OL, h1, h2⟩ := hb h cdv A outer st H E z
  exact ⟨ts, h1, body_ok rfl rfl h2 q⟩
end
section
variable {X : Cx} {CX : CXT} {k : Nat} {f : Addr} {fd : FuncData} {ps : List Str} {sp : Sp} {E : L2.St → XK} {x : Str} {p pos : Pos} {e : Expr} {es : List Expr} {t : TA}
theorem run_fnQ {pins : List (Addr × Obj)} {σ : L2.St} {H : Hp} {s : Shared} {Q : VK} {us : List Value} {vs : List V} (F : FnQ X.prog X.w X.K X.mg X.base CX k f fd ps sp) (hr : L2H.RoomH k X.A) {z : Addr × Obj} (hz : z ∈ X.pn) (hb : Binds X.K fd ps []) (hx : PassesAt CX X σ (E σ))
    (I : L2.Inv X pins σ H s) (r : Vals vs us) (h : sp vs H Q (E σ)) : wpAny (model X.prog X.w) X.A (call (.ref f) us) (EP X pins σ Q) X.xe s := by
  have P1 := I.pin z (List.mem_append_left _ hz)
  have b := hb s us I.kIn (by rw [List.append_nil, ← r.length]; exact F.ar _ _ _ _ h)
  rw [List.append_nil] at b
  have hpin : L2H.PinOk X.stack H s z := ⟨P1.1, P1.2.1, fun m => (List.mem_cons.mp (I.stkSub z.1 m)).elim P1.2.2.1 P1.2.2.2.1, P1.2.2.2.2⟩
  refine wpAny_call (codeAny_mono (F.does X.A X.stack s H ⟨us, []⟩ us vs Q (E σ) z hr hpin I.env0 b r h) fun r s' hq => ?_)
  match r, hq with
  | .error y, hq => exact hx pins H s y s' I hq
  | .ok (.ret u), hq => exact I.after hq
  | .ok .next, hq => exact hq.elim
  | .ok .brk, hq => exact hq.elim
  | .ok .cont, hq => exact hq.elim
theorem pe_callQ (F : FnQ X.prog X.w X.K X.mg X.base CX k f fd ps sp) (hr : L2H.RoomH k X.A) {z : Addr × Obj} (hz : z ∈ X.pn) (hg : Gl X x) (hm : X.mg x = some (.ref f)) (hk : PySem.W.keepIn X.K (.ref f) = true) (hb : Binds X.K fd ps []) (hx : ∀ σ, PassesAt CX X σ (E σ))
    (ha : PA X (e :: es) t) (hdb : (x == ("__debug__" : Str)) = false := by decide) (he : starEach (e :: es) X.env = (false, eval e X.env) :: starEach es X.env := by rfl) (hpl : (backTo pos (starEach es X.env)).any (·.1) = false := by rfl) :
    PE X (.Call (.Name x p) (e :: es) [] pos) (tCallD sp [] E t) := by
  refine ⟨fun pins s σ H Q I h => wpAny_Call_Name_kw (ld_glob I hg hm ?_ hdb)⟩
  refine PySem.W.callWith_K (h₀ := X.base) I.ok.mod.kin hk (thn (ha.run pos pins s σ H _ I h) fun us s1 y => ?_) he hpl
  obtain ⟨vs, H1, I1, r, q⟩ := y
  exact ⟨I1.kIn, run_fnQ F hr hz hb (hx σ) I1 r (by rw [List.append_nil] at q; exact q)⟩
end
end MP

set_option maxRecDepth 100000
set_option maxHeartbeats 1000000
/-! ### x.insert(k, e) -/
namespace MP
open PySem L2
open Evl (Ex ex_rd ex_l ex_t)
section
variable {c : Ct} {F0 H0 F H F' H' F1 : Hp} {σ : L2.St} {ρ : Env} {O O1 O' OL : List Nat} {W : WX} {g g' : G} {te tk : TE} {e k : SE}
theorem Reps.takeN {c : Cb} {F : Hp} : ∀ {ds : List D} {vs : List V} (n : Nat), Reps c F ds vs → Reps c F (ds.take n) (vs.take n)
  | [], _, n, h => by cases h; rw [List.take_nil, List.take_nil]; exact rfl
  | _ :: _, _, 0, _ => rfl
  | _ :: _, _, n + 1, ⟨v, r, h1, h2, h3⟩ => by subst h1; exact ⟨v, _, rfl, h2, Reps.takeN n h3⟩
theorem Reps.dropN {c : Cb} {F : Hp} : ∀ {ds : List D} {vs : List V} (n : Nat), Reps c F ds vs → Reps c F (ds.drop n) (vs.drop n)
  | [], _, n, h => by cases h; rw [List.drop_nil, List.drop_nil]; exact rfl
  | _ :: _, _, 0, h => h
  | _ :: _, _, n + 1, ⟨v, r, h1, h2, h3⟩ => by subst h1; exact Reps.dropN n h3
def rIns : V → List V → Hp → VK → Prop := fun x vs H Q => ∃ (l : Addr) (xs : List V) (i : Int) (y : V), x = .ref l ∧ vs = [.int i, y] ∧ H l = some (.lst xs) ∧ xs.length < sizeLine ∧ 0 ≤ i ∧ i < 2 ^ 63 ∧ Q .non (upd H l (.lst (xs.take i.toNat ++ [y] ++ xs.drop i.toNat)))
theorem mt_ins {X : Cx} : MtR X "list.insert" rIns := mt_insert
def sIns (i : Nat) (k e : SE) : SS := fun ρ g => match ρ[i]? with
  | some (some (.lst ds)) => bV (k ρ g) ρ fun x g1 => bV (e ρ g1) ρ fun y g2 => (match x with
    | .int n => if 0 ≤ n ∧ n < 2 ^ 62 ∧ szB (ds.length + 1) = true then some (.nx (ρ.set i (some (.lst (ds.take n.toNat ++ [y] ++ ds.drop n.toNat)))), g2) else none
    | _ => none)
  | _ => none
theorem snd_ins {i : Nat} (hi : i ∈ O) (hk : SndE c O W tk k) (h : SndE c O W te e) : SndS c O O OL W (tDrop (tBM c.K "list" rIns (tVar i) (tCons tk (tCons te tNil)))) (sIns i k e) := fun F0 H0 F H σ ρ g r g' S q D p => by
  unfold sIns at q
  split at q
  · rename_i ds hρ
    obtain ⟨v, h1, hw⟩ := S.own i _ hρ hi
    obtain ⟨a, vs, h3, h4, h5, h6, h7, h8⟩ := hw.lst
    subst h3
    refine ⟨.ref a, h1, .inl ⟨rfl, vs, SqL.of h7⟩, ?_⟩
    rcases bV_some q with ⟨x, g1, q1, q2⟩ | ⟨n, f, q1, rfl⟩
    · refine hk _ _ _ _ _ _ _ _ _ S q1 _ fun v1 F1 H1 G1 S1 rv => ?_
      rcases bV_some q2 with ⟨y, g2, q3, q4⟩ | ⟨n, f, q3, rfl⟩
      · refine h _ _ _ _ _ _ _ _ _ S1 q3 _ fun v2 F2 H2 G2 S2 rv2 => ?_
        cases x with
        | int n =>
          cases rv
          simp only at q4
          split at q4
          · rename_i hz
            cases q4
            have hl : H2 a = some (.lst vs) := G2.keep _ _ (G1.keep _ _ h7 h6) h6
            have r8 := (h8.mono G1.ex).mono G2.ex
            have := szB_ok hz.2.2
            exact ⟨a, vs, n, v2, rfl, rfl, hl, by rw [h8.len]; omega, hz.1, by omega, p σ F2 _ (G1.ex.trans G2.ex) (S2.setMut hi hρ h1 (((r8.takeN _).append (.one rv2)).append (r8.dropN _)))⟩
          · cases q4
        | _ => cases q4
      · exact h _ _ _ _ _ _ _ _ _ S1 q3 _ (postX_of S1 (SPost.gr G1.ex p))
    · exact hk _ _ _ _ _ _ _ _ _ S q1 _ (postX_of S p)
  · cases q
end
theorem roomQ {j k : Nat} {A : Around} {hd : Option Value} (r : RG j A) (h : k ≤ j) : L2H.RoomH k (A.mark hd) := by
  have z := L2H.roomH_of (r.toRoom.mono h)
  exact ⟨z.dp, z.un⟩
theorem tk_W0 {X : Cx} : L2.Takes X W0 := fun u s x => by
  obtain ⟨_, _, _, _, _, _, _, _, _, _, _, _, _, _, _, _, w⟩ := x
  exact w.elim
end MP

set_option maxRecDepth 100000
set_option maxHeartbeats 1000000
/-! ### own errors held as values: made, asked for their class, their fields read -/
namespace MP
open PySem PySem.Spec PyProof.Rows L2
open Evl (Ex ex_rd ex_l ex_t)
section
variable {X : Cx} {pins : List (Addr × Obj)} {σ : L2.St} {H : Hp} {s : Shared}
theorem inv_frzX {d : Addr} {od : Obj} {fs : List (Str × V)} (I : L2.Inv X pins σ H s) (hd : H d = some (.xd fs)) (ho : s.heap.get? d = some od) : L2.Inv X pins σ (upd H d (.frz od (.xd fs))) s := by
  have nb : ∀ {b : Addr} {o : HO}, H b = some o → (∀ gs, o ≠ .xd gs) → b ≠ d := fun e n z => by
    rw [z, hd] at e
    cases e
    exact n _ rfl
  have u : Un X.fs [] H (upd H d (.frz od (.xd fs))) s.heap s.heap := ⟨fun b o e _ _ _ => e, fun b o e _ _ _ => ⟨o.slots, e⟩, fun b o _ n _ => by
      rw [upd_ne (fun z => by rw [z, hd] at n; cases n)]
      exact n, fun b o e _ => ⟨o, e⟩, fun b xs e => by rw [upd_ne (nb e fun _ z => nomatch z)]; exact e, fun b o v e => by rw [upd_ne (nb e fun _ z => nomatch z)]; exact e,
    fun b ps e => ⟨#[], by rw [upd_ne (nb e fun _ z => nomatch z), e]; simp⟩⟩
  refine I.un (t' := s.toks) u fun b v e => ?_
  by_cases hb : b = d
  · subst hb
    rw [upd_same] at e
    cases e
    exact ⟨ho, I.hok b _ hd⟩
  · rw [upd_ne hb] at e
    exact (I.hok b v e).stay (fun _ _ _ q => q) (fun c q => by rw [upd_ne (nb q fun _ z => nomatch z)]; exact q) fun c xs q => by rw [upd_ne (nb q fun _ z => nomatch z)]; exact q
/-- what is made, as a value -/
def kExv (Q : VK) : XK := fun cls dd H1 => match dd with
  | none => ∀ a, H1 a = none → Q (.ref a) (upd H1 a (ExV cls none a))
  | some d => ∃ fs, H1 d = some (.xd fs) ∧ ∀ a od, H1 a = none → Q (.ref a) (upd (upd H1 d (.frz od (.xd fs))) a (ExV cls (some d) a))
theorem pe_exv {e : Expr} {t : L2.St → Hp → XK → Prop} (he : L2.PMk X e t) : PE X e (fun σ H Q => t σ H (kExv Q)) := by
  refine ⟨fun pins s σ H Q I h => wpAny_mono (he pins s σ H _ I h) (fun u s1 hu => ?_) fun _ _ x => x⟩
  obtain ⟨a, oe, vs, sI, H', cls, d, rfl, J, k, hne, ha, hz, hd, h1, na, os, ag, r, q⟩ := hu
  have mk : ∀ {H2 : Hp}, L2.Inv X pins σ H2 sI → H2 a = none → L2.Inv X pins σ (upd H2 a (ExV cls d a)) s1 := fun J2 n2 => by
    have K := J2.laidN (t' := s1.toks) (o := ExV cls d a) k hne n2 ⟨⟨oe, vs, ha, hz, hd⟩, ⟨oe, ha⟩, fun _ _ ⟨o, v, q, r⟩ kk => ⟨o, v, kk o q, r⟩⟩
    exact ⟨K.ok, os.trans K.os, ag, K.base, K.loc, K.cell, K.free, K.freeC, K.pin, K.hok, K.len⟩
  cases d with
  | none => exact ⟨.ref a, _, mk J na, rfl, q a na⟩
  | some d =>
    obtain ⟨fs, hd', q⟩ := q
    obtain ⟨_, ⟨od, _, _, eo, _⟩, _⟩ := id (J.hok d _ hd')
    have n2 : upd H' d (.frz od (.xd fs)) a = none := by rw [upd_ne (fun z => by rw [← z, na] at hd'; cases hd')]; exact na
    exact ⟨.ref a, _, mk (inv_frzX J hd' eo) n2, rfl, q a od na⟩
/-- isinstance(e, c) of an error that is held -/
def rXv (K : PySem.W.Frag) : List V → Hp → VK → Prop := fun xs H Q => ∃ (a : Addr) (c : V) (cv : Value) (b : Bool) (D : Addr) (dd : Option Addr), xs = [.ref a, c] ∧ ClsV c cv ∧ H a = some (ExV (.ref D) dd a) ∧ ExcC K D ∧
  (dd = none ∨ ∃ d od fs, dd = some d ∧ H d = some (.frz od (.xd fs))) ∧ PySem.W.kitOne K (.ref D) cv = some b ∧ Q (.bl b) H
theorem call_xv : CallR X (.builtin "isinstance") (rXv X.K) := by
  intro pins s σ H xs us Q I r h
  obtain ⟨a, c, cv, b, D, dd, rfl, hcv, ea, xc, ex, e, q⟩ := h
  obtain ⟨u1, u2, rfl, r1, r2⟩ := vals2 r
  have e2 := hcv.eq r2
  subst e2
  obtain rfl : u1 = Value.ref a := r1
  obtain ⟨⟨oe, vs, ha, hz, hv⟩, _, _⟩ := id (I.hok a _ ea)
  have nc : PySem.W.notCls oe = true := by unfold PySem.W.notCls; rw [hv] <;> rfl
  rcases ex with ed | ⟨d, od, fs, ed, hd⟩
  · subst ed
    have J : PySem.W.InstAt s.heap a oe D none := ⟨ha, hz.1, nc, by rw [hz.2]; trivial⟩
    exact PySem.W.kia_one (xi_kit xc) I.kIn J e (fun z => nomatch z) fun tk => ⟨.bl b, H, I.tok tk, rfl, q⟩
  · subst ed
    obtain ⟨ho, _⟩ := id (I.hok d _ hd)
    have J : PySem.W.InstAt s.heap a oe D (some od) := ⟨ha, hz.1, nc, by rw [hz.2]; exact ho⟩
    exact PySem.W.kia_one (xi_kit xc) I.kIn J e (fun z => nomatch z) fun tk => ⟨.bl b, H, I.tok tk, rfl, q⟩
/-- e.f of an error that is held -/
def tXv (K : PySem.W.Frag) (f : Str) (te : TE) : TE := fun σ H Q => te σ H fun x H1 => ∃ (a C d : Addr) (od : Obj) (fs : List (Str × V)) (v : V), x = .ref a ∧ H1 a = some (ExV (.ref C) (some d) a) ∧ XfC K C ∧ PySem.W.findIn K (.ref C) f = some none ∧ H1 d = some (.frz od (.xd fs)) ∧ fs.lookup f = some v ∧ Q v H1
theorem pe_xv {e : Expr} {te : TE} {pos : Pos} {n : Str} (he : PE X e te) (hb : attributeBase e n X.env (eval e X.env) = eval e X.env := by rfl) : PE X (.Attribute e n pos) (tXv X.K n te) := by
  refine ⟨fun pins s σ H Q I h => attr_of hb (thn (he.run pins s σ H _ I h) fun u s1 hh => ?_)⟩
  obtain ⟨x, H1, I1, rx, a, C, d, od, fs, v, rfl, ea, T, hno, ed, l, q⟩ := hh
  obtain rfl : u = Value.ref a := rx
  obtain ⟨⟨oe, vs, ha, hz, hd⟩, _, _⟩ := id (I1.hok a _ ea)
  obtain ⟨ho, mA, hns, hr⟩ := id (I1.hok d _ ed)
  obtain ⟨od', ho', hl⟩ := lookIn_ns hns
  cases ho.symm.trans ho'
  obtain ⟨u, hu, ru⟩ := RelO.some_of (v := v) (o := mA n) (by rw [← l]; exact hr n)
  have J : PySem.W.InstAt s1.heap a oe C (some od) := ⟨ha, hz.1, by unfold PySem.W.notCls; rw [hd] <;> rfl, by rw [hz.2]; exact ho⟩
  exact HandSPX.exc_get I1.kIn J T.ga T.gg T.exC (PySem.W.findObj_own T.hdC hno rfl (by rw [hl, hu])) (handed_of ru) ⟨v, H1, I1.tok _, ru, q⟩
end
/-- the truth of a, the written part told from outside -/
theorem pt_truthK {X : Cx} {K : PySem.W.Frag} {a : PySem.Expr} {ta : TE} (hK : X.K = K) (ha : PE X a ta) (he : ∀ whole, isTrue a X.env whole = (do let v ← whole; standAt a.pos; holding [v] (truthy v)) := by intro _; rfl) : PT X a (tTru K ta) := by
  subst hK
  exact pt_truth ha he
/-! ### the meanings -/
def eMk0 (n : Str) : SE := fun _ g => some (.ok (.exv n []), g)
def fMk1 (n f : Str) : List D → Option D
  | [d] => some (.exv n [(f, d)])
  | _ => none
def fMk2 (n f f2 : Str) : List D → Option D
  | [d, e] => some (.exv n [(f2, e), (f, d)])
  | _ => none
/-- the class is told by the table -/
def fXv (xfl : List Str) (l : Isi) (T : Tg) : D → Option D
  | .exv n _ => if xfl.contains n = true then (l.lookup (.own n, T)).map .bl else none
  | _ => none
def fXa (xfl : List Str) (exl : List (Str × List Str)) (f : Str) : D → Option D
  | .exv n fs => if (xfl.contains n && exl.any fun x => x.1 == n && x.2.contains f) = true then fs.lookup f else none
  | _ => none
section
variable {c : Ct} {F0 H0 F H F' H' F1 : Hp} {σ : L2.St} {ρ : Env} {O O1 O' OL : List Nat} {W : WX} {g g' : G} {te ta tb tc : TE} {e a b : SE} {n f f2 : Str}
theorem snd_mk0 : SndE c O W (fun σ H Q => (fun (_ : L2.St) (H : Hp) (Q : XK) => Q (.ref (c.ca n)) none H) σ H (kExv Q)) (eMk0 n) := fun F0 H0 F H σ ρ g r g' S q Q p => by
  cases q
  intro a ha
  have P := gp_new (o := ExV (.ref (c.ca n)) none a) S.ex ha
  exact p (.ref a) _ _ P.gr (S.pure P) ⟨a, none, [], rfl, upd_same, .inl ⟨rfl, rfl⟩, rfl⟩
theorem exv_new {dx : Addr} {vs : List (Str × V)} {fs : List (Str × D)} {Q : VK} {F1 H1 : Hp} (S1 : SR c F0 H0 F1 H1 σ ρ O g) (hdx : H1 dx = none) (hr : RepF c F1 fs vs) (p : ∀ v F2 H2, Gr c F1 H1 F2 H2 → SR c F0 H0 F2 H2 σ ρ O g → Rep c F2 (.exv n fs) v → Q v H2) : kExv Q (.ref (c.ca n)) (some dx) (upd H1 dx (.xd vs)) := by
  refine ⟨vs, upd_same, fun a od ha => ?_⟩
  rw [upd_upd]
  have ne : a ≠ dx := fun z => by rw [z, upd_same] at ha; cases ha
  rw [upd_ne ne] at ha
  have P := gp_new (o := .frz od (.xd vs)) S1.ex hdx
  have S2 := S1.pure P
  have ha2 : upd H1 dx (.frz od (.xd vs)) a = none := by rw [upd_ne ne]; exact ha
  have P2 := gp_new (o := ExV (.ref (c.ca n)) (some dx) a) S2.ex ha2
  exact p (.ref a) _ _ (P.gr.trans P2.gr) (S2.pure P2) ⟨a, some dx, vs, rfl, upd_same, .inr ⟨dx, od, rfl, by rw [upd_ne (Ne.symm ne), upd_same]⟩, RepF.mono (P.ex.trans P2.ex) _ _ hr⟩
theorem snd_mk1 {tr : TA} {ar : SA} (T : OexC c.K (c.ca n)) (hf : PySem.W.findIn c.K (.ref (c.ca n)) f = some none) (h : SndA c O W tr ar) :
    SndE c O W (fun σ H Q => tMkO (c.ca n) (spX1 c.K (c.ca n) f) [] tr σ H (kExv Q)) (eArgs (pf (fMk1 n f)) ar) := fun F0 H0 F H σ ρ g o g' S q Q p => by
  refine h.bind S q p fun ds g1 vs F1 H1 q1 G1 S1 rs => ?_
  unfold pf at q1
  cases z : fMk1 n f ds with
  | none => rw [z] at q1; cases q1
  | some y =>
    rw [z] at q1
    cases q1
    unfold fMk1 at z
    split at z
    · rename_i d
      cases z
      obtain ⟨v, r, rfl, hv, hr⟩ := rs
      cases hr
      refine ⟨by show 1 ≤ 1000; decide, fun l hl => ⟨l, v, rfl, T, hf, upd_same, fun dx h1 h2 => ⟨rfl, dx, [(f, v)], upd_same, by rw [upd_ne h2, upd_same], ?_, ?_⟩⟩⟩
      · rw [upd_ne h2] at h1
        exact h1
      · rw [made_heap hl h2]
        have hdx : H1 dx = none := by rw [upd_ne h2] at h1; exact h1
        exact exv_new (fs := [(f, d)]) S1 hdx ⟨v, [], rfl, hv, rfl⟩ fun v F2 H2 G2 S2 r2 => p v F2 H2 (G1.trans G2) S2 r2
    · cases z
theorem snd_mk2 {tr : TA} {ar : SA} (T : OexC c.K (c.ca n)) (hf : PySem.W.findIn c.K (.ref (c.ca n)) f = some none) (hf2 : PySem.W.findIn c.K (.ref (c.ca n)) f2 = some none) (h : SndA c O W tr ar) :
    SndE c O W (fun σ H Q => tMkO (c.ca n) (spX2 c.K (c.ca n) f f2) [] tr σ H (kExv Q)) (eArgs (pf (fMk2 n f f2)) ar) := fun F0 H0 F H σ ρ g o g' S q Q p => by
  refine h.bind S q p fun ds g1 vs F1 H1 q1 G1 S1 rs => ?_
  unfold pf at q1
  cases z : fMk2 n f f2 ds with
  | none => rw [z] at q1; cases q1
  | some y =>
    rw [z] at q1
    cases q1
    unfold fMk2 at z
    split at z
    · rename_i d e2
      cases z
      obtain ⟨v, r, rfl, hv, u, r2, rfl, hu, hr⟩ := rs
      cases hr
      refine ⟨by show 2 ≤ 1000; decide, fun l hl => ⟨l, v, u, rfl, T, hf, hf2, upd_same, fun dx h1 h2 => ⟨rfl, dx, [(f2, u), (f, v)], by rw [upd_ne (Ne.symm h2), upd_same], upd_same, ?_, ?_⟩⟩⟩
      · rw [upd_ne h2] at h1
        exact h1
      · rw [made_heap2 hl h2]
        have hdx : H1 dx = none := by rw [upd_ne h2] at h1; exact h1
        exact exv_new (fs := [(f2, e2), (f, d)]) S1 hdx ⟨u, _, rfl, hu, v, [], rfl, hv, rfl⟩ fun v F2 H2 G2 S2 r2 => p v F2 H2 (G1.trans G2) S2 r2
    · cases z
theorem snd_xv {exl : List (Str × List Str)} {own : List Str} {l : Isi} {eml : Eml} {xfl : List Str} {T : Tg} (hx : exAll2 exl own l eml xfl c.K = true) (hca : c.ca = He.ga c.K) (h : SndE c O W ta a) :
    SndE c O W (tCB (rXv c.K) (tCons ta (tCons (tC (T.v c.K)) tNil))) (eUn (fXv xfl l T) a) := fun F0 H0 F H σ ρ g o g' S q Q p => by
  refine h.bind S q p fun x g1 vx F1 H1 q1 G1 S1 rx => ?_
  cases z : fXv xfl l T x with
  | none => simp only [z] at q1; cases q1
  | some y =>
    simp only [z] at q1
    cases q1
    unfold fXv at z
    split at z
    · rename_i n fs
      split at z
      · rename_i hc
        cases zl : l.lookup (.own n, T) with
        | none => rw [zl] at z; cases z
        | some b =>
          rw [zl] at z
          cases z
          obtain ⟨ad, dd, vs, rfl, k1, k2, k3⟩ := rx
          have k := isi_kit (exAll_isi (exAll2_a hx)) zl
          have hd : dd = none ∨ ∃ d od fs, dd = some d ∧ H1 d = some (.frz od (.xd fs)) := by
            rcases k2 with k2 | ⟨d, od, e1, e2⟩
            · exact .inl k2.2
            · exact .inr ⟨d, od, vs, e1, S1.ex _ _ e2⟩
          exact ⟨ad, T.v c.K, T.u c.K, b, He.ga c.K n, dd, rfl, T.cls c.K, by rw [← hca]; exact S1.ex _ _ k1, exAll2_xi hx hc, hd, k, p _ F1 H1 G1 S1 rfl⟩
      · cases z
    · cases z
theorem snd_xa {exl : List (Str × List Str)} {own : List Str} {l : Isi} {eml : Eml} {xfl : List Str} (hx : exAll2 exl own l eml xfl c.K = true) (hca : c.ca = He.ga c.K) (h : SndE c O W ta a) :
    SndE c O W (tXv c.K f ta) (eUn (fXa xfl exl f) a) := fun F0 H0 F H σ ρ g o g' S q Q p => by
  refine h.bind S q p fun x g1 vx F1 H1 q1 G1 S1 rx => ?_
  cases z : fXa xfl exl f x with
  | none => simp only [z] at q1; cases q1
  | some y =>
    simp only [z] at q1
    cases q1
    unfold fXa at z
    split at z
    · rename_i n fs
      split at z
      · rename_i hc
        obtain ⟨hc1, hc2⟩ := Bool.and_eq_true_iff.mp hc
        obtain ⟨⟨n', fl⟩, hm, hn⟩ := List.any_eq_true.mp hc2
        obtain ⟨hn1, hn2⟩ := Bool.and_eq_true_iff.mp hn
        have hn1 : n' = n := eq_of_beq hn1
        subst hn1
        obtain ⟨i, hi⟩ := List.getElem?_of_mem hm
        have ox := (oexAll_ok (exAll_oex (exAll2_a hx)) i hi).2.2.2 f (by simpa using hn2)
        obtain ⟨ad, dd, vs, rfl, k1, k2, k3⟩ := rx
        obtain ⟨v, e1, e2⟩ := k3.look z
        rcases k2 with ⟨k2, _⟩ | ⟨d, od, ed, k2⟩
        · subst k2; cases z
        · subst ed
          exact ⟨ad, He.ga c.K n', d, od, vs, v, rfl, by rw [← hca]; exact S1.ex _ _ k1, exAll2_xf hx hc1, ox, S1.ex _ _ k2, e1, p v F1 H1 G1 S1 e2⟩
      · cases z
    · cases z
end
end MP

set_option maxRecDepth 100000
set_option maxHeartbeats 4000000
namespace MP
open PySem L2
/-! ### what a reading gives, said from its end, whatever comes of it -/
def rP {α : Type} (x : Option (α × G)) (Q : α → G → Prop) : Prop := match x with
  | some (o, g) => Q o g
  | none => False
/-! What comes behind is a word with its parts, never a function written out: so nothing is run ahead of its time. -/
abbrev QE := Out → G → Prop
abbrev QAr := OutA → G → Prop
abbrev QSt := SOut → G → Prop
/-- a result that is there -/
def so {α : Type} (x : Option α) (k : α → Prop) : Prop := match x with
  | some z => k z
  | none => False
/-- one of two, by a yes or no -/
def cIf {α : Type} (y : Bool) (a b : Env → G → Option (α × G)) (ρ : Env) (g : G) (Q : α → G → Prop) : Prop := if y = true then rP (a ρ g) Q else rP (b ρ g) Q
def cS (Q : QE) (g : G) (d : D) : Prop := Q (.ok d) g
def cSb (Q : QE) (g : G) (b : Bool) : Prop := Q (.ok (.bl b)) g
def cSs (Q : QE) (g : G) : Option D → Prop
  | some d => Q (.ok d) g
  | none => False
def cSA (Q : QAr) (g : G) (ds : List D) : Prop := Q (.ok ds) g
def cSAr (Q : QAr) (g : G) (ds : List D) : Prop := Q (.ok ds.reverse) g
def cSN (Q : QSt) (g : G) (ρ : Env) : Prop := Q (.nx ρ) g
def cOp2 (f : D → D → Option D) (x : D) (Q : QE) : QE
  | .ok y, g => so (f x y) (cS Q g)
  | .exc n fs, g => Q (.exc n fs) g
def cOp (f : D → D → Option D) (b : SE) (ρ : Env) (Q : QE) : QE
  | .ok x, g => rP (b ρ g) (cOp2 f x Q)
  | .exc n fs, g => Q (.exc n fs) g
def cUn (f : D → Option D) (Q : QE) : QE
  | .ok x, g => so (f x) (cS Q g)
  | .exc n fs, g => Q (.exc n fs) g
def cOnly (Q : QE) : QE
  | .ok (.bl b), g => Q (.ok (.bl b)) g
  | .ok _, _ => False
  | .exc n fs, g => Q (.exc n fs) g
def cNot (Q : QE) : QE
  | .ok (.bl b), g => Q (.ok (.bl (!b))) g
  | .ok _, _ => False
  | .exc n fs, g => Q (.exc n fs) g
def cTru (Q : QE) : QE
  | .ok x, g => so (truth x) (cSb Q g)
  | .exc n fs, g => Q (.exc n fs) g
def cIfE (a b : SE) (ρ : Env) (Q : QE) : QE
  | .ok (.bl y), g => cIf y a b ρ g Q
  | .ok _, _ => False
  | .exc n fs, g => Q (.exc n fs) g
def cCh3 (h : D → D → Option D) (y : D) (c : SE) (ρ : Env) (Q : QE) (g : G) : D → Prop
  | .bl v => cIf v (eOp h (eC y) c) (eC (.bl false)) ρ g Q
  | _ => False
def cCh2 (f h : D → D → Option D) (x : D) (c : SE) (ρ : Env) (Q : QE) : QE
  | .ok y, g => so (f x y) (cCh3 h y c ρ Q g)
  | .exc n fs, g => Q (.exc n fs) g
def cCh (f h : D → D → Option D) (b c : SE) (ρ : Env) (Q : QE) : QE
  | .ok x, g => rP (b ρ g) (cCh2 f h x c ρ Q)
  | .exc n fs, g => Q (.exc n fs) g
def cCons2 (x : D) (Q : QAr) : QAr
  | .ok xs, g => Q (.ok (x :: xs)) g
  | .exc n fs, g => Q (.exc n fs) g
def cCons (r : SA) (ρ : Env) (Q : QAr) : QE
  | .ok x, g => rP (r ρ g) (cCons2 x Q)
  | .exc n fs, g => Q (.exc n fs) g
def cArgs (f : List D → G → R) (Q : QE) : QAr
  | .ok ds, g => rP (f ds g) Q
  | .exc n fs, g => Q (.exc n fs) g
def cCall (m : FM) (dd : List D) (Q : QE) : QAr
  | .ok ds, g => rP (m (ds ++ dd) g) Q
  | .exc n fs, g => Q (.exc n fs) g
def cPart (Q : QE) : QE
  | .ok x, g => isPart x = true ∧ Q (.ok x) g
  | .exc n fs, g => Q (.exc n fs) g
def cSl5 (f : Option Int → Option Int → D → Option D) (x : D) (l : Option Int) (Q : QE) (g : G) (h : Option Int) : Prop := so (f l h x) (cS Q g)
def cSl4 (f : Option Int → Option Int → D → Option D) (x h : D) (Q : QE) (g : G) (l : Option Int) : Prop := so (partOf h) (cSl5 f x l Q g)
def cSl3 (f : Option Int → Option Int → D → Option D) (x l : D) (Q : QE) : QE
  | .ok h, g => so (partOf l) (cSl4 f x h Q g)
  | .exc n fs, g => Q (.exc n fs) g
def cSl2 (f : Option Int → Option Int → D → Option D) (x : D) (c : SE) (ρ : Env) (Q : QE) : QE
  | .ok l, g => rP (c ρ g) (cSl3 f x l Q)
  | .exc n fs, g => Q (.exc n fs) g
def cSl (f : Option Int → Option Int → D → Option D) (b c : SE) (ρ : Env) (Q : QE) : QE
  | .ok x, g => rP (b ρ g) (cSl2 f x c ρ Q)
  | .exc n fs, g => Q (.exc n fs) g
def cItems (Q : QAr) : QE
  | .ok x, g => so (itemsI x) (cSA Q g)
  | .exc n fs, g => Q (.exc n fs) g
def cVia (f : List D → Option (List D)) (Q : QAr) : QAr
  | .ok ds, g => so (f ds) (cSA Q g)
  | .exc n fs, g => Q (.exc n fs) g
def cRev (Q : QAr) : QE
  | .ok x, g => so (items x) (cSAr Q g)
  | .exc n fs, g => Q (.exc n fs) g
def cPure (Q : QE) (g : G) : QE
  | .ok d, _ => noL d = true ∧ Q (.ok d) g
  | .exc n fs, _ => noLf fs = true ∧ Q (.exc n fs) g
def cSeq (s2 : SS) (Q : QSt) : QSt
  | .nx ρ, g => rP (s2 ρ g) Q
  | .ret d, g => Q (.ret d) g
  | .brk ρ, g => Q (.brk ρ) g
  | .cnt ρ, g => Q (.cnt ρ) g
  | .exc n fs ρ, g => Q (.exc n fs ρ) g
def cSet (i : Nat) (ρ : Env) (Q : QSt) : QE
  | .ok d, g => Q (.nx (ρ.set i (some d))) g
  | .exc n fs, g => Q (.exc n fs ρ) g
def cAsg2 (i j : Nat) (ρ : Env) (Q : QSt) : QE
  | .ok d, g => Q (.nx ((ρ.set i (some d)).set j (some d))) g
  | .exc n fs, g => Q (.exc n fs ρ) g
def cUnp (f : ST) (ρ : Env) (Q : QSt) : QE
  | .ok d, g => so (f d ρ) (cSN Q g)
  | .exc n fs, g => Q (.exc n fs ρ) g
def cRet (ρ : Env) (Q : QSt) : QE
  | .ok d, g => Q (.ret d) g
  | .exc n fs, g => Q (.exc n fs ρ) g
def cDrop (ρ : Env) (Q : QSt) : QE
  | .ok _, g => Q (.nx ρ) g
  | .exc n fs, g => Q (.exc n fs ρ) g
def cIfS (s1 s2 : SS) (ρ : Env) (Q : QSt) : QE
  | .ok (.bl y), g => cIf y s1 s2 ρ g Q
  | .ok _, _ => False
  | .exc n fs, g => Q (.exc n fs ρ) g
def cApp2 (i : Nat) (ds : List D) (ρ : Env) (Q : QSt) : QE
  | .ok d, g => szB (ds.length + 1) = true ∧ Q (.nx (ρ.set i (some (.lst (ds ++ [d]))))) g
  | .exc n fs, g => Q (.exc n fs ρ) g
def cApp (i : Nat) (e : SE) (ρ : Env) (Q : QSt) (g : G) : Option D → Prop
  | some (.lst ds) => rP (e ρ g) (cApp2 i ds ρ Q)
  | _ => False
def cSetIx3 (i : Nat) (ds : List D) (d : D) (ρ : Env) (Q : QSt) (g : G) (j : Nat) : Prop := Q (.nx (ρ.set i (some (.lst (ds.set j d))))) g
def cSetIx2 (i : Nat) (ds : List D) (d : D) (ρ : Env) (Q : QSt) : QE
  | .ok (.int k), g => so (ixN ds.length k) (cSetIx3 i ds d ρ Q g)
  | .ok _, _ => False
  | .exc n fs, g => Q (.exc n fs ρ) g
def cSetIx1 (i : Nat) (a : SE) (ds : List D) (ρ : Env) (Q : QSt) : QE
  | .ok d, g => rP (a ρ g) (cSetIx2 i ds d ρ Q)
  | .exc n fs, g => Q (.exc n fs ρ) g
def cSetIx (i : Nat) (a e : SE) (ρ : Env) (Q : QSt) (g : G) : Option D → Prop
  | some (.lst ds) => rP (e ρ g) (cSetIx1 i a ds ρ Q)
  | _ => False
def cAug2 (i : Nat) (f : Int → Int → Int) (x : Int) (ρ : Env) (Q : QSt) : QE
  | .ok (.int y), g => Q (.nx (ρ.set i (some (.int (f x y))))) g
  | .ok _, _ => False
  | .exc n fs, g => Q (.exc n fs ρ) g
def cAug (i : Nat) (f : Int → Int → Int) (e : SE) (ρ : Env) (Q : QSt) (g : G) : Option D → Prop
  | some (.int x) => rP (e ρ g) (cAug2 i f x ρ Q)
  | _ => False
def cPar (i j : Nat) (ρ : Env) (Q : QSt) : QAr
  | .ok [x, y], g => Q (.nx ((ρ.set i (some x)).set j (some y))) g
  | .ok _, _ => False
  | .exc n fs, g => Q (.exc n fs ρ) g
def cRaise1 (n f : Str) (ρ : Env) (Q : QSt) : QAr
  | .ok [d], g => Q (.exc n [(f, d)] ρ) g
  | .ok _, _ => False
  | .exc n fs, g => Q (.exc n fs ρ) g
def cHset2 (ρ : Env) (d : D) (Q : QSt) (g : G) (k : Nat) : Prop := Q (.nx ρ) (g.set k d)
def cHset (j : Int) (ρ : Env) (Q : QSt) : QE
  | .ok d, g => so (ixN g.length j) (cHset2 ρ d Q g)
  | .exc n fs, g => Q (.exc n fs ρ) g
/-- a def's end -/
def kF (Q : QE) : QSt
  | .nx _, g => Q (.ok .non) g
  | .ret d, g => Q (.ok d) g
  | .exc n fs _, g => Q (.exc n fs) g
  | _, _ => False
/-- a try's end -/
def kT (em : Str → Str → Option Bool) (hd : List (Str × Option Nat × SuD)) (Q : QSt) : QSt
  | .exc n fs ρ, g => rP (tryGo em n fs ρ g hd) Q
  | .nx ρ, g => Q (.nx ρ) g
  | .ret d, g => Q (.ret d) g
  | .brk ρ, g => Q (.brk ρ) g
  | .cnt ρ, g => Q (.cnt ρ) g
/-- a loop's turn -/
def kFor (I : Nat → Env → G → Prop) (k : Nat) : QSt
  | .nx ρ, g => I (k + 1) ρ g
  | .cnt ρ, g => I (k + 1) ρ g
  | _, _ => False
def kForR (I : Nat → Env → G → Prop) (k : Nat) (Q : QSt) : QSt
  | .nx ρ, g => I (k + 1) ρ g
  | .cnt ρ, g => I (k + 1) ρ g
  | .brk ρ, g => Q (.nx ρ) g
  | .ret d, g => Q (.ret d) g
  | .exc n fs ρ, g => Q (.exc n fs ρ) g
/-- behind an iterator: what is gone through -/
def kIt (ρ : Env) (k : List D → G → Prop) (Q : QSt) : QAr
  | .ok ds, g => k ds g
  | .exc n fs, g => Q (.exc n fs ρ) g
def kItE (k : List D → G → Prop) (Q : QE) : QAr
  | .ok ds, g => k ds g
  | .exc n fs, g => Q (.exc n fs) g
section
variable {e a b c t : SE} {r : SA} {ρ : Env} {g : G} {Q : QE} {QA : QAr} {QS : QSt} {s s1 s2 : SS} {kl : List D → G → Prop} {d x y : D} {n : Str} {fs : List (Str × D)} {f h : D → D → Option D}
theorem rP_some {α : Type} {o : α} {Q : α → G → Prop} : rP (some (o, g)) Q = Q o g := rfl
theorem rP_eq {α : Type} {x : Option (α × G)} {o : α} : rP x (fun o' g' => o' = o ∧ g' = g) ↔ x = some (o, g) := by
  unfold rP
  cases x with
  | none => simp
  | some y => obtain ⟨o', g'⟩ := y; simp
theorem rP_mono {α : Type} {x : Option (α × G)} {Q R : α → G → Prop} (h : rP x Q) (k : ∀ o g', Q o g' → R o g') : rP x R := by
  unfold rP at h ⊢
  cases x with
  | none => exact h
  | some y => exact k _ _ h
theorem rP_get {α : Type} {x : Option (α × G)} {Q : α → G → Prop} (h : rP x Q) : ∃ o g', x = some (o, g') ∧ Q o g' := by
  cases x with
  | none => exact h.elim
  | some y => exact ⟨y.1, y.2, rfl, h⟩
theorem so_some {α : Type} {z : α} {k : α → Prop} : so (some z) k = k z := rfl
theorem so_none {α : Type} {k : α → Prop} : so none k = False := rfl
theorem cIf_tt {α : Type} {a b : Env → G → Option (α × G)} {Q : α → G → Prop} : cIf true a b ρ g Q = rP (a ρ g) Q := rfl
theorem cIf_ff {α : Type} {a b : Env → G → Option (α × G)} {Q : α → G → Prop} : cIf false a b ρ g Q = rP (b ρ g) Q := rfl
theorem cIf_by {α : Type} {y : Bool} {a b : Env → G → Option (α × G)} {Q : α → G → Prop} (ht : y = true → rP (a ρ g) Q) (hf : y = false → rP (b ρ g) Q) : cIf y a b ρ g Q := by
  cases y with
  | true => exact ht rfl
  | false => exact hf rfl
theorem cS_ : cS Q g d = Q (.ok d) g := rfl
theorem cSb_ {v : Bool} : cSb Q g v = Q (.ok (.bl v)) g := rfl
theorem cSs_ : cSs Q g (some d) = Q (.ok d) g := rfl
theorem cSA_ {ds : List D} : cSA QA g ds = QA (.ok ds) g := rfl
theorem cSAr_ {ds : List D} : cSAr QA g ds = QA (.ok ds.reverse) g := rfl
theorem cSN_ : cSN QS g ρ = QS (.nx ρ) g := rfl
theorem cOp2_ : cOp2 f x Q (.ok y) g = so (f x y) (cS Q g) := rfl
theorem cOp2_x : cOp2 f x Q (.exc n fs) g = Q (.exc n fs) g := rfl
theorem cOp_ : cOp f b ρ Q (.ok x) g = rP (b ρ g) (cOp2 f x Q) := rfl
theorem cOp_x : cOp f b ρ Q (.exc n fs) g = Q (.exc n fs) g := rfl
theorem cUn_ {f : D → Option D} : cUn f Q (.ok x) g = so (f x) (cS Q g) := rfl
theorem cUn_x {f : D → Option D} : cUn f Q (.exc n fs) g = Q (.exc n fs) g := rfl
theorem cOnly_ {v : Bool} : cOnly Q (.ok (.bl v)) g = Q (.ok (.bl v)) g := rfl
theorem cOnly_x : cOnly Q (.exc n fs) g = Q (.exc n fs) g := rfl
theorem cNot_ {v : Bool} : cNot Q (.ok (.bl v)) g = Q (.ok (.bl (!v))) g := rfl
theorem cNot_x : cNot Q (.exc n fs) g = Q (.exc n fs) g := rfl
theorem cTru_ : cTru Q (.ok x) g = so (truth x) (cSb Q g) := rfl
theorem cTru_x : cTru Q (.exc n fs) g = Q (.exc n fs) g := rfl
theorem cIfE_ {v : Bool} : cIfE a b ρ Q (.ok (.bl v)) g = cIf v a b ρ g Q := rfl
theorem cIfE_x : cIfE a b ρ Q (.exc n fs) g = Q (.exc n fs) g := rfl
theorem cCh3_ {v : Bool} : cCh3 h y c ρ Q g (.bl v) = cIf v (eOp h (eC y) c) (eC (.bl false)) ρ g Q := rfl
theorem cCh2_ : cCh2 f h x c ρ Q (.ok y) g = so (f x y) (cCh3 h y c ρ Q g) := rfl
theorem cCh2_x : cCh2 f h x c ρ Q (.exc n fs) g = Q (.exc n fs) g := rfl
theorem cCh_ : cCh f h b c ρ Q (.ok x) g = rP (b ρ g) (cCh2 f h x c ρ Q) := rfl
theorem cCh_x : cCh f h b c ρ Q (.exc n fs) g = Q (.exc n fs) g := rfl
theorem cCons2_ {ds : List D} : cCons2 x QA (.ok ds) g = QA (.ok (x :: ds)) g := rfl
theorem cCons2_x : cCons2 x QA (.exc n fs) g = QA (.exc n fs) g := rfl
theorem cCons_ : cCons r ρ QA (.ok x) g = rP (r ρ g) (cCons2 x QA) := rfl
theorem cCons_x : cCons r ρ QA (.exc n fs) g = QA (.exc n fs) g := rfl
theorem cArgs_ {f : List D → G → R} {ds : List D} : cArgs f Q (.ok ds) g = rP (f ds g) Q := rfl
theorem cArgs_x {f : List D → G → R} : cArgs f Q (.exc n fs) g = Q (.exc n fs) g := rfl
theorem cCall_ {m : FM} {dd ds : List D} : cCall m dd Q (.ok ds) g = rP (m (ds ++ dd) g) Q := rfl
theorem cCall_x {m : FM} {dd : List D} : cCall m dd Q (.exc n fs) g = Q (.exc n fs) g := rfl
theorem cPart_ : cPart Q (.ok x) g = (isPart x = true ∧ Q (.ok x) g) := rfl
theorem cPart_x : cPart Q (.exc n fs) g = Q (.exc n fs) g := rfl
theorem cSl5_ {f : Option Int → Option Int → D → Option D} {l h : Option Int} : cSl5 f x l Q g h = so (f l h x) (cS Q g) := rfl
theorem cSl4_ {f : Option Int → Option Int → D → Option D} {l : Option Int} {h : D} : cSl4 f x h Q g l = so (partOf h) (cSl5 f x l Q g) := rfl
theorem cSl3_ {f : Option Int → Option Int → D → Option D} {l h : D} : cSl3 f x l Q (.ok h) g = so (partOf l) (cSl4 f x h Q g) := rfl
theorem cSl3_x {f : Option Int → Option Int → D → Option D} {l : D} : cSl3 f x l Q (.exc n fs) g = Q (.exc n fs) g := rfl
theorem cSl2_ {f : Option Int → Option Int → D → Option D} {l : D} : cSl2 f x c ρ Q (.ok l) g = rP (c ρ g) (cSl3 f x l Q) := rfl
theorem cSl2_x {f : Option Int → Option Int → D → Option D} : cSl2 f x c ρ Q (.exc n fs) g = Q (.exc n fs) g := rfl
theorem cSl_ {f : Option Int → Option Int → D → Option D} : cSl f b c ρ Q (.ok x) g = rP (b ρ g) (cSl2 f x c ρ Q) := rfl
theorem cSl_x {f : Option Int → Option Int → D → Option D} : cSl f b c ρ Q (.exc n fs) g = Q (.exc n fs) g := rfl
theorem cItems_ : cItems QA (.ok x) g = so (itemsI x) (cSA QA g) := rfl
theorem cItems_x : cItems QA (.exc n fs) g = QA (.exc n fs) g := rfl
theorem cVia_ {f : List D → Option (List D)} {ds : List D} : cVia f QA (.ok ds) g = so (f ds) (cSA QA g) := rfl
theorem cVia_x {f : List D → Option (List D)} : cVia f QA (.exc n fs) g = QA (.exc n fs) g := rfl
theorem cRev_ : cRev QA (.ok x) g = so (items x) (cSAr QA g) := rfl
theorem cRev_x : cRev QA (.exc n fs) g = QA (.exc n fs) g := rfl
theorem cPure_ {g2 : G} : cPure Q g (.ok x) g2 = (noL x = true ∧ Q (.ok x) g) := rfl
theorem cPure_x {g2 : G} : cPure Q g (.exc n fs) g2 = (noLf fs = true ∧ Q (.exc n fs) g) := rfl
theorem cSeq_ : cSeq s QS (.nx ρ) g = rP (s ρ g) QS := rfl
theorem cSeq_r : cSeq s QS (.ret d) g = QS (.ret d) g := rfl
theorem cSeq_b : cSeq s QS (.brk ρ) g = QS (.brk ρ) g := rfl
theorem cSeq_c : cSeq s QS (.cnt ρ) g = QS (.cnt ρ) g := rfl
theorem cSeq_x : cSeq s QS (.exc n fs ρ) g = QS (.exc n fs ρ) g := rfl
theorem cSet_ {i : Nat} : cSet i ρ QS (.ok d) g = QS (.nx (ρ.set i (some d))) g := rfl
theorem cSet_x {i : Nat} : cSet i ρ QS (.exc n fs) g = QS (.exc n fs ρ) g := rfl
theorem cAsg2_ {i j : Nat} : cAsg2 i j ρ QS (.ok d) g = QS (.nx ((ρ.set i (some d)).set j (some d))) g := rfl
theorem cAsg2_x {i j : Nat} : cAsg2 i j ρ QS (.exc n fs) g = QS (.exc n fs ρ) g := rfl
theorem cUnp_ {f : ST} : cUnp f ρ QS (.ok d) g = so (f d ρ) (cSN QS g) := rfl
theorem cUnp_x {f : ST} : cUnp f ρ QS (.exc n fs) g = QS (.exc n fs ρ) g := rfl
theorem cRet_ : cRet ρ QS (.ok d) g = QS (.ret d) g := rfl
theorem cRet_x : cRet ρ QS (.exc n fs) g = QS (.exc n fs ρ) g := rfl
theorem cDrop_ : cDrop ρ QS (.ok d) g = QS (.nx ρ) g := rfl
theorem cDrop_x : cDrop ρ QS (.exc n fs) g = QS (.exc n fs ρ) g := rfl
theorem cIfS_ {v : Bool} : cIfS s1 s2 ρ QS (.ok (.bl v)) g = cIf v s1 s2 ρ g QS := rfl
theorem cIfS_x : cIfS s1 s2 ρ QS (.exc n fs) g = QS (.exc n fs ρ) g := rfl
theorem cApp2_ {i : Nat} {ds : List D} : cApp2 i ds ρ QS (.ok d) g = (szB (ds.length + 1) = true ∧ QS (.nx (ρ.set i (some (.lst (ds ++ [d]))))) g) := rfl
theorem cApp2_x {i : Nat} {ds : List D} : cApp2 i ds ρ QS (.exc n fs) g = QS (.exc n fs ρ) g := rfl
theorem cApp_ {i : Nat} {ds : List D} : cApp i e ρ QS g (some (.lst ds)) = rP (e ρ g) (cApp2 i ds ρ QS) := rfl
theorem cSetIx3_ {i j : Nat} {ds : List D} : cSetIx3 i ds d ρ QS g j = QS (.nx (ρ.set i (some (.lst (ds.set j d))))) g := rfl
theorem cSetIx2_ {i : Nat} {k : Int} {ds : List D} : cSetIx2 i ds d ρ QS (.ok (.int k)) g = so (ixN ds.length k) (cSetIx3 i ds d ρ QS g) := rfl
theorem cSetIx2_x {i : Nat} {ds : List D} : cSetIx2 i ds d ρ QS (.exc n fs) g = QS (.exc n fs ρ) g := rfl
theorem cSetIx1_ {i : Nat} {ds : List D} : cSetIx1 i a ds ρ QS (.ok d) g = rP (a ρ g) (cSetIx2 i ds d ρ QS) := rfl
theorem cSetIx1_x {i : Nat} {ds : List D} : cSetIx1 i a ds ρ QS (.exc n fs) g = QS (.exc n fs ρ) g := rfl
theorem cSetIx_ {i : Nat} {ds : List D} : cSetIx i a e ρ QS g (some (.lst ds)) = rP (e ρ g) (cSetIx1 i a ds ρ QS) := rfl
theorem cAug2_ {i : Nat} {f : Int → Int → Int} {x y : Int} : cAug2 i f x ρ QS (.ok (.int y)) g = QS (.nx (ρ.set i (some (.int (f x y))))) g := rfl
theorem cAug_ {i : Nat} {f : Int → Int → Int} {x : Int} : cAug i f e ρ QS g (some (.int x)) = rP (e ρ g) (cAug2 i f x ρ QS) := rfl
theorem cPar_ {i j : Nat} : cPar i j ρ QS (.ok [x, y]) g = QS (.nx ((ρ.set i (some x)).set j (some y))) g := rfl
theorem cPar_x {i j : Nat} : cPar i j ρ QS (.exc n fs) g = QS (.exc n fs ρ) g := rfl
theorem cRaise1_ {m f : Str} : cRaise1 m f ρ QS (.ok [d]) g = QS (.exc m [(f, d)] ρ) g := rfl
theorem cRaise1_x {m f : Str} : cRaise1 m f ρ QS (.exc n fs) g = QS (.exc n fs ρ) g := rfl
theorem cHset2_ {k : Nat} : cHset2 ρ d QS g k = QS (.nx ρ) (g.set k d) := rfl
theorem cHset_ {j : Int} : cHset j ρ QS (.ok d) g = so (ixN g.length j) (cHset2 ρ d QS g) := rfl
theorem cHset_x {j : Int} : cHset j ρ QS (.exc n fs) g = QS (.exc n fs ρ) g := rfl
theorem kF_nx : kF Q (.nx ρ) g = Q (.ok .non) g := rfl
theorem kF_ret : kF Q (.ret d) g = Q (.ok d) g := rfl
theorem kF_x : kF Q (.exc n fs ρ) g = Q (.exc n fs) g := rfl
theorem kT_nx {em : Str → Str → Option Bool} {hd : List (Str × Option Nat × SuD)} : kT em hd QS (.nx ρ) g = QS (.nx ρ) g := rfl
theorem kT_ret {em : Str → Str → Option Bool} {hd : List (Str × Option Nat × SuD)} : kT em hd QS (.ret d) g = QS (.ret d) g := rfl
theorem kT_brk {em : Str → Str → Option Bool} {hd : List (Str × Option Nat × SuD)} : kT em hd QS (.brk ρ) g = QS (.brk ρ) g := rfl
theorem kT_cnt {em : Str → Str → Option Bool} {hd : List (Str × Option Nat × SuD)} : kT em hd QS (.cnt ρ) g = QS (.cnt ρ) g := rfl
theorem kT_x {em : Str → Str → Option Bool} {hd : List (Str × Option Nat × SuD)} : kT em hd QS (.exc n fs ρ) g = rP (tryGo em n fs ρ g hd) QS := rfl
theorem kFor_nx {I : Nat → Env → G → Prop} {k : Nat} : kFor I k (.nx ρ) g = I (k + 1) ρ g := rfl
theorem kFor_cnt {I : Nat → Env → G → Prop} {k : Nat} : kFor I k (.cnt ρ) g = I (k + 1) ρ g := rfl
theorem kForR_nx {I : Nat → Env → G → Prop} {k : Nat} : kForR I k QS (.nx ρ) g = I (k + 1) ρ g := rfl
theorem kForR_cnt {I : Nat → Env → G → Prop} {k : Nat} : kForR I k QS (.cnt ρ) g = I (k + 1) ρ g := rfl
theorem kForR_brk {I : Nat → Env → G → Prop} {k : Nat} : kForR I k QS (.brk ρ) g = QS (.nx ρ) g := rfl
theorem kForR_ret {I : Nat → Env → G → Prop} {k : Nat} : kForR I k QS (.ret d) g = QS (.ret d) g := rfl
theorem kForR_x {I : Nat → Env → G → Prop} {k : Nat} : kForR I k QS (.exc n fs ρ) g = QS (.exc n fs ρ) g := rfl
theorem kIt_ {ds : List D} : kIt ρ kl QS (.ok ds) g = kl ds g := rfl
theorem kIt_x : kIt ρ kl QS (.exc n fs) g = QS (.exc n fs ρ) g := rfl
theorem kItE_ {ds : List D} : kItE kl Q (.ok ds) g = kl ds g := rfl
theorem kItE_x : kItE kl Q (.exc n fs) g = Q (.exc n fs) g := rfl
/-! values -/
theorem rE_var {i : Nat} : rP (eVar i ρ g) Q = so (ρ[i]?) (cSs Q g) := by
  unfold eVar
  cases ρ[i]? with
  | none => rfl
  | some x => cases x <;> rfl
theorem rE_c : rP (eC d ρ g) Q = Q (.ok d) g := rfl
theorem bind_eq {F : D → D → Option D} {z : D} {g2 : G} : rP (match F x z with | some w => some (Out.ok w, g2) | none => none) Q = so (F x z) (cS Q g2) := by cases F x z <;> rfl
theorem bind_eq1 {F : D → Option D} {g2 : G} : rP (match F x with | some w => some (Out.ok w, g2) | none => none) Q = so (F x) (cS Q g2) := by cases F x <;> rfl
theorem rE_op : rP (eOp f a b ρ g) Q = rP (a ρ g) (cOp f b ρ Q) := by
  unfold eOp
  cases a ρ g with
  | none => rfl
  | some y =>
    obtain ⟨o, g1⟩ := y
    cases o with
    | exc n fs => rfl
    | ok x =>
      show rP (bE (b ρ g1) _) Q = rP (b ρ g1) _
      cases b ρ g1 with
      | none => rfl
      | some y =>
        obtain ⟨o, g2⟩ := y
        cases o with
        | exc n fs => rfl
        | ok y => exact bind_eq
theorem rE_un {f : D → Option D} : rP (eUn f a ρ g) Q = rP (a ρ g) (cUn f Q) := by
  unfold eUn
  cases a ρ g with
  | none => rfl
  | some y =>
    obtain ⟨o, g1⟩ := y
    cases o with
    | exc n fs => rfl
    | ok x => exact bind_eq1
theorem rE_only : rP (onlyB a ρ g) Q = rP (a ρ g) (cOnly Q) := by
  unfold onlyB
  cases a ρ g with
  | none => rfl
  | some y =>
    obtain ⟨o, g1⟩ := y
    cases o with
    | exc n fs => rfl
    | ok x => cases x <;> first | rfl | (rename_i b; cases b <;> rfl)
theorem rE_not : rP (eNot a ρ g) Q = rP (a ρ g) (cNot Q) := by
  unfold eNot
  cases a ρ g with
  | none => rfl
  | some y =>
    obtain ⟨o, g1⟩ := y
    cases o with
    | exc n fs => rfl
    | ok x => cases x <;> first | rfl | (rename_i b; cases b <;> rfl)
theorem rE_tru : rP (eTru a ρ g) Q = rP (a ρ g) (cTru Q) := by
  unfold eTru
  cases a ρ g with
  | none => rfl
  | some y =>
    obtain ⟨o, g1⟩ := y
    cases o with
    | exc n fs => rfl
    | ok x => 
      show rP (match truth x with | some b => some (.ok (.bl b), g1) | none => none) Q = so (truth x) _
      cases truth x <;> rfl
theorem rE_and : rP (eAnd a b ρ g) Q = rP (a ρ g) (cIfE b (eC (.bl false)) ρ Q) := by
  unfold eAnd
  cases a ρ g with
  | none => rfl
  | some y =>
    obtain ⟨o, g1⟩ := y
    cases o with
    | exc n fs => rfl
    | ok x => cases x <;> first | rfl | (rename_i b; cases b <;> rfl)
theorem rE_or : rP (eOr a b ρ g) Q = rP (a ρ g) (cIfE (eC (.bl true)) b ρ Q) := by
  unfold eOr
  cases a ρ g with
  | none => rfl
  | some y =>
    obtain ⟨o, g1⟩ := y
    cases o with
    | exc n fs => rfl
    | ok x => cases x <;> first | rfl | (rename_i b; cases b <;> rfl)
theorem rE_if : rP (eIf t a b ρ g) Q = rP (t ρ g) (cIfE a b ρ Q) := by
  unfold eIf
  cases t ρ g with
  | none => rfl
  | some y =>
    obtain ⟨o, g1⟩ := y
    cases o with
    | exc n fs => rfl
    | ok x => cases x <;> first | rfl | (rename_i b; cases b <;> rfl)
theorem rE_chain : rP (eChain f h a b c ρ g) Q = rP (a ρ g) (cCh f h b c ρ Q) := by
  unfold eChain
  cases a ρ g with
  | none => rfl
  | some y =>
    obtain ⟨o, g1⟩ := y
    cases o with
    | exc n fs => rfl
    | ok x =>
      show rP (bE (b ρ g1) _) Q = rP (b ρ g1) _
      cases b ρ g1 with
      | none => rfl
      | some y =>
        obtain ⟨o, g2⟩ := y
        cases o with
        | exc n fs => rfl
        | ok y =>
          show rP (match f x y with | some (.bl true) => _ | some (.bl false) => _ | _ => none) Q = so (f x y) _
          cases f x y with
          | none => rfl
          | some u =>
            cases u with
            | bl v =>
              cases v with
              | false => rfl
              | true => rfl
            | _ => rfl
theorem rA_nil : rP (aNil ρ g) QA = QA (.ok []) g := rfl
theorem rA_cons : rP (aCons a r ρ g) QA = rP (a ρ g) (cCons r ρ QA) := by
  unfold aCons
  cases a ρ g with
  | none => rfl
  | some y =>
    obtain ⟨o, g1⟩ := y
    cases o with
    | exc n fs => rfl
    | ok x =>
      show rP (match r ρ g1 with | some (.ok ds, g) => some (.ok (x :: ds), g) | some (.exc n f, g) => some (.exc n f, g) | none => none) QA = rP (r ρ g1) _
      cases r ρ g1 with
      | none => rfl
      | some y =>
        obtain ⟨o, g2⟩ := y
        cases o <;> rfl
theorem rE_args {f : List D → G → R} : rP (eArgs f r ρ g) Q = rP (r ρ g) (cArgs f Q) := by
  unfold eArgs
  cases r ρ g with
  | none => rfl
  | some y =>
    obtain ⟨o, g1⟩ := y
    cases o <;> rfl
theorem rE_call {m : FM} {dd : List D} : rP (eCall m dd r ρ g) Q = rP (r ρ g) (cCall m dd Q) := by
  unfold eCall
  exact rE_args
theorem rE_pf {f : List D → Option D} {ds : List D} : rP (pf f ds g) Q = so (f ds) (cS Q g) := by
  unfold pf
  cases f ds <;> rfl
theorem rE_part : rP (ePart a ρ g) Q = rP (a ρ g) (cPart Q) := by
  unfold ePart
  cases a ρ g with
  | none => rfl
  | some y =>
    obtain ⟨o, g1⟩ := y
    cases o with
    | exc n fs => rfl
    | ok x => 
      show rP (if isPart x = true then _ else none) Q = _
      by_cases h : isPart x = true
      · rw [if_pos h]; simp [cPart, h, rP]
      · rw [if_neg h]; simp [cPart, h, rP]
theorem rE_slF {f : Option Int → Option Int → D → Option D} : rP (eSlF f a b c ρ g) Q = rP (a ρ g) (cSl f b c ρ Q) := by
  unfold eSlF
  cases a ρ g with
  | none => rfl
  | some y =>
    obtain ⟨o, g1⟩ := y
    cases o with
    | exc n fs => rfl
    | ok x =>
      show rP (bE (b ρ g1) _) Q = rP (b ρ g1) _
      cases b ρ g1 with
      | none => rfl
      | some y =>
        obtain ⟨o, g2⟩ := y
        cases o with
        | exc n fs => rfl
        | ok l =>
          show rP (bE (c ρ g2) _) Q = rP (c ρ g2) _
          cases c ρ g2 with
          | none => rfl
          | some w =>
            obtain ⟨o, g3⟩ := w
            cases o with
            | exc n fs => rfl
            | ok h =>
              show rP (match partOf l, partOf h with | some l, some h => (f l h x).map fun d => (.ok d, g3) | _, _ => none) Q = so (partOf l) (cSl4 f x h Q g3)
              cases partOf l with
              | none => rfl
              | some l =>
                show _ = so (partOf h) (cSl5 f x l Q g3)
                cases partOf h with
                | none => rfl
                | some h =>
                  show rP ((f l h x).map fun d => (Out.ok d, g3)) Q = so (f l h x) (cS Q g3)
                  cases f l h x <;> rfl
theorem rA_items : rP (aItems a ρ g) QA = rP (a ρ g) (cItems QA) := by
  unfold aItems
  cases a ρ g with
  | none => rfl
  | some y =>
    obtain ⟨o, g1⟩ := y
    cases o with
    | exc n fs => rfl
    | ok x => 
      show rP ((itemsI x).map fun ds => (OutA.ok ds, g1)) QA = so (itemsI x) (cSA QA g1)
      cases itemsI x <;> rfl
theorem rA_via {f : List D → Option (List D)} : rP (aVia f r ρ g) QA = rP (r ρ g) (cVia f QA) := by
  unfold aVia
  cases r ρ g with
  | none => rfl
  | some y =>
    obtain ⟨o, g1⟩ := y
    cases o with
    | exc n fs => rfl
    | ok x => 
      show rP ((f x).map fun ds => (OutA.ok ds, g1)) QA = so (f x) (cSA QA g1)
      cases f x <;> rfl
theorem rA_rev : rP (aRev a ρ g) QA = rP (a ρ g) (cRev QA) := by
  unfold aRev
  cases a ρ g with
  | none => rfl
  | some y =>
    obtain ⟨o, g1⟩ := y
    cases o with
    | exc n fs => rfl
    | ok x => 
      show rP ((items x).map fun ds => (OutA.ok ds.reverse, g1)) QA = so (items x) (cSAr QA g1)
      cases items x <;> rfl
theorem rE_hix {i : Nat} {j : Int} : rP (eHix i j ρ g) Q = (ρ[i]? = some (some .hand) ∧ so (atI g j) (cS Q g)) := by
  unfold eHix
  split
  · rename_i h
    cases hh : atI g j <;> simp [rP, so, cS, h]
  · rename_i h
    apply propext
    exact ⟨fun z => z.elim, fun z => (h z.1).elim⟩
theorem rE_xf {i : Nat} {C f : Str} : rP (eXf i C f n fs ρ g) Q = ((decide (i < ρ.length) && n == C) = true ∧ so (fs.lookup f) (cS Q g)) := by
  unfold eXf
  split
  · rename_i h
    cases fs.lookup f <;> simp [rP, so, cS, h]
  · rename_i h
    simp [rP, h]
theorem rE_pure {O R : List Nat} : rP (ePure O R e ρ g) Q = (((O.all fun i => isLst ρ[i]?) && R.all fun i => hfO ρ[i]?) = true ∧ rP (e (keepR R ρ) []) (cPure Q g)) := by
  unfold ePure
  split
  · rename_i h
    cases e (keepR R ρ) [] with
    | none => simp [rP]
    | some y =>
      obtain ⟨o, g1⟩ := y
      cases o with
      | ok d =>
        show rP (if noL d = true then _ else none) Q = _
        by_cases q : noL d = true <;> simp [rP, cPure, h, q]
      | exc n fs =>
        show rP (if noLf fs = true then _ else none) Q = _
        by_cases q : noLf fs = true <;> simp [rP, cPure, h, q]
  · rename_i h
    simp [rP, h]
/-! statements -/
theorem rS_seq : rP (sSeq s1 s2 ρ g) QS = rP (s1 ρ g) (cSeq s2 QS) := by
  unfold sSeq
  cases s1 ρ g with
  | none => rfl
  | some y =>
    obtain ⟨o, g1⟩ := y
    cases o <;> rfl
theorem rS_set {i : Nat} : rP (sSet i e ρ g) QS = rP (e ρ g) (cSet i ρ QS) := by
  unfold sSet
  cases e ρ g with
  | none => rfl
  | some y =>
    obtain ⟨o, g1⟩ := y
    cases o <;> rfl
theorem rS_asg2 {i j : Nat} : rP (sAsg2 i j e ρ g) QS = rP (e ρ g) (cAsg2 i j ρ QS) := by
  unfold sAsg2
  cases e ρ g with
  | none => rfl
  | some y =>
    obtain ⟨o, g1⟩ := y
    cases o <;> rfl
theorem rS_unp {f : ST} : rP (sUnp f e ρ g) QS = rP (e ρ g) (cUnp f ρ QS) := by
  unfold sUnp
  cases e ρ g with
  | none => rfl
  | some y =>
    obtain ⟨o, g1⟩ := y
    cases o with
    | exc n fs => rfl
    | ok d =>
      show rP (match f d ρ with | some ρ1 => some (.nx ρ1, g1) | none => none) QS = so (f d ρ) (cSN QS g1)
      cases f d ρ <;> rfl
theorem rS_ret : rP (sRet e ρ g) QS = rP (e ρ g) (cRet ρ QS) := by
  unfold sRet
  cases e ρ g with
  | none => rfl
  | some y =>
    obtain ⟨o, g1⟩ := y
    cases o <;> rfl
theorem rS_drop : rP (sDrop e ρ g) QS = rP (e ρ g) (cDrop ρ QS) := by
  unfold sDrop
  cases e ρ g with
  | none => rfl
  | some y =>
    obtain ⟨o, g1⟩ := y
    cases o <;> rfl
theorem rS_retN : rP (sRetN ρ g) QS = QS (.ret .non) g := rfl
theorem rS_pass : rP (sPass ρ g) QS = QS (.nx ρ) g := rfl
theorem rS_brk : rP (sBrk ρ g) QS = QS (.brk ρ) g := rfl
theorem rS_cnt : rP (sCnt ρ g) QS = QS (.cnt ρ) g := rfl
theorem rS_raise0 {n : Str} : rP (sRaise0 n ρ g) QS = QS (.exc n [] ρ) g := rfl
theorem rS_if : rP (sIf t s1 s2 ρ g) QS = rP (t ρ g) (cIfS s1 s2 ρ QS) := by
  unfold sIf
  cases t ρ g with
  | none => rfl
  | some y =>
    obtain ⟨o, g1⟩ := y
    cases o with
    | exc n fs => rfl
    | ok x => cases x <;> first | rfl | (rename_i b; cases b <;> rfl)
theorem rS_app {i : Nat} : rP (sApp i e ρ g) QS = so (ρ[i]?) (cApp i e ρ QS g) := by
  unfold sApp
  cases h : ρ[i]? with
  | none => rfl
  | some x =>
    cases x with
    | none => rfl
    | some l =>
      cases l with
      | lst ds =>
        show rP (bV (e ρ g) ρ _) QS = rP (e ρ g) (cApp2 i ds ρ QS)
        cases e ρ g with
        | none => rfl
        | some y =>
          obtain ⟨o, g1⟩ := y
          cases o with
          | exc n fs => rfl
          | ok d =>
            show rP (if szB (ds.length + 1) = true then _ else none) QS = _
            by_cases q : szB (ds.length + 1) = true <;> simp [rP, q, cApp2]
      | _ => rfl
theorem rS_setIx {i : Nat} : rP (sSetIx i a e ρ g) QS = so (ρ[i]?) (cSetIx i a e ρ QS g) := by
  unfold sSetIx
  cases h : ρ[i]? with
  | none => rfl
  | some x =>
    cases x with
    | none => rfl
    | some l =>
      cases l with
      | lst ds =>
        show rP (bV (e ρ g) ρ _) QS = rP (e ρ g) (cSetIx1 i a ds ρ QS)
        cases e ρ g with
        | none => rfl
        | some y =>
          obtain ⟨o, g1⟩ := y
          cases o with
          | exc n fs => rfl
          | ok d =>
            show rP (bV (a ρ g1) ρ _) QS = rP (a ρ g1) (cSetIx2 i ds d ρ QS)
            cases a ρ g1 with
            | none => rfl
            | some y =>
              obtain ⟨o, g2⟩ := y
              cases o with
              | exc n fs => rfl
              | ok k =>
                cases k with
                | int k =>
                  show rP (match ixN ds.length k with | some j => _ | none => none) QS = so (ixN ds.length k) (cSetIx3 i ds d ρ QS g2)
                  cases ixN ds.length k <;> rfl
                | _ => rfl
      | _ => rfl
theorem rS_aug {i : Nat} {f : Int → Int → Int} : rP (sAug i f e ρ g) QS = so (ρ[i]?) (cAug i f e ρ QS g) := by
  unfold sAug
  cases h : ρ[i]? with
  | none => rfl
  | some x =>
    cases x with
    | none => rfl
    | some l =>
      cases l with
      | int x =>
        show rP (bV (e ρ g) ρ _) QS = rP (e ρ g) (cAug2 i f x ρ QS)
        cases e ρ g with
        | none => rfl
        | some y =>
          obtain ⟨o, g1⟩ := y
          cases o with
          | exc n fs => rfl
          | ok d => cases d <;> rfl
      | _ => rfl
theorem rS_par {i j : Nat} : rP (sPar i j r ρ g) QS = rP (r ρ g) (cPar i j ρ QS) := by
  unfold sPar
  cases r ρ g with
  | none => rfl
  | some y =>
    obtain ⟨o, g1⟩ := y
    cases o with
    | exc n fs => rfl
    | ok ds => match ds with
      | [] => rfl
      | [_] => rfl
      | [_, _] => rfl
      | _ :: _ :: _ :: _ => rfl
theorem rS_raise1 {n f : Str} : rP (sRaise1 n f r ρ g) QS = rP (r ρ g) (cRaise1 n f ρ QS) := by
  unfold sRaise1
  cases r ρ g with
  | none => rfl
  | some y =>
    obtain ⟨o, g1⟩ := y
    cases o with
    | exc n fs => rfl
    | ok ds => match ds with
      | [] => rfl
      | [_] => rfl
      | [_, _] => rfl
      | _ :: _ :: _ :: _ => rfl
theorem rS_try {em : Str → Str → Option Bool} {hd : List (Str × Option Nat × SuD)} : rP (sTry em hd s ρ g) QS = rP (s ρ g) (kT em hd QS) := by
  unfold sTry
  cases s ρ g with
  | none => rfl
  | some y =>
    obtain ⟨o, g1⟩ := y
    cases o <;> rfl
theorem rS_hset {i : Nat} {j : Int} : rP (sHset i j e ρ g) QS = (ρ[i]? = some (some .hand) ∧ rP (e ρ g) (cHset j ρ QS)) := by
  unfold sHset
  split
  · rename_i h
    apply propext
    simp only [h, true_and]
    cases e ρ g with
    | none => exact Iff.rfl
    | some y =>
      obtain ⟨o, g1⟩ := y
      cases o with
      | exc n fs => exact Iff.rfl
      | ok d =>
        show rP (match ixN g1.length j with | some j => _ | none => none) QS ↔ so (ixN g1.length j) (cHset2 ρ d QS g1)
        cases ixN g1.length j <;> exact Iff.rfl
  · rename_i h
    apply propext
    exact ⟨fun z => z.elim, fun z => (h z.1).elim⟩
/-! a def -/
theorem rF_fn {nn np : Nat} {ds : List D} : rP (mkFn nn np s ds g) Q = (ds.length = np ∧ rP (s (ds.map some ++ List.replicate (nn - np) none) g) (kF Q)) := by
  unfold mkFn
  split
  · rename_i h
    apply propext
    simp only [h, true_and]
    cases s (ds.map some ++ List.replicate (nn - np) none) g with
    | none => exact Iff.rfl
    | some y =>
      obtain ⟨o, g1⟩ := y
      cases o <;> exact Iff.rfl
  · rename_i h
    apply propext
    exact ⟨fun z => z.elim, fun z => (h z.1).elim⟩
theorem rF_eq {m : FM} {ds : List D} {g g' : G} {o : Out} (h : rP (m ds g) fun o' g1 => o' = o ∧ g1 = g') : m ds g = some (o, g') := rP_eq.mp h
/-- a loop over a range or a list, by what holds ahead of its turns; no break, no return -/
theorem rS_for {it : SA} {f : ST} {body : SS} (I : Nat → Env → G → Prop) (h : rP (it ρ g) (kIt ρ (fun ds g1 => I 0 ρ g1 ∧ (∀ (k : Nat) d ρ g, ds[k]? = some d → I k ρ g → so (f d ρ) fun ρ1 => rP (body ρ1 g) (kFor I k)) ∧
    ∀ ρ g, I ds.length ρ g → QS (.nx ρ) g) QS)) : rP (sFor it f body ρ g) QS := by
  obtain ⟨o, g1, h1, h⟩ := rP_get h
  unfold sFor
  rw [h1]
  cases o with
  | exc n fs => exact h
  | ok ds =>
    obtain ⟨i0, hs, q⟩ := h
    obtain ⟨ρ', g', e, i⟩ := forGo_inv (f := f) (body := body) (ds := ds) I i0 fun i ρ g d hd hi => by
      have := hs i d ρ g hd hi
      cases hf : f d ρ with
      | none => rw [hf] at this; exact this.elim
      | some ρ1 =>
        rw [hf] at this
        refine ⟨ρ1, rfl, ?_⟩
        obtain ⟨o, g2, e2, k2⟩ := rP_get (show rP (body ρ1 g) _ from this)
        cases o with
        | nx ρ2 => exact ⟨ρ2, g2, .inl e2, k2⟩
        | cnt ρ2 => exact ⟨ρ2, g2, .inr e2, k2⟩
        | _ => exact k2.elim
    show rP (forGo f body ds ρ g1) QS
    rw [e]
    exact q ρ' g' i
/-- a loop that may return: either all turns go on, or some turn returns -/
theorem rS_forR {it : SA} {f : ST} {body : SS} (I : Nat → Env → G → Prop) (h : rP (it ρ g) (kIt ρ (fun ds g1 => I 0 ρ g1 ∧ (∀ (k : Nat) d ρ g, ds[k]? = some d → I k ρ g → so (f d ρ) fun ρ1 => rP (body ρ1 g) (kForR I k QS)) ∧
    ∀ ρ g, I ds.length ρ g → QS (.nx ρ) g) QS)) : rP (sFor it f body ρ g) QS := by
  obtain ⟨o, g1, h1, h⟩ := rP_get h
  unfold sFor
  rw [h1]
  cases o with
  | exc n fs => exact h
  | ok ds =>
    obtain ⟨i0, hs, q⟩ := h
    show rP (forGo f body ds ρ g1) QS
    have go : ∀ (n k : Nat) (ρ : Env) (g : G), ds.length - k = n → k ≤ ds.length → I k ρ g → rP (forGo f body (ds.drop k) ρ g) QS := by
      intro n
      induction n with
      | zero =>
        intro k ρ g hn hk i
        have e : k = ds.length := by omega
        subst e
        rw [List.drop_length]
        exact q ρ g i
      | succ n ih =>
        intro k ρ g hn hk i
        have hlt : k < ds.length := by omega
        rw [List.drop_eq_getElem_cons hlt]
        have st := hs k ds[k] ρ g (by simp [hlt]) i
        unfold forGo
        cases hf : f ds[k] ρ with
        | none => rw [hf] at st; exact st.elim
        | some ρ1 =>
          rw [hf] at st
          obtain ⟨o, g2, e2, k2⟩ := rP_get (show rP (body ρ1 g) _ from st)
          simp only [e2]
          cases o with
          | nx ρ2 => exact ih (k + 1) ρ2 g2 (by omega) (by omega) k2
          | cnt ρ2 => exact ih (k + 1) ρ2 g2 (by omega) (by omega) k2
          | brk ρ2 => exact k2
          | ret d => exact k2
          | exc n fs ρ2 => exact k2
    have := go ds.length 0 ρ g1 (by omega) (by omega) i0
    rwa [List.drop_zero] at this
/-- a comprehension, its elements by a function of what is gone through -/
theorem rE_map {own : List Nat} {it : SA} {f : ST} {elt : SE} (F : D → D) (h : rP (it ρ g) (kItE (fun ds g1 => ds.length < 2 ^ 20 ∧ (∀ d ∈ ds, so (f d (wipeD ρ own)) fun ρ1 => elt ρ1 g1 = some (.ok (F d), g1)) ∧ Q (.ok (.lst (ds.map F))) g1) Q)) : rP (eComp own it f eYes elt ρ g) Q := by
  obtain ⟨o, g1, h1, h⟩ := rP_get h
  cases o with
  | exc n fs =>
    unfold eComp
    rw [h1]
    exact h
  | ok ds =>
    obtain ⟨hl, hs, q⟩ := h
    have := compGo_map (f := f) (elt := elt) (ρ := wipeD ρ own) (g := g1) F ds [] (fun d hd => by
      have := hs d hd
      cases hf : f d (wipeD ρ own) with
      | none => rw [hf] at this; exact this.elim
      | some ρ1 => rw [hf] at this; exact ⟨ρ1, rfl, this⟩) (by simpa using hl)
    rw [eComp_run h1 this]
    exact q
/-- a comprehension that draws -/
theorem rE_draws {own : List Nat} {it : SA} {f : ST} {elt : SE} {I : G → Prop} {P : D → Prop} (h : rP (it ρ g) (kItE (fun ds g1 => I g1 ∧ ds.length < 2 ^ 19 ∧ (∀ d ∈ ds, so (f d (wipeD ρ own)) fun ρ1 => ∀ g2, I g2 → rP (elt ρ1 g2) fun o g3 => ∃ y, o = .ok y ∧ P y ∧ I g3) ∧
    ∀ ys g2, ys.length = ds.length → (∀ y ∈ ys, P y) → I g2 → Q (.ok (.lst ys)) g2) Q)) : rP (eComp own it f eYes elt ρ g) Q := by
  obtain ⟨o, g1, h1, h⟩ := rP_get h
  cases o with
  | exc n fs =>
    unfold eComp
    rw [h1]
    exact h
  | ok ds =>
    obtain ⟨i1, hl, hs, q⟩ := h
    have go : ∀ (l : List D) (acc : List D) (g2 : G), acc.length + l.length < 2 ^ 19 → (∀ d ∈ l, so (f d (wipeD ρ own)) fun ρ1 => ∀ g2, I g2 → rP (elt ρ1 g2) fun o g3 => ∃ y, o = .ok y ∧ P y ∧ I g3) → I g2 →
        ∃ ys g3, compGo f eYes elt (wipeD ρ own) l g2 acc = some (acc ++ ys, g3) ∧ ys.length = l.length ∧ (∀ y ∈ ys, P y) ∧ I g3 := by
      intro l
      induction l with
      | nil => exact fun acc g2 _ _ i => ⟨[], g2, by unfold compGo; rw [List.append_nil], rfl, fun y h => (nomatch h), i⟩
      | cons d l ih =>
        intro acc g2 hl2 hs2 i
        have h0 := hs2 d List.mem_cons_self
        cases hf : f d (wipeD ρ own) with
        | none => rw [hf] at h0; exact h0.elim
        | some ρ1 =>
          rw [hf] at h0
          obtain ⟨o, g3, e3, y, rfl, py, i3⟩ := rP_get (h0 g2 i)
          rw [List.length_cons] at hl2
          obtain ⟨ys, g4, e4, l4, p4, i4⟩ := ih (acc ++ [y]) g3 (by rw [List.length_append, List.length_singleton]; omega) (fun d h => hs2 d (List.mem_cons_of_mem _ h)) i3
          refine ⟨y :: ys, g4, ?_, by rw [List.length_cons, l4, List.length_cons], fun z hz => ?_, i4⟩
          · unfold compGo
            rw [hf]
            show (match elt ρ1 g2 with
              | some (.ok y, g3) => if szB (acc.length + 1) = true then compGo f eYes elt (wipeD ρ own) l g3 (acc ++ [y]) else none
              | _ => none) = _
            rw [e3]
            simp only
            rw [if_pos (szB_of (by omega)), e4, List.append_assoc]
            rfl
          · cases hz with
            | head => exact py
            | tail _ hz => exact p4 z hz
    obtain ⟨ys, g2, e2, l2, p2, i2⟩ := go ds [] g1 (by rw [List.length_nil]; omega) hs i1
    rw [List.nil_append] at e2
    rw [eComp_run h1 e2]
    exact q ys g2 l2 p2 i2
/-- a comprehension, its elements by their places -/
theorem rE_idx {own : List Nat} {it : SA} {f : ST} {elt : SE} (F : Nat → D) (h : rP (it ρ g) (kItE (fun ds g1 => ds.length < 2 ^ 20 ∧ (∀ k d, ds[k]? = some d → so (f d (wipeD ρ own)) fun ρ1 => rP (elt ρ1 g1) fun o g2 => o = .ok (F k) ∧ g2 = g1) ∧ Q (.ok (.lst ((List.range ds.length).map F))) g1) Q)) : rP (eComp own it f eYes elt ρ g) Q := by
  obtain ⟨o, g1, h1, h⟩ := rP_get h
  cases o with
  | exc n fs =>
    unfold eComp
    rw [h1]
    exact h
  | ok ds =>
    obtain ⟨hl, hs, q⟩ := h
    have go : ∀ (l : List D) (k : Nat) (acc : List D), acc.length = k → k + l.length = ds.length → (∀ j d, l[j]? = some d → so (f d (wipeD ρ own)) fun ρ1 => rP (elt ρ1 g1) fun o g2 => o = .ok (F (k + j)) ∧ g2 = g1) → acc = (List.range k).map F →
        compGo f eYes elt (wipeD ρ own) l g1 acc = some ((List.range ds.length).map F, g1) := by
      intro l
      induction l with
      | nil => intro k acc hk hl _ ha; unfold compGo; rw [ha]; simp at hl; rw [hl]
      | cons d l ih =>
        intro k acc hk hl2 hs2 ha
        rw [List.length_cons] at hl2
        have h0 := hs2 0 d rfl
        rw [Nat.add_zero] at h0
        cases hf : f d (wipeD ρ own) with
        | none => rw [hf] at h0; exact h0.elim
        | some ρ1 =>
          rw [hf] at h0
          have e3 := rP_eq.mp (show rP (elt ρ1 g1) _ from h0)
          unfold compGo
          rw [hf]
          show (match elt ρ1 g1 with
            | some (.ok y, g3) => if szB (acc.length + 1) = true then compGo f eYes elt (wipeD ρ own) l g3 (acc ++ [y]) else none
            | _ => none) = _
          rw [e3]
          simp only
          rw [if_pos (szB_of (by omega))]
          refine ih (k + 1) _ (by rw [List.length_append, List.length_singleton, hk]) (by omega) (fun j d hj => ?_) (by rw [ha, List.range_succ, List.map_append]; rfl)
          have := hs2 (j + 1) d (by rw [List.getElem?_cons_succ]; exact hj)
          rwa [show k + (j + 1) = k + 1 + j by omega] at this
    rw [eComp_run h1 (go ds 0 [] rfl (by omega) (fun j d hj => by rw [Nat.zero_add]; exact hs j d hj) rfl)]
    exact q
end
/-- a sum of the first values -/
def Sg (f : Nat → Int) : Nat → Int
  | 0 => 0
  | k + 1 => Sg f k + f k
theorem sum_range (f : Nat → Int) (k : Nat) : ((List.range k).map f).sum = Sg f k := by
  induction k with
  | zero => rfl
  | succ k ih => rw [List.range_succ, List.map_append, List.sum_append, ih]; simp [Sg]
theorem Sg_congr {f h : Nat → Int} {k : Nat} (e : ∀ i, i < k → f i = h i) : Sg f k = Sg h k := by
  induction k with
  | zero => rfl
  | succ k ih => rw [Sg, Sg, ih fun i hi => e i (by omega), e k (by omega)]
theorem Sg_add (f h : Nat → Int) (k : Nat) : Sg (fun i => f i + h i) k = Sg f k + Sg h k := by
  induction k with
  | zero => rfl
  | succ k ih => rw [Sg, Sg, Sg, ih]; omega
theorem Sg_mul (c : Int) (f : Nat → Int) (k : Nat) : Sg (fun i => c * f i) k = c * Sg f k := by
  induction k with
  | zero => simp [Sg]
  | succ k ih => rw [Sg, Sg, ih, Int.mul_add]
theorem Sg_nn {f : Nat → Int} {k : Nat} (h : ∀ i, i < k → 0 ≤ f i) : 0 ≤ Sg f k := by
  induction k with
  | zero => exact Int.le_refl 0
  | succ k ih =>
    have h1 := ih fun i hi => h i (by omega)
    have h2 := h k (by omega)
    rw [Sg]; omega
theorem Sg_zero {f : Nat → Int} {k : Nat} (h : ∀ i, i < k → f i = 0) : Sg f k = 0 := by
  induction k with
  | zero => rfl
  | succ k ih => rw [Sg, ih fun i hi => h i (by omega), h k (by omega)]; rfl
theorem Sg_each {f : Nat → Int} {k : Nat} (h : ∀ i, i < k → 0 ≤ f i) (z : Sg f k = 0) : ∀ i, i < k → f i = 0 := by
  induction k with
  | zero => intro i hi; omega
  | succ k ih =>
    intro i hi
    have h1 := Sg_nn fun j (hj : j < k) => h j (by omega)
    have h2 := h k (by omega)
    rw [Sg] at z
    by_cases e : i = k
    · subst e; omega
    · exact ih (fun j hj => h j (by omega)) (by omega) i (by omega)
theorem Sg_more {f : Nat → Int} {j k : Nat} (hj : j ≤ k) (h : ∀ i, j ≤ i → i < k → f i = 0) : Sg f k = Sg f j := by
  induction k with
  | zero => rw [Nat.le_zero.mp hj]
  | succ k ih =>
    by_cases e : j = k + 1
    · rw [e]
    · rw [Sg, ih (by omega) (fun i h1 h2 => h i h1 (by omega)), h k (by omega) (by omega)]; omega
def dI (l : List Int) : List D := l.map .int
theorem onlyI_dI : ∀ l : List Int, onlyI (dI l) = some l
  | [] => rfl
  | i :: l => by
    show (onlyI (dI l)).map (i :: ·) = _
    rw [onlyI_dI l]; rfl
theorem onlyI_range (f : Nat → Int) (k : Nat) : onlyI ((List.range k).map fun i => D.int (f i)) = some ((List.range k).map f) := by
  have : ((List.range k).map fun i => D.int (f i)) = dI ((List.range k).map f) := by simp [dI]
  rw [this, onlyI_dI]
theorem fSumU_range (f : Nat → Int) (k : Nat) : fSumU (.lst ((List.range k).map fun i => D.int (f i))) = some (.int (Sg f k)) := by
  show (onlyI _).map _ = _
  rw [onlyI_range, Option.map_some, sum_range]
theorem sum_dI (l : List Int) : l.sum = Sg (fun i => l.getD i 0) l.length := by
  rw [← sum_range]
  congr 1
  apply List.ext_getElem
  · simp
  · intro i h1 h2
    simp [List.getD, h1]
theorem fSumU_dI (l : List Int) : fSumU (.lst (dI l)) = some (.int l.sum) := by
  show (onlyI _).map _ = _
  rw [onlyI_dI, Option.map_some]
theorem fSumU_dT (l : List Int) : fSumU (.tup (dI l)) = some (.int l.sum) := by
  show (onlyI _).map _ = _
  rw [onlyI_dI, Option.map_some]
theorem dI_at {l : List Int} {i : Nat} (h : i < l.length) : (dI l)[i]? = some (.int (l.getD i 0)) := by
  simp [dI, List.getD, h]
theorem dI_len (l : List Int) : (dI l).length = l.length := by simp [dI]
theorem dI_app (l m : List Int) : dI l ++ dI m = dI (l ++ m) := by simp [dI]
theorem dI_snoc (l : List Int) (x : Int) : dI l ++ [.int x] = dI (l ++ [x]) := by simp [dI]
theorem hfs_dI : ∀ l : List Int, hfs (dI l) = true
  | [] => rfl
  | _ :: l => hfs_dI l
theorem noLs_dI : ∀ l : List Int, noLs (dI l) = true
  | [] => rfl
  | _ :: l => noLs_dI l
theorem pairsN_at {ds : List D} {k : Nat} {d : D} (h : (pairsN ds)[k]? = some d) : ∃ x, ds[k]? = some x ∧ d = .tup [.int (k : Nat), x] := by
  unfold pairsN at h
  rw [List.getElem?_mapIdx] at h
  cases hk : ds[k]? with
  | none => rw [hk] at h; cases h
  | some x => rw [hk] at h; exact ⟨x, rfl, (Option.some.inj h).symm⟩
theorem pairsN_len (ds : List D) : (pairsN ds).length = ds.length := by simp [pairsN]
theorem fRng1_s {n : Nat} (h : n < 1000000) : fRng1 [.int ((n : Int) + 1)] = some (rng 0 (n + 1)) := by
  have := fRng1_nat (n := n + 1) (by omega)
  rwa [Int.natCast_add] at this
/-- a draw, as a rule of this calculus: by what the hand's reading promises -/
theorem rP_of {α : Type} {x : Option (α × G)} {o : α} {g' : G} {Q : α → G → Prop} (h : x = some (o, g')) (q : Q o g') : rP x Q := by rw [h]; exact q
theorem truth_bl {b : Bool} : truth (.bl b) = some b := rfl
theorem truth_int {i : Int} : truth (.int i) = some (i != 0) := rfl
theorem truth_lst {l : List D} : truth (.lst l) = some (!l.isEmpty) := rfl
theorem truth_tup {l : List D} : truth (.tup l) = some (!l.isEmpty) := rfl
theorem fTup_0 : fTup [] = some (.tup []) := rfl
theorem fTup_1 {a : D} : fTup [a] = some (.tup [a]) := rfl
theorem fTup_2 {a b : D} : fTup [a, b] = some (.tup [a, b]) := by unfold fTup; exact if_pos (show szB 2 = true by decide)
theorem fTup_3 {a b c : D} : fTup [a, b, c] = some (.tup [a, b, c]) := by unfold fTup; exact if_pos (show szB 3 = true by decide)
theorem fTup_4 {a b c d : D} : fTup [a, b, c, d] = some (.tup [a, b, c, d]) := by unfold fTup; exact if_pos (show szB 4 = true by decide)
theorem fLst_0 : fLst [] = some (.lst []) := rfl
theorem fLst_1 {a : D} : fLst [a] = some (.lst [a]) := rfl
theorem fLst_2 {a b : D} : fLst [a, b] = some (.lst [a, b]) := by unfold fLst; exact if_pos (show szB 2 = true by decide)
theorem fLst_3 {a b c : D} : fLst [a, b, c] = some (.lst [a, b, c]) := by unfold fLst; exact if_pos (show szB 3 = true by decide)
theorem fLst_4 {a b c d : D} : fLst [a, b, c, d] = some (.lst [a, b, c, d]) := by unfold fLst; exact if_pos (show szB 4 = true by decide)
theorem isPart_int {i : Int} : isPart (.int i) = true := rfl
theorem partOf_int {i : Int} : partOf (.int i) = some (some i) := rfl
theorem partOf_non : partOf .non = some none := rfl
theorem isi_int_int {i : Int} : fIsi "int" (.int i) = some (.bl true) := rfl
theorem isi_int_bl {i : Bool} : fIsi "int" (.bl i) = some (.bl true) := rfl
theorem isi_int_non : fIsi "int" .non = some (.bl false) := rfl
theorem isi_int_str {x : Str} : fIsi "int" (.str x) = some (.bl false) := rfl
theorem isi_int_lst {x : List D} : fIsi "int" (.lst x) = some (.bl false) := rfl
theorem isi_int_tup {x : List D} : fIsi "int" (.tup x) = some (.bl false) := rfl
theorem isi_bool_int {i : Int} : fIsi "bool" (.int i) = some (.bl false) := rfl
theorem isi_bool_bl {i : Bool} : fIsi "bool" (.bl i) = some (.bl true) := rfl
theorem isi_tuple_tup {x : List D} : fIsi "tuple" (.tup x) = some (.bl true) := rfl
theorem isi_tuple_lst {x : List D} : fIsi "tuple" (.lst x) = some (.bl false) := rfl
theorem isi2_lst {x : List D} : fIsi2 "list" "tuple" (.lst x) = some (.bl true) := rfl
theorem isi2_tup {x : List D} : fIsi2 "list" "tuple" (.tup x) = some (.bl true) := rfl
theorem isi2_int {i : Int} : fIsi2 "list" "tuple" (.int i) = some (.bl false) := rfl
theorem isi2_bl {i : Bool} : fIsi2 "list" "tuple" (.bl i) = some (.bl false) := rfl
theorem isi2_non : fIsi2 "list" "tuple" .non = some (.bl false) := rfl
theorem isi2_str {x : Str} : fIsi2 "list" "tuple" (.str x) = some (.bl false) := rfl
theorem fEq_int {i j : Int} : fEq (.int i) (.int j) = some (.bl (i == j)) := rfl
theorem fNe_int {i j : Int} : fNe (.int i) (.int j) = some (.bl (!(i == j))) := rfl
theorem fEq_str {i j : Str} : fEq (.str i) (.str j) = some (.bl (decide (i = j))) := rfl
theorem fLen_lst {l : List D} : fLen (.lst l) = some (.int l.length) := rfl
theorem fLen_tup {l : List D} : fLen (.tup l) = some (.int l.length) := rfl
theorem fInt_int {i : Int} : fInt (.int i) = some (.int i) := rfl
theorem fTuple_lst {l : List D} : fTuple (.lst l) = some (.tup l) := rfl
theorem fTuple_tup {l : List D} : fTuple (.tup l) = some (.tup l) := rfl
theorem fList_lst {l : List D} : fList (.lst l) = some (.lst l) := rfl
theorem fList_tup {l : List D} : fList (.tup l) = some (.lst l) := rfl
theorem itemsI_lst {l : List D} : itemsI (.lst l) = some l := rfl
theorem itemsI_tup {l : List D} : itemsI (.tup l) = some l := rfl
theorem fIx_l0 {a : D} {l : List D} : fIx (.lst (a :: l)) (.int 0) = some a := atI_nat (j := 0) rfl
theorem fIx_t0 {a : D} {l : List D} : fIx (.tup (a :: l)) (.int 0) = some a := atI_nat (j := 0) rfl
theorem fIx_l1 {a b : D} {l : List D} : fIx (.lst (a :: b :: l)) (.int 1) = some b := atI_nat (j := 1) rfl
theorem fIx_t1 {a b : D} {l : List D} : fIx (.tup (a :: b :: l)) (.int 1) = some b := atI_nat (j := 1) rfl
theorem fIx_l2 {a b c : D} {l : List D} : fIx (.lst (a :: b :: c :: l)) (.int 2) = some c := atI_nat (j := 2) rfl
theorem fIx_l3 {a b c d : D} {l : List D} : fIx (.lst (a :: b :: c :: d :: l)) (.int 3) = some d := atI_nat (j := 3) rfl
/-- a while's turn -/
def kW (t : SE) (body : SS) (j : Nat) (Q : QSt) : QSt
  | .nx ρ, g => rP (whileGo t body j ρ g) Q
  | .cnt ρ, g => rP (whileGo t body j ρ g) Q
  | .brk ρ, g => Q (.nx ρ) g
  | .ret d, g => Q (.ret d) g
  | .exc n fs ρ, g => Q (.exc n fs ρ) g
def cTurn (t : SE) (body : SS) (j : Nat) (ρ : Env) (Q : QSt) : QE
  | .ok (.bl true), g => rP (body ρ g) (kW t body j Q)
  | .ok (.bl false), g => Q (.nx ρ) g
  | .ok _, _ => False
  | .exc n fs, g => Q (.exc n fs ρ) g
section
variable {Q : QSt} {ρ : Env} {g : G} {d : D} {n : Str} {fs : List (Str × D)} {t : SE} {body : SS} {j : Nat}
theorem kW_nx : kW t body j Q (.nx ρ) g = rP (whileGo t body j ρ g) Q := rfl
theorem kW_cnt : kW t body j Q (.cnt ρ) g = rP (whileGo t body j ρ g) Q := rfl
theorem kW_brk : kW t body j Q (.brk ρ) g = Q (.nx ρ) g := rfl
theorem kW_ret : kW t body j Q (.ret d) g = Q (.ret d) g := rfl
theorem kW_x : kW t body j Q (.exc n fs ρ) g = Q (.exc n fs ρ) g := rfl
theorem cTurn_t : cTurn t body j ρ Q (.ok (.bl true)) g = rP (body ρ g) (kW t body j Q) := rfl
theorem cTurn_f : cTurn t body j ρ Q (.ok (.bl false)) g = Q (.nx ρ) g := rfl
theorem cTurn_x : cTurn t body j ρ Q (.exc n fs) g = Q (.exc n fs ρ) g := rfl
theorem rS_turn : rP (whileGo t body (j + 1) ρ g) Q = rP (t ρ g) (cTurn t body j ρ Q) := by
  conv => lhs; unfold whileGo
  cases t ρ g with
  | none => rfl
  | some y =>
    obtain ⟨o, g1⟩ := y
    cases o with
    | exc n fs => rfl
    | ok x =>
      cases x with
      | bl b =>
        cases b with
        | false => rfl
        | true =>
          show rP (match body ρ g1 with
            | some (.nx ρ2, g2) => whileGo t body j ρ2 g2
            | some (.cnt ρ2, g2) => whileGo t body j ρ2 g2
            | some (.brk ρ2, g2) => some (.nx ρ2, g2)
            | some (.ret d, g2) => some (.ret d, g2)
            | some (.exc m fs ρ2, g2) => some (.exc m fs ρ2, g2)
            | none => none) Q = rP (body ρ g1) _
          cases body ρ g1 with
          | none => rfl
          | some y =>
            obtain ⟨o, g2⟩ := y
            cases o <;> rfl
      | _ => rfl
end
def kU (o : Option Nat) (Q : SOut → G → Prop) : SOut → G → Prop
  | .nx ρ, g => Q (.nx (wipe1 o ρ)) g
  | .brk ρ, g => Q (.brk (wipe1 o ρ)) g
  | .cnt ρ, g => Q (.cnt (wipe1 o ρ)) g
  | .ret d, g => Q (.ret d) g
  | .exc _ _ _, _ => False
section
variable {Q : SOut → G → Prop} {ρ : Env} {g : G} {d : D} {n m : Str} {fs : List (Str × D)} {o : Option Nat} {su : SuD} {r : List (Str × Option Nat × SuD)} {em : Str → Str → Option Bool}
theorem kU_nx : kU o Q (.nx ρ) g = Q (.nx (wipe1 o ρ)) g := rfl
theorem kU_ret : kU o Q (.ret d) g = Q (.ret d) g := rfl
theorem kU_brk : kU o Q (.brk ρ) g = Q (.brk (wipe1 o ρ)) g := rfl
theorem kU_cnt : kU o Q (.cnt ρ) g = Q (.cnt (wipe1 o ρ)) g := rfl
theorem wipe1_none : wipe1 none ρ = ρ := rfl
theorem wipe1_some {i : Nat} : wipe1 (some i) ρ = ρ.set i none := rfl
theorem tryGo_nil : rP (tryGo em n fs ρ g []) Q = Q (.exc n fs ρ) g := rfl
theorem rS_unAs {x : Option (SOut × G)} : rP (unAs o x) Q = rP x (kU o Q) := by
  cases x with
  | none => rfl
  | some y =>
    obtain ⟨o, g1⟩ := y
    cases o <;> rfl
theorem tryGo_yes (h : em n m = some true) : rP (tryGo em n fs ρ g ((m, o, su) :: r)) Q = rP (su n fs (wipe1 o ρ) g) (kU o Q) := by
  rw [← rS_unAs]
  conv => lhs; unfold tryGo
  rw [h]
theorem tryGo_no (h : em n m = some false) : rP (tryGo em n fs ρ g ((m, o, su) :: r)) Q = rP (tryGo em n fs ρ g r) Q := by
  conv => lhs; unfold tryGo
  rw [h]
theorem lookup_one {d : D} {f : Str} : List.lookup f [(f, d)] = some d := by simp [List.lookup]
theorem str_self {n : Str} : (n == n) = true := by simp
end
theorem fRng2_nat {a b : Nat} (ha : a ≤ 1000000) (hb : b ≤ 1000000) : fRng2 [.int (a : Int), .int (b : Int)] = some (rng (a : Int) (b - a)) := by
  show (if (small62 (a : Int) && small62 (b : Int)) = true then some (rng (a : Int) ((b : Int) - (a : Int)).toNat) else none) = _
  rw [small_nat ha, small_nat hb, Bool.and_self, if_pos rfl, show ((b : Int) - (a : Int)).toNat = b - a by omega]
theorem pairs2_at {ds es : List D} {k : Nat} {d : D} (h : (pairs2 ds es)[k]? = some d) : ∃ x y, ds[k]? = some x ∧ es[k]? = some y ∧ d = .tup [x, y] := by
  unfold pairs2 at h
  rw [List.getElem?_zipWith] at h
  cases h1 : ds[k]? with
  | none => rw [h1] at h; simp at h
  | some x =>
    cases h2 : es[k]? with
    | none => rw [h1, h2] at h; simp at h
    | some y => rw [h1, h2] at h; exact ⟨x, y, rfl, rfl, (Option.some.inj h).symm⟩
/-- a comprehension with a test, both by their places -/
theorem rE_filt {own : List Nat} {it : SA} {f : ST} {cond elt : SE} {ρ : Env} {g : G} {Q : QE} (P : Nat → Bool) (F : Nat → D) (h : rP (it ρ g) (kItE (fun ds g1 => ds.length < 2 ^ 20 ∧ (∀ k d, ds[k]? = some d → so (f d (wipeD ρ own)) fun ρ1 => rP (cond ρ1 g1) (fun o g2 => o = .ok (.bl (P k)) ∧ g2 = g1) ∧ rP (elt ρ1 g1) fun o g2 => o = .ok (F k) ∧ g2 = g1) ∧ Q (.ok (.lst (((List.range ds.length).filter P).map F))) g1) Q)) : rP (eComp own it f cond elt ρ g) Q := by
  obtain ⟨o, g1, h1, h⟩ := rP_get h
  cases o with
  | exc n fs =>
    unfold eComp
    rw [h1]
    exact h
  | ok ds =>
    obtain ⟨hl, hs, q⟩ := h
    have go : ∀ (l : List D) (k : Nat) (acc : List D), acc.length ≤ k → k + l.length = ds.length → (∀ j d, l[j]? = some d → so (f d (wipeD ρ own)) fun ρ1 => rP (cond ρ1 g1) (fun o g2 => o = .ok (.bl (P (k + j))) ∧ g2 = g1) ∧ rP (elt ρ1 g1) fun o g2 => o = .ok (F (k + j)) ∧ g2 = g1) → acc = ((List.range k).filter P).map F →
        compGo f cond elt (wipeD ρ own) l g1 acc = some (((List.range ds.length).filter P).map F, g1) := by
      intro l
      induction l with
      | nil => intro k acc hk hl _ ha; unfold compGo; rw [ha]; simp at hl; rw [hl]
      | cons d l ih =>
        intro k acc hk hl2 hs2 ha
        rw [List.length_cons] at hl2
        have h0 := hs2 0 d rfl
        rw [Nat.add_zero] at h0
        cases hf : f d (wipeD ρ own) with
        | none => rw [hf] at h0; exact h0.elim
        | some ρ1 =>
          rw [hf] at h0
          have h0 : rP (cond ρ1 g1) (fun o g2 => o = .ok (.bl (P k)) ∧ g2 = g1) ∧ rP (elt ρ1 g1) fun o g2 => o = .ok (F k) ∧ g2 = g1 := h0
          have e2 := rP_eq.mp h0.1
          have e3 := rP_eq.mp h0.2
          have nx : ∀ j d, l[j]? = some d → so (f d (wipeD ρ own)) fun ρ1 => rP (cond ρ1 g1) (fun o g2 => o = .ok (.bl (P (k + 1 + j))) ∧ g2 = g1) ∧ rP (elt ρ1 g1) fun o g2 => o = .ok (F (k + 1 + j)) ∧ g2 = g1 := fun j d hj => by
            have := hs2 (j + 1) d (by rw [List.getElem?_cons_succ]; exact hj)
            rwa [show k + (j + 1) = k + 1 + j by omega] at this
          conv => lhs; unfold compGo
          rw [hf]
          show (match cond ρ1 g1 with
            | some (.ok (.bl true), g2) => (match elt ρ1 g2 with
              | some (.ok y, g3) => if szB (acc.length + 1) = true then compGo f cond elt (wipeD ρ own) l g3 (acc ++ [y]) else none
              | _ => none)
            | some (.ok (.bl false), g2) => compGo f cond elt (wipeD ρ own) l g2 acc
            | _ => none) = _
          rw [e2]
          cases hp : P k with
          | true =>
            simp only
            rw [e3]
            simp only
            rw [if_pos (szB_of (by omega))]
            exact ih (k + 1) _ (by rw [List.length_append, List.length_singleton]; omega) (by omega) nx (by rw [ha, List.range_succ, List.filter_append, List.map_append, List.filter_cons, hp]; rfl)
          | false =>
            simp only
            exact ih (k + 1) _ (by omega) (by omega) nx (by rw [ha, List.range_succ, List.filter_append, List.map_append, List.filter_cons, hp]; simp)
    rw [eComp_run h1 (go ds 0 [] (Nat.le_refl _) (by omega) (fun j d hj => by rw [Nat.zero_add]; exact hs j d hj) rfl)]
    exact q
/-! bits -/
def bt (f k : Nat) : Bool := decide (f / 2 ^ k % 2 = 1)
theorem bt_all : ∀ f : Fin 128, ∀ k : Fin 7, (Builtin.bitAnd ((f.val : Int) / 2 ^ ((k.val : Int)).toNat) 1 == 1) = bt f.val k.val := by decide +kernel
theorem bt_ok {f k : Nat} (hf : f < 128) (hk : k < 7) : (Builtin.bitAnd ((f : Int) / 2 ^ ((k : Int)).toNat) 1 == 1) = bt f k := bt_all ⟨f, hf⟩ ⟨k, hk⟩
theorem cShr_nat {x : Int} {k : Nat} : cShr x (k : Int) = true := decide_eq_true (by omega)
theorem places4 {P : Nat → Bool} : (P 0 = true ∧ ∃ l, (List.range 4).filter P = 0 :: l) ∨ (P 0 = false ∧ P 1 = true ∧ ∃ l, (List.range 4).filter P = 1 :: l) ∨ (P 0 = false ∧ P 1 = false ∧ P 2 = true ∧ ∃ l, (List.range 4).filter P = 2 :: l) ∨
    (P 0 = false ∧ P 1 = false ∧ P 2 = false ∧ P 3 = true ∧ ∃ l, (List.range 4).filter P = 3 :: l) ∨ (P 0 = false ∧ P 1 = false ∧ P 2 = false ∧ P 3 = false ∧ (List.range 4).filter P = []) := by
  have e : List.range 4 = [0, 1, 2, 3] := rfl
  rw [e]
  cases h0 : P 0 with
  | true => exact .inl ⟨rfl, by simp [h0]⟩
  | false =>
    cases h1 : P 1 with
    | true => exact .inr (.inl ⟨rfl, rfl, by simp [h0, h1]⟩)
    | false =>
      cases h2 : P 2 with
      | true => exact .inr (.inr (.inl ⟨rfl, rfl, rfl, by simp [h0, h1, h2]⟩))
      | false =>
        cases h3 : P 3 with
        | true => exact .inr (.inr (.inr (.inl ⟨rfl, rfl, rfl, rfl, by simp [h0, h1, h2, h3]⟩)))
        | false => exact .inr (.inr (.inr (.inr ⟨rfl, rfl, rfl, rfl, by simp [h0, h1, h2, h3]⟩)))
theorem isN_non : fIsN .non .non = some (.bl true) := rfl
theorem isN_str {x : Str} : fIsN (.str x) .non = some (.bl false) := rfl
theorem notN_non : fNotN .non .non = some (.bl false) := rfl
theorem notN_str {x : Str} : fNotN (.str x) .non = some (.bl true) := rfl
theorem notN_int {x : Int} : fNotN (.int x) .non = some (.bl true) := rfl
theorem isN_int {x : Int} : fIsN (.int x) .non = some (.bl false) := rfl
/-! methods, new objects -/
def cMeth3 (f : FM) (x : D) (dd : List D) (Q : QE) : QAr
  | .ok ds, g => rP (f (x :: (ds ++ dd)) g) Q
  | .exc n fs, g => Q (.exc n fs) g
def cMeth2 (x : D) (ar : SA) (ρ : Env) (Q : QE) (g : G) : Option (FM × List D) → Option D → Prop
  | some (f, dd), none => rP (ar ρ g) (cMeth3 f x dd Q)
  | _, _ => False
def cMeth (m : Str) (ms : MM) (ar : SA) (ρ : Env) (Q : QE) : QE
  | .ok (.obj n fs), g => cMeth2 (.obj n fs) ar ρ Q g (ms.lookup n) (fs.lookup m)
  | .ok _, _ => False
  | .exc n fs, g => Q (.exc n fs) g
def cObj (n : Str) (Q : QE) : QE
  | .ok (.obj n' fs), g => n' = n ∧ Q (.ok (.obj n' fs)) g
  | .ok _, _ => False
  | .exc m fs, g => Q (.exc m fs) g
def cMake (n : Str) (m : FM) (dd : List D) (Q : QE) : QAr
  | .ok ds, g => rP (m (ds ++ dd) g) (cObj n Q)
  | .exc m fs, g => Q (.exc m fs) g
section
variable {a : SE} {ar : SA} {ρ : Env} {g : G} {Q : QE} {m n n' : Str} {ms : MM} {f : FM} {x d : D} {dd ds : List D} {fs : List (Str × D)}
theorem cMeth3_ : cMeth3 f x dd Q (.ok ds) g = rP (f (x :: (ds ++ dd)) g) Q := rfl
theorem cMeth3_x : cMeth3 f x dd Q (.exc n fs) g = Q (.exc n fs) g := rfl
theorem cMeth2_ : cMeth2 x ar ρ Q g (some (f, dd)) none = rP (ar ρ g) (cMeth3 f x dd Q) := rfl
theorem cMeth_ : cMeth m ms ar ρ Q (.ok (.obj n fs)) g = cMeth2 (.obj n fs) ar ρ Q g (ms.lookup n) (fs.lookup m) := rfl
theorem cMeth_x : cMeth m ms ar ρ Q (.exc n fs) g = Q (.exc n fs) g := rfl
theorem cObj_ : cObj n Q (.ok (.obj n' fs)) g = (n' = n ∧ Q (.ok (.obj n' fs)) g) := rfl
theorem cObj_x : cObj n Q (.exc m fs) g = Q (.exc m fs) g := rfl
theorem cMake_ : cMake n f dd Q (.ok ds) g = rP (f (ds ++ dd) g) (cObj n Q) := rfl
theorem cMake_x : cMake n f dd Q (.exc m fs) g = Q (.exc m fs) g := rfl
theorem rE_meth : rP (eMeth m ms a ar ρ g) Q = rP (a ρ g) (cMeth m ms ar ρ Q) := by
  unfold eMeth
  cases a ρ g with
  | none => rfl
  | some y =>
    obtain ⟨o, g1⟩ := y
    cases o with
    | exc n fs => rfl
    | ok x =>
      cases x with
      | obj n fs =>
        show rP (match ms.lookup n, fs.lookup m with
          | some (f, dd), none => eArgs (fun ds g => f (D.obj n fs :: (ds ++ dd)) g) ar ρ g1
          | _, _ => none) Q = cMeth2 (.obj n fs) ar ρ Q g1 (ms.lookup n) (fs.lookup m)
        cases ms.lookup n with
        | none => rfl
        | some y =>
          cases fs.lookup m with
          | some _ => rfl
          | none =>
            show rP (eArgs _ ar ρ g1) Q = rP (ar ρ g1) (cMeth3 y.1 (.obj n fs) y.2 Q)
            rw [rE_args]
            cases ar ρ g1 with
            | none => rfl
            | some z =>
              obtain ⟨o, g2⟩ := z
              cases o <;> rfl
      | _ => rfl
theorem rE_make : rP (eMake n f dd ar ρ g) Q = rP (ar ρ g) (cMake n f dd Q) := by
  unfold eMake
  rw [rE_args]
  cases ar ρ g with
  | none => rfl
  | some y =>
    obtain ⟨o, g1⟩ := y
    cases o with
    | exc n fs => rfl
    | ok ds =>
      show rP (objOut n (f (ds ++ dd) g1)) Q = rP (f (ds ++ dd) g1) (cObj n Q)
      cases f (ds ++ dd) g1 with
      | none => rfl
      | some z =>
        obtain ⟨o, g2⟩ := z
        cases o with
        | exc m fs => rfl
        | ok d =>
          cases d with
          | obj n' fs =>
            show rP (if n' = n then some (Out.ok (D.obj n' fs), g2) else none) Q = (n' = n ∧ Q (.ok (.obj n' fs)) g2)
            by_cases h : n' = n
            · rw [if_pos h]; simp [rP, h]
            · rw [if_neg h]; simp [rP, h]
          | _ => rfl
end
end MP

set_option maxRecDepth 100000
set_option maxHeartbeats 0
namespace HK75
open PySem PySem.Spec PyProof.Rows L2
def top (i : Nat) : Stmt := PySem.Challenge.pw_rankwords_k75_errors_stand_side_by_side.main.body.getD i (.Pass ⟨0, 0, 0, 0⟩)
abbrev s0 : Stmt := (inClass (top 2) 0)
def d0 : He.DefD := ⟨("BadField", some "__init__"), "__init__", "BadField.__init__", defArgs s0, defBody s0, defScope s0, [], []⟩
abbrev s1 : Stmt := (inClass (top 3) 0)
def d1 : He.DefD := ⟨("BadThing", some "__init__"), "__init__", "BadThing.__init__", defArgs s1, defBody s1, defScope s1, [], []⟩
abbrev s2 : Stmt := (inClass (top 6) 0)
def d2 : He.DefD := ⟨("BadWord", some "__init__"), "__init__", "BadWord.__init__", defArgs s2, defBody s2, defScope s2, [], []⟩
abbrev s3 : Stmt := (inClass (top 8) 0)
def d3 : He.DefD := ⟨("BadRow", some "__init__"), "__init__", "BadRow.__init__", defArgs s3, defBody s3, defScope s3, [], []⟩
abbrev s4 : Stmt := (inClass (top 10) 0)
def d4 : He.DefD := ⟨("BadText", some "__init__"), "__init__", "BadText.__init__", defArgs s4, defBody s4, defScope s4, [], []⟩
abbrev s5 : Stmt := (inClass (top 11) 0)
def d5 : He.DefD := ⟨("BadPoly", some "__init__"), "__init__", "BadPoly.__init__", defArgs s5, defBody s5, defScope s5, [], []⟩
abbrev s6 : Stmt := (inClass (top 13) 0)
def d6 : He.DefD := ⟨("BadPoints", some "__init__"), "__init__", "BadPoints.__init__", defArgs s6, defBody s6, defScope s6, [], []⟩
abbrev s7 : Stmt := (inClass (top 14) 0)
def d7 : He.DefD := ⟨("NotApart", some "__init__"), "__init__", "NotApart.__init__", defArgs s7, defBody s7, defScope s7, [], []⟩
abbrev s8 : Stmt := (inClass (top 16) 0)
def d8 : He.DefD := ⟨("BadLot", some "__init__"), "__init__", "BadLot.__init__", defArgs s8, defBody s8, defScope s8, [], []⟩
abbrev s9 : Stmt := (inClass (top 20) 0)
def d9 : He.DefD := ⟨("BadClosed", some "__init__"), "__init__", "BadClosed.__init__", defArgs s9, defBody s9, defScope s9, [], []⟩
abbrev s10 : Stmt := (inClass (top 21) 0)
def d10 : He.DefD := ⟨("TooMany", some "__init__"), "__init__", "TooMany.__init__", defArgs s10, defBody s10, defScope s10, [], []⟩
abbrev s11 : Stmt := (inClass (top 24) 0)
def d11 : He.DefD := ⟨("BadSizes", some "__init__"), "__init__", "BadSizes.__init__", defArgs s11, defBody s11, defScope s11, [], []⟩
abbrev s12 : Stmt := (inClass (top 25) 0)
def d12 : He.DefD := ⟨("BadCounts", some "__init__"), "__init__", "BadCounts.__init__", defArgs s12, defBody s12, defScope s12, [], []⟩
abbrev s13 : Stmt := (inClass (top 26) 0)
def d13 : He.DefD := ⟨("NoLot", some "__init__"), "__init__", "NoLot.__init__", defArgs s13, defBody s13, defScope s13, [], []⟩
abbrev s14 : Stmt := (inClass (top 28) 0)
def d14 : He.DefD := ⟨("BadLoss", some "__init__"), "__init__", "BadLoss.__init__", defArgs s14, defBody s14, defScope s14, [], []⟩
abbrev s15 : Stmt := (inClass (top 30) 0)
def d15 : He.DefD := ⟨("BadCells", some "__init__"), "__init__", "BadCells.__init__", defArgs s15, defBody s15, defScope s15, [], []⟩
abbrev s16 : Stmt := (inClass (top 31) 0)
def d16 : He.DefD := ⟨("BadLane", some "__init__"), "__init__", "BadLane.__init__", defArgs s16, defBody s16, defScope s16, [], []⟩
abbrev s17 : Stmt := (inClass (top 32) 0)
def d17 : He.DefD := ⟨("TooSpoilt", some "__init__"), "__init__", "TooSpoilt.__init__", defArgs s17, defBody s17, defScope s17, [], []⟩
abbrev s18 : Stmt := (inClass (top 34) 0)
def d18 : He.DefD := ⟨("BadDeed", some "__init__"), "__init__", "BadDeed.__init__", defArgs s18, defBody s18, defScope s18, [], []⟩
abbrev s19 : Stmt := (inClass (top 35) 0)
def d19 : He.DefD := ⟨("BadRows", some "__init__"), "__init__", "BadRows.__init__", defArgs s19, defBody s19, defScope s19, [], []⟩
abbrev s20 : Stmt := (inClass (top 40) 0)
def d20 : He.DefD := ⟨("BadEdit", some "__init__"), "__init__", "BadEdit.__init__", defArgs s20, defBody s20, defScope s20, [], []⟩
abbrev s21 : Stmt := (inClass (top 41) 0)
def d21 : He.DefD := ⟨("BadGoal", some "__init__"), "__init__", "BadGoal.__init__", defArgs s21, defBody s21, defScope s21, [], []⟩
abbrev s22 : Stmt := (inClass (top 42) 0)
def d22 : He.DefD := ⟨("Held", some "__init__"), "__init__", "Held.__init__", defArgs s22, defBody s22, defScope s22, [], []⟩
abbrev s23 : Stmt := (top 45)
def d23 : He.DefD := ⟨("_law_hand", none), "_law_hand", "_law_hand", defArgs s23, defBody s23, defScope s23, [], []⟩
abbrev s24 : Stmt := (top 46)
def d24 : He.DefD := ⟨("_law_mixed", none), "_law_mixed", "_law_mixed", defArgs s24, defBody s24, defScope s24, [], []⟩
abbrev s25 : Stmt := (top 47)
def d25 : He.DefD := ⟨("_law_take", none), "_law_take", "_law_take", defArgs s25, defBody s25, defScope s25, [], []⟩
abbrev s26 : Stmt := (top 48)
def d26 : He.DefD := ⟨("_law_kinds", none), "_law_kinds", "_law_kinds", defArgs s26, defBody s26, defScope s26, [], []⟩
abbrev s27 : Stmt := (top 49)
def d27 : He.DefD := ⟨("_law_first", none), "_law_first", "_law_first", defArgs s27, defBody s27, defScope s27, [], []⟩
abbrev s28 : Stmt := (top 50)
def d28 : He.DefD := ⟨("_law_second", none), "_law_second", "_law_second", defArgs s28, defBody s28, defScope s28, [], []⟩
abbrev s29 : Stmt := (top 51)
def d29 : He.DefD := ⟨("_law_attributes", none), "_law_attributes", "_law_attributes", defArgs s29, defBody s29, defScope s29, [], []⟩
abbrev s30 : Stmt := (top 52)
def d30 : He.DefD := ⟨("law", none), "law", "law", defArgs s30, defBody s30, defScope s30, [], []⟩
def fn : List He.DefD := [d0, d1, d2, d3, d4, d5, d6, d7, d8, d9, d10, d11, d12, d13, d14, d15, d16, d17, d18, d19, d20, d21, d22, d23, d24, d25, d26, d27, d28, d29, d30]
def fa : List He.Fa := [.meth "BadField" "__init__", .meth "BadThing" "__init__", .meth "BadWord" "__init__", .meth "BadRow" "__init__", .meth "BadText" "__init__", .meth "BadPoly" "__init__", .meth "BadPoints" "__init__", .meth "NotApart" "__init__", .meth "BadLot" "__init__", .meth "BadClosed" "__init__", .meth "TooMany" "__init__", .meth "BadSizes" "__init__", .meth "BadCounts" "__init__", .meth "NoLot" "__init__", .meth "BadLoss" "__init__", .meth "BadCells" "__init__", .meth "BadLane" "__init__", .meth "TooSpoilt" "__init__", .meth "BadDeed" "__init__", .meth "BadRows" "__init__", .meth "BadEdit" "__init__", .meth "BadGoal" "__init__", .meth "Held" "__init__", .glo "_law_hand", .glo "_law_mixed", .glo "_law_take", .glo "_law_kinds", .glo "_law_first", .glo "_law_second", .glo "_law_attributes", .glo "law", .glo "RankError", .keep "RankError", .exc "RankError", .glo "BadField", .keep "BadField", .glo "BadThing", .keep "BadThing", .glo "ZeroThing", .keep "ZeroThing", .exc "ZeroThing", .glo "BadColumns", .keep "BadColumns", .exc "BadColumns", .glo "BadWord", .keep "BadWord", .glo "BadTable", .keep "BadTable", .exc "BadTable", .glo "BadRow", .keep "BadRow", .glo "Unlike", .keep "Unlike", .exc "Unlike", .glo "BadText", .keep "BadText", .glo "BadPoly", .keep "BadPoly", .glo "NoDivisor", .keep "NoDivisor", .exc "NoDivisor", .glo "BadPoints", .keep "BadPoints", .glo "NotApart", .keep "NotApart", .glo "NotInvertible", .keep "NotInvertible", .exc "NotInvertible", .glo "BadLot", .keep "BadLot", .glo "BadDistance", .keep "BadDistance", .exc "BadDistance", .glo "NotMet", .keep "NotMet", .exc "NotMet", .glo "BadHead", .keep "BadHead", .exc "BadHead", .glo "BadClosed", .keep "BadClosed", .glo "TooMany", .keep "TooMany", .glo "BadTerms", .keep "BadTerms", .exc "BadTerms", .glo "NotMember", .keep "NotMember", .exc "NotMember", .glo "BadSizes", .keep "BadSizes", .glo "BadCounts", .keep "BadCounts", .glo "NoLot", .keep "NoLot", .glo "BadErrors", .keep "BadErrors", .exc "BadErrors", .glo "BadLoss", .keep "BadLoss", .glo "NoClash", .keep "NoClash", .exc "NoClash", .glo "BadCells", .keep "BadCells", .glo "BadLane", .keep "BadLane", .glo "TooSpoilt", .keep "TooSpoilt", .glo "BadComing", .keep "BadComing", .exc "BadComing", .glo "BadDeed", .keep "BadDeed", .glo "BadRows", .keep "BadRows", .glo "NotBehind", .keep "NotBehind", .exc "NotBehind", .glo "NoColumn", .keep "NoColumn", .exc "NoColumn", .glo "NotClosedByThings", .keep "NotClosedByThings", .exc "NotClosedByThings", .glo "BadNumber", .keep "BadNumber", .exc "BadNumber", .glo "BadEdit", .keep "BadEdit", .glo "BadGoal", .keep "BadGoal", .glo "Held", .keep "Held", .glo "NothingDone", .keep "NothingDone", .exc "NothingDone", .free "ValueError", .free "abs", .free "int", .free "isinstance", .free "len", .free "range", .free "repr"]
def loose0 : List PySem.Str := ["BadCells", "BadClosed", "BadColumns", "BadComing", "BadCounts", "BadDeed", "BadDistance", "BadEdit", "BadErrors", "BadField", "BadGoal", "BadHead", "BadLane", "BadLoss", "BadLot", "BadNumber", "BadPoints", "BadPoly", "BadRow", "BadRows", "BadSizes", "BadTable", "BadTerms", "BadText", "BadThing", "BadWord", "Held", "NoClash", "NoColumn", "NoDivisor"]
def loose1 : List PySem.Str := ["NoLot", "NotApart", "NotBehind", "NotClosedByThings", "NotInvertible", "NotMember", "NotMet", "NothingDone", "RankError", "TooMany", "TooSpoilt", "Unlike", "ZeroThing", "_law_attributes", "_law_first", "_law_hand", "_law_kinds", "_law_mixed", "_law_second", "_law_take"]
def loose : List PySem.Str := loose0 ++ loose1
def exl : List (PySem.Str × List PySem.Str) := [("BadField", ["what"]), ("BadThing", ["index"]), ("BadWord", ["index"]), ("BadRow", ["index"]), ("BadText", ["line"]), ("BadPoly", ["index"]), ("BadPoints", ["index"]), ("NotApart", ["index"]), ("BadLot", ["what"]), ("BadClosed", ["what"]), ("TooMany", ["size"]), ("BadSizes", ["what"]), ("BadCounts", ["what"]), ("NoLot", ["rank"]), ("BadLoss", ["what"]), ("BadCells", ["index"]), ("BadLane", ["what"]), ("TooSpoilt", ["lanes"]), ("BadDeed", ["index", "what"]), ("BadRows", ["index"]), ("BadEdit", ["index", "what"]), ("BadGoal", ["index"]), ("Held", ["index"])]
def owns : List PySem.Str := []
def exn : List PySem.Str := (["BadField", "BadThing", "ZeroThing", "BadColumns", "BadWord", "BadTable", "BadRow", "Unlike", "BadText", "BadPoly", "NoDivisor", "BadPoints", "NotApart", "NotInvertible", "BadLot", "BadDistance", "NotMet", "BadHead", "BadClosed", "TooMany", "BadTerms", "NotMember", "BadSizes", "BadCounts"] : List PySem.Str) ++ (["NoLot", "BadErrors", "BadLoss", "NoClash", "BadCells", "BadLane", "TooSpoilt", "BadComing", "BadDeed", "BadRows", "NotBehind", "NoColumn", "NotClosedByThings", "BadNumber", "BadEdit", "BadGoal", "Held", "NothingDone"] : List PySem.Str)
def isr (n : PySem.Str) : MP.Isi := exn.map (fun m => ((.own n, .own m), n == m)) ++ [((.own n, .own "RankError"), true), ((.own n, .ty "ValueError"), true)]
def isl : MP.Isi := exn.flatMap isr ++ []
def eml : MP.Eml := []
def xfl : List PySem.Str := (["BadField", "BadThing", "BadWord", "BadRow", "BadText", "BadPoly", "BadPoints", "NotApart", "BadLot", "BadClosed", "TooMany", "BadSizes", "BadCounts", "NoLot", "BadLoss", "BadCells", "BadLane", "TooSpoilt", "BadDeed", "BadRows", "BadEdit", "BadGoal", "Held", "RankError"] : List PySem.Str) ++ (["ZeroThing", "BadColumns", "BadTable", "Unlike", "NoDivisor", "NotInvertible", "BadDistance", "NotMet", "BadHead", "BadTerms", "NotMember", "BadErrors", "NoClash", "BadComing", "NotBehind", "NoColumn", "NotClosedByThings", "BadNumber", "NothingDone"] : List PySem.Str)
abbrev em : PySem.Str → PySem.Str → Option Bool := MP.emOf eml
abbrev R : PySem.W.OpenRow := PySem.W.OpenLaw.row PySem.Challenge.rw_rankwords_k75_errors_stand_side_by_side
def as : List Addr := HM.addrs 11 1489
def ex : PySem.W.Frag → Bool := MP.exAll2 exl owns isl eml xfl
abbrev hk : PySem.W.Hook := HM.hookM as fa fn ex
def ob (s : PySem.W.SharedT) : HM.AlM := HM.obsMG as fa fn ex (HandSHeadRun.getT s)
theorem ob_eq (s : PySem.W.SharedT) : ob s = hk.obs s.abs := HM.obsMG_eq (HandSHeadRun.getT_eq s)
theorem run (w : World) : HandSHeadRun.RunEq R (PySem.W.view R.prog [52]) hk ob 20000 loose w := by
  intro os
  kernel_rfl
end HK75

set_option maxRecDepth 100000
set_option maxHeartbeats 4000000
namespace HK75
open PySem L2 MP
section
variable {P : Program} {w : World} {K : PySem.W.Frag} {mg : Str → Option Value} {base : Heap}
theorem scx_BadField : FnScope ["self", "what"] ["self", "what"] (defScope s0) := ⟨rfl, rfl, rfl, by decide +kernel, rfl, by decide +kernel, by decide +kernel⟩
theorem okx_BadField (Z : Pk fa fn K mg) : ∃ fd, FnOk P w K mg base (L2.CX P w) 1 (He.ma K (He.ga K "BadField") "__init__") fd ["self", "what"] (spX1 K (He.ga K "BadField") "what") ∧ Binds K fd ["self", "what"] [] := by
  obtain ⟨fd, F⟩ := Z.says.def_ 0 (d := d0) rfl
  refine ⟨fd, F.ok scx_BadField (fun vs H Q E h => x1_len h) fun cdv A outer st H vs Q E hr h => ⟨_, pss_one (ps_ost (pv 0) (pv 1)), x1_reads h⟩, F.bindsN fun _ _ _ _ _ _ us hl => match us, hl with | [_, _], _ => rfl⟩
theorem scx_BadThing : FnScope ["self", "index"] ["self", "index"] (defScope s1) := ⟨rfl, rfl, rfl, by decide +kernel, rfl, by decide +kernel, by decide +kernel⟩
theorem okx_BadThing (Z : Pk fa fn K mg) : ∃ fd, FnOk P w K mg base (L2.CX P w) 1 (He.ma K (He.ga K "BadThing") "__init__") fd ["self", "index"] (spX1 K (He.ga K "BadThing") "index") ∧ Binds K fd ["self", "index"] [] := by
  obtain ⟨fd, F⟩ := Z.says.def_ 1 (d := d1) rfl
  refine ⟨fd, F.ok scx_BadThing (fun vs H Q E h => x1_len h) fun cdv A outer st H vs Q E hr h => ⟨_, pss_one (ps_ost (pv 0) (pv 1)), x1_reads h⟩, F.bindsN fun _ _ _ _ _ _ us hl => match us, hl with | [_, _], _ => rfl⟩
theorem scx_BadWord : FnScope ["self", "index"] ["self", "index"] (defScope s2) := ⟨rfl, rfl, rfl, by decide +kernel, rfl, by decide +kernel, by decide +kernel⟩
theorem okx_BadWord (Z : Pk fa fn K mg) : ∃ fd, FnOk P w K mg base (L2.CX P w) 1 (He.ma K (He.ga K "BadWord") "__init__") fd ["self", "index"] (spX1 K (He.ga K "BadWord") "index") ∧ Binds K fd ["self", "index"] [] := by
  obtain ⟨fd, F⟩ := Z.says.def_ 2 (d := d2) rfl
  refine ⟨fd, F.ok scx_BadWord (fun vs H Q E h => x1_len h) fun cdv A outer st H vs Q E hr h => ⟨_, pss_one (ps_ost (pv 0) (pv 1)), x1_reads h⟩, F.bindsN fun _ _ _ _ _ _ us hl => match us, hl with | [_, _], _ => rfl⟩
theorem scx_BadRow : FnScope ["self", "index"] ["self", "index"] (defScope s3) := ⟨rfl, rfl, rfl, by decide +kernel, rfl, by decide +kernel, by decide +kernel⟩
theorem okx_BadRow (Z : Pk fa fn K mg) : ∃ fd, FnOk P w K mg base (L2.CX P w) 1 (He.ma K (He.ga K "BadRow") "__init__") fd ["self", "index"] (spX1 K (He.ga K "BadRow") "index") ∧ Binds K fd ["self", "index"] [] := by
  obtain ⟨fd, F⟩ := Z.says.def_ 3 (d := d3) rfl
  refine ⟨fd, F.ok scx_BadRow (fun vs H Q E h => x1_len h) fun cdv A outer st H vs Q E hr h => ⟨_, pss_one (ps_ost (pv 0) (pv 1)), x1_reads h⟩, F.bindsN fun _ _ _ _ _ _ us hl => match us, hl with | [_, _], _ => rfl⟩
theorem scx_BadText : FnScope ["self", "line"] ["self", "line"] (defScope s4) := ⟨rfl, rfl, rfl, by decide +kernel, rfl, by decide +kernel, by decide +kernel⟩
theorem okx_BadText (Z : Pk fa fn K mg) : ∃ fd, FnOk P w K mg base (L2.CX P w) 1 (He.ma K (He.ga K "BadText") "__init__") fd ["self", "line"] (spX1 K (He.ga K "BadText") "line") ∧ Binds K fd ["self", "line"] [] := by
  obtain ⟨fd, F⟩ := Z.says.def_ 4 (d := d4) rfl
  refine ⟨fd, F.ok scx_BadText (fun vs H Q E h => x1_len h) fun cdv A outer st H vs Q E hr h => ⟨_, pss_one (ps_ost (pv 0) (pv 1)), x1_reads h⟩, F.bindsN fun _ _ _ _ _ _ us hl => match us, hl with | [_, _], _ => rfl⟩
theorem scx_BadPoly : FnScope ["self", "index"] ["self", "index"] (defScope s5) := ⟨rfl, rfl, rfl, by decide +kernel, rfl, by decide +kernel, by decide +kernel⟩
theorem okx_BadPoly (Z : Pk fa fn K mg) : ∃ fd, FnOk P w K mg base (L2.CX P w) 1 (He.ma K (He.ga K "BadPoly") "__init__") fd ["self", "index"] (spX1 K (He.ga K "BadPoly") "index") ∧ Binds K fd ["self", "index"] [] := by
  obtain ⟨fd, F⟩ := Z.says.def_ 5 (d := d5) rfl
  refine ⟨fd, F.ok scx_BadPoly (fun vs H Q E h => x1_len h) fun cdv A outer st H vs Q E hr h => ⟨_, pss_one (ps_ost (pv 0) (pv 1)), x1_reads h⟩, F.bindsN fun _ _ _ _ _ _ us hl => match us, hl with | [_, _], _ => rfl⟩
theorem scx_BadPoints : FnScope ["self", "index"] ["self", "index"] (defScope s6) := ⟨rfl, rfl, rfl, by decide +kernel, rfl, by decide +kernel, by decide +kernel⟩
theorem okx_BadPoints (Z : Pk fa fn K mg) : ∃ fd, FnOk P w K mg base (L2.CX P w) 1 (He.ma K (He.ga K "BadPoints") "__init__") fd ["self", "index"] (spX1 K (He.ga K "BadPoints") "index") ∧ Binds K fd ["self", "index"] [] := by
  obtain ⟨fd, F⟩ := Z.says.def_ 6 (d := d6) rfl
  refine ⟨fd, F.ok scx_BadPoints (fun vs H Q E h => x1_len h) fun cdv A outer st H vs Q E hr h => ⟨_, pss_one (ps_ost (pv 0) (pv 1)), x1_reads h⟩, F.bindsN fun _ _ _ _ _ _ us hl => match us, hl with | [_, _], _ => rfl⟩
theorem scx_NotApart : FnScope ["self", "index"] ["self", "index"] (defScope s7) := ⟨rfl, rfl, rfl, by decide +kernel, rfl, by decide +kernel, by decide +kernel⟩
theorem okx_NotApart (Z : Pk fa fn K mg) : ∃ fd, FnOk P w K mg base (L2.CX P w) 1 (He.ma K (He.ga K "NotApart") "__init__") fd ["self", "index"] (spX1 K (He.ga K "NotApart") "index") ∧ Binds K fd ["self", "index"] [] := by
  obtain ⟨fd, F⟩ := Z.says.def_ 7 (d := d7) rfl
  refine ⟨fd, F.ok scx_NotApart (fun vs H Q E h => x1_len h) fun cdv A outer st H vs Q E hr h => ⟨_, pss_one (ps_ost (pv 0) (pv 1)), x1_reads h⟩, F.bindsN fun _ _ _ _ _ _ us hl => match us, hl with | [_, _], _ => rfl⟩
theorem scx_BadLot : FnScope ["self", "what"] ["self", "what"] (defScope s8) := ⟨rfl, rfl, rfl, by decide +kernel, rfl, by decide +kernel, by decide +kernel⟩
theorem okx_BadLot (Z : Pk fa fn K mg) : ∃ fd, FnOk P w K mg base (L2.CX P w) 1 (He.ma K (He.ga K "BadLot") "__init__") fd ["self", "what"] (spX1 K (He.ga K "BadLot") "what") ∧ Binds K fd ["self", "what"] [] := by
  obtain ⟨fd, F⟩ := Z.says.def_ 8 (d := d8) rfl
  refine ⟨fd, F.ok scx_BadLot (fun vs H Q E h => x1_len h) fun cdv A outer st H vs Q E hr h => ⟨_, pss_one (ps_ost (pv 0) (pv 1)), x1_reads h⟩, F.bindsN fun _ _ _ _ _ _ us hl => match us, hl with | [_, _], _ => rfl⟩
theorem scx_BadClosed : FnScope ["self", "what"] ["self", "what"] (defScope s9) := ⟨rfl, rfl, rfl, by decide +kernel, rfl, by decide +kernel, by decide +kernel⟩
theorem okx_BadClosed (Z : Pk fa fn K mg) : ∃ fd, FnOk P w K mg base (L2.CX P w) 1 (He.ma K (He.ga K "BadClosed") "__init__") fd ["self", "what"] (spX1 K (He.ga K "BadClosed") "what") ∧ Binds K fd ["self", "what"] [] := by
  obtain ⟨fd, F⟩ := Z.says.def_ 9 (d := d9) rfl
  refine ⟨fd, F.ok scx_BadClosed (fun vs H Q E h => x1_len h) fun cdv A outer st H vs Q E hr h => ⟨_, pss_one (ps_ost (pv 0) (pv 1)), x1_reads h⟩, F.bindsN fun _ _ _ _ _ _ us hl => match us, hl with | [_, _], _ => rfl⟩
theorem scx_TooMany : FnScope ["self", "size"] ["self", "size"] (defScope s10) := ⟨rfl, rfl, rfl, by decide +kernel, rfl, by decide +kernel, by decide +kernel⟩
theorem okx_TooMany (Z : Pk fa fn K mg) : ∃ fd, FnOk P w K mg base (L2.CX P w) 1 (He.ma K (He.ga K "TooMany") "__init__") fd ["self", "size"] (spX1 K (He.ga K "TooMany") "size") ∧ Binds K fd ["self", "size"] [] := by
  obtain ⟨fd, F⟩ := Z.says.def_ 10 (d := d10) rfl
  refine ⟨fd, F.ok scx_TooMany (fun vs H Q E h => x1_len h) fun cdv A outer st H vs Q E hr h => ⟨_, pss_one (ps_ost (pv 0) (pv 1)), x1_reads h⟩, F.bindsN fun _ _ _ _ _ _ us hl => match us, hl with | [_, _], _ => rfl⟩
theorem scx_BadSizes : FnScope ["self", "what"] ["self", "what"] (defScope s11) := ⟨rfl, rfl, rfl, by decide +kernel, rfl, by decide +kernel, by decide +kernel⟩
theorem okx_BadSizes (Z : Pk fa fn K mg) : ∃ fd, FnOk P w K mg base (L2.CX P w) 1 (He.ma K (He.ga K "BadSizes") "__init__") fd ["self", "what"] (spX1 K (He.ga K "BadSizes") "what") ∧ Binds K fd ["self", "what"] [] := by
  obtain ⟨fd, F⟩ := Z.says.def_ 11 (d := d11) rfl
  refine ⟨fd, F.ok scx_BadSizes (fun vs H Q E h => x1_len h) fun cdv A outer st H vs Q E hr h => ⟨_, pss_one (ps_ost (pv 0) (pv 1)), x1_reads h⟩, F.bindsN fun _ _ _ _ _ _ us hl => match us, hl with | [_, _], _ => rfl⟩
theorem scx_BadCounts : FnScope ["self", "what"] ["self", "what"] (defScope s12) := ⟨rfl, rfl, rfl, by decide +kernel, rfl, by decide +kernel, by decide +kernel⟩
theorem okx_BadCounts (Z : Pk fa fn K mg) : ∃ fd, FnOk P w K mg base (L2.CX P w) 1 (He.ma K (He.ga K "BadCounts") "__init__") fd ["self", "what"] (spX1 K (He.ga K "BadCounts") "what") ∧ Binds K fd ["self", "what"] [] := by
  obtain ⟨fd, F⟩ := Z.says.def_ 12 (d := d12) rfl
  refine ⟨fd, F.ok scx_BadCounts (fun vs H Q E h => x1_len h) fun cdv A outer st H vs Q E hr h => ⟨_, pss_one (ps_ost (pv 0) (pv 1)), x1_reads h⟩, F.bindsN fun _ _ _ _ _ _ us hl => match us, hl with | [_, _], _ => rfl⟩
theorem scx_NoLot : FnScope ["self", "rank"] ["self", "rank"] (defScope s13) := ⟨rfl, rfl, rfl, by decide +kernel, rfl, by decide +kernel, by decide +kernel⟩
theorem okx_NoLot (Z : Pk fa fn K mg) : ∃ fd, FnOk P w K mg base (L2.CX P w) 1 (He.ma K (He.ga K "NoLot") "__init__") fd ["self", "rank"] (spX1 K (He.ga K "NoLot") "rank") ∧ Binds K fd ["self", "rank"] [] := by
  obtain ⟨fd, F⟩ := Z.says.def_ 13 (d := d13) rfl
  refine ⟨fd, F.ok scx_NoLot (fun vs H Q E h => x1_len h) fun cdv A outer st H vs Q E hr h => ⟨_, pss_one (ps_ost (pv 0) (pv 1)), x1_reads h⟩, F.bindsN fun _ _ _ _ _ _ us hl => match us, hl with | [_, _], _ => rfl⟩
theorem scx_BadLoss : FnScope ["self", "what"] ["self", "what"] (defScope s14) := ⟨rfl, rfl, rfl, by decide +kernel, rfl, by decide +kernel, by decide +kernel⟩
theorem okx_BadLoss (Z : Pk fa fn K mg) : ∃ fd, FnOk P w K mg base (L2.CX P w) 1 (He.ma K (He.ga K "BadLoss") "__init__") fd ["self", "what"] (spX1 K (He.ga K "BadLoss") "what") ∧ Binds K fd ["self", "what"] [] := by
  obtain ⟨fd, F⟩ := Z.says.def_ 14 (d := d14) rfl
  refine ⟨fd, F.ok scx_BadLoss (fun vs H Q E h => x1_len h) fun cdv A outer st H vs Q E hr h => ⟨_, pss_one (ps_ost (pv 0) (pv 1)), x1_reads h⟩, F.bindsN fun _ _ _ _ _ _ us hl => match us, hl with | [_, _], _ => rfl⟩
theorem scx_BadCells : FnScope ["self", "index"] ["self", "index"] (defScope s15) := ⟨rfl, rfl, rfl, by decide +kernel, rfl, by decide +kernel, by decide +kernel⟩
theorem okx_BadCells (Z : Pk fa fn K mg) : ∃ fd, FnOk P w K mg base (L2.CX P w) 1 (He.ma K (He.ga K "BadCells") "__init__") fd ["self", "index"] (spX1 K (He.ga K "BadCells") "index") ∧ Binds K fd ["self", "index"] [] := by
  obtain ⟨fd, F⟩ := Z.says.def_ 15 (d := d15) rfl
  refine ⟨fd, F.ok scx_BadCells (fun vs H Q E h => x1_len h) fun cdv A outer st H vs Q E hr h => ⟨_, pss_one (ps_ost (pv 0) (pv 1)), x1_reads h⟩, F.bindsN fun _ _ _ _ _ _ us hl => match us, hl with | [_, _], _ => rfl⟩
theorem scx_BadLane : FnScope ["self", "what"] ["self", "what"] (defScope s16) := ⟨rfl, rfl, rfl, by decide +kernel, rfl, by decide +kernel, by decide +kernel⟩
theorem okx_BadLane (Z : Pk fa fn K mg) : ∃ fd, FnOk P w K mg base (L2.CX P w) 1 (He.ma K (He.ga K "BadLane") "__init__") fd ["self", "what"] (spX1 K (He.ga K "BadLane") "what") ∧ Binds K fd ["self", "what"] [] := by
  obtain ⟨fd, F⟩ := Z.says.def_ 16 (d := d16) rfl
  refine ⟨fd, F.ok scx_BadLane (fun vs H Q E h => x1_len h) fun cdv A outer st H vs Q E hr h => ⟨_, pss_one (ps_ost (pv 0) (pv 1)), x1_reads h⟩, F.bindsN fun _ _ _ _ _ _ us hl => match us, hl with | [_, _], _ => rfl⟩
theorem scx_TooSpoilt : FnScope ["self", "lanes"] ["self", "lanes"] (defScope s17) := ⟨rfl, rfl, rfl, by decide +kernel, rfl, by decide +kernel, by decide +kernel⟩
theorem okx_TooSpoilt (Z : Pk fa fn K mg) : ∃ fd, FnOk P w K mg base (L2.CX P w) 1 (He.ma K (He.ga K "TooSpoilt") "__init__") fd ["self", "lanes"] (spX1 K (He.ga K "TooSpoilt") "lanes") ∧ Binds K fd ["self", "lanes"] [] := by
  obtain ⟨fd, F⟩ := Z.says.def_ 17 (d := d17) rfl
  refine ⟨fd, F.ok scx_TooSpoilt (fun vs H Q E h => x1_len h) fun cdv A outer st H vs Q E hr h => ⟨_, pss_one (ps_ost (pv 0) (pv 1)), x1_reads h⟩, F.bindsN fun _ _ _ _ _ _ us hl => match us, hl with | [_, _], _ => rfl⟩
theorem scx_BadDeed : FnScope ["self", "index", "what"] ["self", "index", "what"] (defScope s18) := ⟨rfl, rfl, rfl, by decide +kernel, rfl, by decide +kernel, by decide +kernel⟩
theorem okx_BadDeed (Z : Pk fa fn K mg) : ∃ fd, FnOk P w K mg base (L2.CX P w) 1 (He.ma K (He.ga K "BadDeed") "__init__") fd ["self", "index", "what"] (spX2 K (He.ga K "BadDeed") "index" "what") ∧ Binds K fd ["self", "index", "what"] [] := by
  obtain ⟨fd, F⟩ := Z.says.def_ 18 (d := d18) rfl
  refine ⟨fd, F.ok scx_BadDeed (fun vs H Q E h => x2_len h) fun cdv A outer st H vs Q E hr h => ⟨_, pss_cons (ps_ost (pv 0) (pv 1)) (pss_one (ps_ost (pv 0) (pv 2))), x2_reads h⟩, F.bindsN fun _ _ _ _ _ _ us hl => match us, hl with | [_, _, _], _ => rfl⟩
theorem scx_BadRows : FnScope ["self", "index"] ["self", "index"] (defScope s19) := ⟨rfl, rfl, rfl, by decide +kernel, rfl, by decide +kernel, by decide +kernel⟩
theorem okx_BadRows (Z : Pk fa fn K mg) : ∃ fd, FnOk P w K mg base (L2.CX P w) 1 (He.ma K (He.ga K "BadRows") "__init__") fd ["self", "index"] (spX1 K (He.ga K "BadRows") "index") ∧ Binds K fd ["self", "index"] [] := by
  obtain ⟨fd, F⟩ := Z.says.def_ 19 (d := d19) rfl
  refine ⟨fd, F.ok scx_BadRows (fun vs H Q E h => x1_len h) fun cdv A outer st H vs Q E hr h => ⟨_, pss_one (ps_ost (pv 0) (pv 1)), x1_reads h⟩, F.bindsN fun _ _ _ _ _ _ us hl => match us, hl with | [_, _], _ => rfl⟩
theorem scx_BadEdit : FnScope ["self", "index", "what"] ["self", "index", "what"] (defScope s20) := ⟨rfl, rfl, rfl, by decide +kernel, rfl, by decide +kernel, by decide +kernel⟩
theorem okx_BadEdit (Z : Pk fa fn K mg) : ∃ fd, FnOk P w K mg base (L2.CX P w) 1 (He.ma K (He.ga K "BadEdit") "__init__") fd ["self", "index", "what"] (spX2 K (He.ga K "BadEdit") "index" "what") ∧ Binds K fd ["self", "index", "what"] [] := by
  obtain ⟨fd, F⟩ := Z.says.def_ 20 (d := d20) rfl
  refine ⟨fd, F.ok scx_BadEdit (fun vs H Q E h => x2_len h) fun cdv A outer st H vs Q E hr h => ⟨_, pss_cons (ps_ost (pv 0) (pv 1)) (pss_one (ps_ost (pv 0) (pv 2))), x2_reads h⟩, F.bindsN fun _ _ _ _ _ _ us hl => match us, hl with | [_, _, _], _ => rfl⟩
theorem scx_BadGoal : FnScope ["self", "index"] ["self", "index"] (defScope s21) := ⟨rfl, rfl, rfl, by decide +kernel, rfl, by decide +kernel, by decide +kernel⟩
theorem okx_BadGoal (Z : Pk fa fn K mg) : ∃ fd, FnOk P w K mg base (L2.CX P w) 1 (He.ma K (He.ga K "BadGoal") "__init__") fd ["self", "index"] (spX1 K (He.ga K "BadGoal") "index") ∧ Binds K fd ["self", "index"] [] := by
  obtain ⟨fd, F⟩ := Z.says.def_ 21 (d := d21) rfl
  refine ⟨fd, F.ok scx_BadGoal (fun vs H Q E h => x1_len h) fun cdv A outer st H vs Q E hr h => ⟨_, pss_one (ps_ost (pv 0) (pv 1)), x1_reads h⟩, F.bindsN fun _ _ _ _ _ _ us hl => match us, hl with | [_, _], _ => rfl⟩
theorem scx_Held : FnScope ["self", "index"] ["self", "index"] (defScope s22) := ⟨rfl, rfl, rfl, by decide +kernel, rfl, by decide +kernel, by decide +kernel⟩
theorem okx_Held (Z : Pk fa fn K mg) : ∃ fd, FnOk P w K mg base (L2.CX P w) 1 (He.ma K (He.ga K "Held") "__init__") fd ["self", "index"] (spX1 K (He.ga K "Held") "index") ∧ Binds K fd ["self", "index"] [] := by
  obtain ⟨fd, F⟩ := Z.says.def_ 22 (d := d22) rfl
  refine ⟨fd, F.ok scx_Held (fun vs H Q E h => x1_len h) fun cdv A outer st H vs Q E hr h => ⟨_, pss_one (ps_ost (pv 0) (pv 1)), x1_reads h⟩, F.bindsN fun _ _ _ _ _ _ us hl => match us, hl with | [_, _], _ => rfl⟩
theorem sc__law_hand : FnScope ["_law_script", "_law_total", "_law_cells", "_law_cell"] ["_law_script"] (defScope s23) := ⟨rfl, rfl, rfl, by decide +kernel, rfl, by decide +kernel, by decide +kernel⟩
def m__law_hand : FM := mkFn 4 1 (sSeq (sSet 1 (eOp fAdd (eUn fLen (eVar 0)) (eC (.int 43)))) (sSeq (sSet 2 (eArgs (pf fLst) aNil)) (sSeq (sFor (aItems (eVar 0)) (gVar 3) (sSeq (sSet 1 (eOp (fI cMod fun i j => i % j) (eUn fInt (eOp fAdd (eOp fMul (eVar 1) (eC (.int 2003))) (eUn fInt (eVar 3)))) (eC (.int 2147483563)))) (sApp 2 (eUn fAbs (eUn fInt (eVar 3)))))) (sRet (eArgs (pf fLst) (aCons (eVar 2) (aCons (eC (.int 0)) (aCons (eC (.int 0)) (aCons (eVar 1) aNil)))))))))
theorem ok__law_hand (Z : Pk fa fn K mg) (Zx : exAll2 exl owns isl eml xfl K = true) : Good P w K mg base (He.ga K) "_law_hand" ["_law_script"] 1 m__law_hand := by
  obtain ⟨fd, F⟩ := Z.says.def_ 23 (d := d23) rfl
  refine ⟨fd, ?_, F.bindsN fun _ _ _ _ _ _ us hl => match us, hl with | [_], _ => rfl, F.kp, Z.glo 23⟩
  refine fn_ok F sc__law_hand fun hdp cdv A outer st H E hr => ?_
  have tk := takes_of (X := cxOf (L2.CX P w) P w K mg base ["_law_script", "_law_total", "_law_cells", "_law_cell"] "_law_hand" (defScope s23) (He.ga K "_law_hand") cdv A outer st H E) rfl rfl rfl rfl
  exact ⟨_, [], [], (pss_cons (ps_set (i := 1) sc__law_hand.nd rfl (by first | exact Or.inl rfl | exact Or.inr rfl) (pe_op op_addX (pe_callB call_len_seq (by rfl) (Z.free 141) (by decide +kernel) (pa_cons (pv 0) pa_nil)) pe_int)) (pss_cons (ps_set (i := 2) sc__law_hand.nd rfl (by first | exact Or.inl rfl | exact Or.inr rfl) (pe_lst pa_nil)) (pss_cons (ps_for (passes_of rfl) rfl (pi_seq (pv 0)) (pg_name (i := 3) sc__law_hand.nd rfl (by first | exact Or.inl rfl | exact Or.inr rfl)) (pss_cons (ps_set (i := 1) sc__law_hand.nd rfl (by first | exact Or.inl rfl | exact Or.inr rfl) (pe_op op_mod (pe_callTy call_int1 (by rfl) (Z.free 139) (by decide +kernel) (pa_cons (pe_op op_addX (pe_op op_mulXX (pv 1) pe_int) (pe_callTy call_int1 (by rfl) (Z.free 139) (by decide +kernel) (pa_cons (pv 3) pa_nil))) pa_nil)) pe_int)) (pss_one (ps_expr (pe_bm PySem.F.plainAttrs_list PySem.F.slot_list_append PySem.F.type_list_append mt_append (pv 2) (pa_cons (pe_callB call_abs (by rfl) (Z.free 138) (by decide +kernel) (pa_cons (pe_callTy call_int1 (by rfl) (Z.free 139) (by decide +kernel) (pa_cons (pv 3) pa_nil)) pa_nil)) pa_nil)))))) (pss_one (ps_ret (pe_lst (pa_cons (pv 2) (pa_cons pe_int (pa_cons pe_int (pa_cons (pv 1) pa_nil)))))))))), (snd_seq (snd_set (snd_addX (snd_r (snd_b1 snd_rvar rb_len)) (snd_r snd_int))) (snd_seq (snd_setL (snd_lst snd_anil) lst_disp) (snd_seq (snd_for (snd_iseq (snd_var (by decide))) snd_gvar (snd_seq (snd_set (snd_mod (snd_b1 (snd_r (snd_addX (snd_r (snd_mulX snd_rvar snd_int)) (snd_r (snd_b1 snd_rvar rb_int)))) rb_int) snd_int)) (snd_app (by decide) (snd_b1 (snd_r (snd_b1 snd_rvar rb_int)) rb_abs)))) (snd_lessB [] (snd_ret (snd_l (snd_lst (snd_acons (snd_var (by decide)) (snd_acons snd_int (snd_acons snd_int (snd_acons (snd_var (by decide)) snd_anil)))))))))))⟩
theorem sc__law_mixed : FnScope ["_law_number", "_law_turn", "_law_once", "_law_twice"] ["_law_number", "_law_turn"] (defScope s24) := ⟨rfl, rfl, rfl, by decide +kernel, rfl, by decide +kernel, by decide +kernel⟩
def m__law_mixed : FM := mkFn 4 2 (sSeq (sSet 2 (eOp (fI cMod fun i j => i % j) (eUn fInt (eOp fAdd (eOp fAdd (eOp fMul (eVar 0) (eC (.int 39373))) (eOp fMul (eVar 1) (eC (.int 6151)))) (eC (.int 50021)))) (eC (.int 2147483399)))) (sSeq (sSet 3 (eOp (fI cMod fun i j => i % j) (eUn fInt (eOp fAdd (eOp fAdd (eOp fMul (eVar 2) (eVar 2)) (eOp fMul (eVar 1) (eC (.int 81071)))) (eOp (fI cDiv fun i j => i / j) (eVar 2) (eC (.int 137))))) (eC (.int 2147483629)))) (sRet (eOp (fI cDiv fun i j => i / j) (eUn fInt (eOp (fI cMod fun i j => i % j) (eUn fInt (eOp fAdd (eOp fMul (eVar 3) (eC (.int 62089))) (eOp (fI cDiv fun i j => i / j) (eVar 2) (eC (.int 11))))) (eC (.int 2147483587)))) (eC (.int 64))))))
theorem ok__law_mixed (Z : Pk fa fn K mg) (Zx : exAll2 exl owns isl eml xfl K = true) : Good P w K mg base (He.ga K) "_law_mixed" ["_law_number", "_law_turn"] 1 m__law_mixed := by
  obtain ⟨fd, F⟩ := Z.says.def_ 24 (d := d24) rfl
  refine ⟨fd, ?_, F.bindsN fun _ _ _ _ _ _ us hl => match us, hl with | [_, _], _ => rfl, F.kp, Z.glo 24⟩
  refine fn_ok F sc__law_mixed fun hdp cdv A outer st H E hr => ?_
  have tk := takes_of (X := cxOf (L2.CX P w) P w K mg base ["_law_number", "_law_turn", "_law_once", "_law_twice"] "_law_mixed" (defScope s24) (He.ga K "_law_mixed") cdv A outer st H E) rfl rfl rfl rfl
  exact ⟨_, [], [], (pss_cons (ps_set (i := 2) sc__law_mixed.nd rfl (by first | exact Or.inl rfl | exact Or.inr rfl) (pe_op op_mod (pe_callTy call_int1 (by rfl) (Z.free 139) (by decide +kernel) (pa_cons (pe_op op_addX (pe_op op_addX (pe_op op_mulXX (pv 0) pe_int) (pe_op op_mulXX (pv 1) pe_int)) pe_int) pa_nil)) pe_int)) (pss_cons (ps_set (i := 3) sc__law_mixed.nd rfl (by first | exact Or.inl rfl | exact Or.inr rfl) (pe_op op_mod (pe_callTy call_int1 (by rfl) (Z.free 139) (by decide +kernel) (pa_cons (pe_op op_addX (pe_op op_addX (pe_op op_mulXX (pv 2) (pv 2)) (pe_op op_mulXX (pv 1) pe_int)) (pe_op op_fdivW (pv 2) pe_int)) pa_nil)) pe_int)) (pss_one (ps_ret (pe_op op_fdivW (pe_callTy call_int1 (by rfl) (Z.free 139) (by decide +kernel) (pa_cons (pe_op op_mod (pe_callTy call_int1 (by rfl) (Z.free 139) (by decide +kernel) (pa_cons (pe_op op_addX (pe_op op_mulXX (pv 3) pe_int) (pe_op op_fdivW (pv 2) pe_int)) pa_nil)) pe_int) pa_nil)) pe_int))))), (snd_seq (snd_set (snd_mod (snd_b1 (snd_r (snd_addX (snd_r (snd_addX (snd_r (snd_mulX snd_rvar snd_int)) (snd_r (snd_mulX snd_rvar snd_int)))) (snd_r snd_int))) rb_int) snd_int)) (snd_seq (snd_set (snd_mod (snd_b1 (snd_r (snd_addX (snd_r (snd_addX (snd_r (snd_mulX snd_rvar (snd_var (by decide)))) (snd_r (snd_mulX snd_rvar snd_int)))) (snd_r (snd_fdiv (snd_var (by decide)) snd_int)))) rb_int) snd_int)) (snd_ret (snd_fdiv (snd_b1 (snd_r (snd_mod (snd_b1 (snd_r (snd_addX (snd_r (snd_mulX snd_rvar snd_int)) (snd_r (snd_fdiv (snd_var (by decide)) snd_int)))) rb_int) snd_int)) rb_int) snd_int))))⟩
theorem sc__law_take : FnScope ["_law_hand_here", "_law_many", "_law_cell", "_law_rest"] ["_law_hand_here", "_law_many"] (defScope s25) := ⟨rfl, rfl, rfl, by decide +kernel, rfl, by decide +kernel, by decide +kernel⟩
def m__law_take : FM := mkFn 4 2 (sSeq (sIf (eAnd (onlyB (eOp fEq (eHix 0 2) (eC (.int 0)))) (onlyB (eOp (fB0 fun i j => decide (i < j)) (eHix 0 1) (eUn fLen (eHix 0 0))))) (sSeq (sSet 2 (eOp fIx (eHix 0 0) (eHix 0 1))) (sSeq (sHset 0 1 (eOp fAdd (eHix 0 1) (eC (.int 1)))) (sSeq (sIf (onlyB (eOp (fB0 fun i j => decide (i < j)) (eVar 2) (eOp (fI cPow fun i j => i ^ j.toNat) (eC (.int 10)) (eC (.int 18))))) (sRet (eOp (fI cMod fun i j => i % j) (eUn fInt (eCall m__law_mixed [] (aCons (eOp (fI cMod fun i j => i % j) (eUn fInt (eVar 2)) (eC (.int 2147483399))) (aCons (eHix 0 1) aNil)))) (eVar 1))) sPass) (sHset 0 2 (eVar 2))))) sPass) (sSeq (sIf (onlyB (eOp (fB0 fun i j => decide (j < i)) (eHix 0 2) (eC (.int 0)))) (sSeq (sSet 3 (eHix 0 2)) (sSeq (sHset 0 2 (eOp (fI cDiv fun i j => i / j) (eUn fInt (eVar 3)) (eVar 1))) (sRet (eOp (fI cMod fun i j => i % j) (eUn fInt (eVar 3)) (eVar 1))))) sPass) (sSeq (sHset 0 3 (eOp (fI cMod fun i j => i % j) (eUn fInt (eOp fAdd (eHix 0 3) (eC (.int 1)))) (eC (.int 2147483549)))) (sRet (eOp (fI cMod fun i j => i % j) (eUn fInt (eCall m__law_mixed [] (aCons (eHix 0 3) (aCons (eHix 0 1) aNil)))) (eVar 1))))))
theorem ok__law_take (Z : Pk fa fn K mg) (Zx : exAll2 exl owns isl eml xfl K = true) : Good P w K mg base (He.ga K) "_law_take" ["_law_hand_here", "_law_many"] 2 m__law_take := by
  obtain ⟨fd, F⟩ := Z.says.def_ 25 (d := d25) rfl
  refine ⟨fd, ?_, F.bindsN fun _ _ _ _ _ _ us hl => match us, hl with | [_, _], _ => rfl, F.kp, Z.glo 25⟩
  refine fn_ok F sc__law_take fun hdp cdv A outer st H E hr => ?_
  have tk := takes_of (X := cxOf (L2.CX P w) P w K mg base ["_law_hand_here", "_law_many", "_law_cell", "_law_rest"] "_law_take" (defScope s25) (He.ga K "_law_take") cdv A outer st H E) rfl rfl rfl rfl
  obtain ⟨fd__law_mixed, ok__law_mixed, b__law_mixed, k__law_mixed, g__law_mixed⟩ := ok__law_mixed (P := P) (w := w) (base := base) Z Zx
  exact ⟨_, [], [], (pss_cons (ps_if (PW.pt (pw_and (pt_cmpR (op_eqX hr.units) (pe_ix ix_seq (pv 0) pe_int (fun _ _ => rfl)) pe_int (nomark _)) (pw_and1 (pt_cmpR op_lt (pe_ix ix_seq (pv 0) pe_int (fun _ _ => rfl)) (pe_callB call_len_seq (by rfl) (Z.free 141) (by decide +kernel) (pa_cons (pe_ix ix_seq (pv 0) pe_int (fun _ _ => rfl)) pa_nil)) (nomark _))))) (pss_cons (ps_set (i := 2) sc__law_take.nd rfl (by first | exact Or.inl rfl | exact Or.inr rfl) (pe_ix ix_seq (pe_ix ix_seq (pv 0) pe_int (fun _ _ => rfl)) (pe_ix ix_seq (pv 0) pe_int (fun _ _ => rfl)) (fun _ _ => rfl))) (pss_cons (ps_asg (pe_op op_addX (pe_ix ix_seq (pv 0) pe_int (fun _ _ => rfl)) pe_int) (pg_sub (pv 0) pe_int set_list)) (pss_cons (ps_if (pt_cmpR op_lt (pv 2) (pe_op op_pow pe_int pe_int) (nomark _)) (pss_one (ps_ret (pe_op op_mod (pe_callTy call_int1 (by rfl) (Z.free 139) (by decide +kernel) (pa_cons (pe_callD ok__law_mixed (hr.mono (by decide)) (by rfl) g__law_mixed k__law_mixed b__law_mixed .nil (fun σ => passAt tk σ) (pa_cons (pe_op op_mod (pe_callTy call_int1 (by rfl) (Z.free 139) (by decide +kernel) (pa_cons (pv 2) pa_nil)) pe_int) (pa_cons (pe_ix ix_seq (pv 0) pe_int (fun _ _ => rfl)) pa_nil))) pa_nil)) (pv 1)))) pss_nil) (pss_one (ps_asg (pv 2) (pg_sub (pv 0) pe_int set_list)))))) pss_nil) (pss_cons (ps_if (pt_cmpR op_gt (pe_ix ix_seq (pv 0) pe_int (fun _ _ => rfl)) pe_int (nomark _)) (pss_cons (ps_set (i := 3) sc__law_take.nd rfl (by first | exact Or.inl rfl | exact Or.inr rfl) (pe_ix ix_seq (pv 0) pe_int (fun _ _ => rfl))) (pss_cons (ps_asg (pe_op op_fdivW (pe_callTy call_int1 (by rfl) (Z.free 139) (by decide +kernel) (pa_cons (pv 3) pa_nil)) (pv 1)) (pg_sub (pv 0) pe_int set_list)) (pss_one (ps_ret (pe_op op_mod (pe_callTy call_int1 (by rfl) (Z.free 139) (by decide +kernel) (pa_cons (pv 3) pa_nil)) (pv 1)))))) pss_nil) (pss_cons (ps_asg (pe_op op_mod (pe_callTy call_int1 (by rfl) (Z.free 139) (by decide +kernel) (pa_cons (pe_op op_addX (pe_ix ix_seq (pv 0) pe_int (fun _ _ => rfl)) pe_int) pa_nil)) pe_int) (pg_sub (pv 0) pe_int set_list)) (pss_one (ps_ret (pe_op op_mod (pe_callTy call_int1 (by rfl) (Z.free 139) (by decide +kernel) (pa_cons (pe_callD ok__law_mixed (hr.mono (by decide)) (by rfl) g__law_mixed k__law_mixed b__law_mixed .nil (fun σ => passAt tk σ) (pa_cons (pe_ix ix_seq (pv 0) pe_int (fun _ _ => rfl)) (pa_cons (pe_ix ix_seq (pv 0) pe_int (fun _ _ => rfl)) pa_nil))) pa_nil)) (pv 1))))))), (snd_seq (snd_ifS (snd_and (snd_test (snd_eq (snd_hix (by decide)) snd_int)) (snd_test (snd_lt (snd_hix (by decide)) (snd_b1 (snd_r (snd_hix (by decide))) rb_len)))) (snd_seq (snd_set (snd_ix (snd_r (snd_hix (by decide))) (snd_hix (by decide)))) (snd_seq (snd_hset (by decide) (snd_addX (snd_r (snd_hix (by decide))) (snd_r snd_int))) (snd_seq (snd_ifS (snd_test (snd_lt (snd_var (by decide)) (snd_pow snd_int snd_int))) (snd_ret (snd_mod (snd_b1 (snd_r (snd_call (dd := []) (snd_acons (snd_mod (snd_b1 snd_rvar rb_int) snd_int) (snd_acons (snd_hix (by decide)) snd_anil)) (fun _ => rfl) (fun _ => rfl))) rb_int) (snd_var (by decide)))) snd_pass) (snd_hset (by decide) (snd_var (by decide)))))) snd_pass) (snd_seq (snd_ifS (snd_test (snd_gt (snd_hix (by decide)) snd_int)) (snd_seq (snd_set (snd_hix (by decide))) (snd_seq (snd_hset (by decide) (snd_fdiv (snd_b1 snd_rvar rb_int) (snd_var (by decide)))) (snd_ret (snd_mod (snd_b1 snd_rvar rb_int) (snd_var (by decide)))))) snd_pass) (snd_seq (snd_hset (by decide) (snd_mod (snd_b1 (snd_r (snd_addX (snd_r (snd_hix (by decide))) (snd_r snd_int))) rb_int) snd_int)) (snd_ret (snd_mod (snd_b1 (snd_r (snd_call (dd := []) (snd_acons (snd_hix (by decide)) (snd_acons (snd_hix (by decide)) snd_anil)) (fun _ => rfl) (fun _ => rfl))) rb_int) (snd_var (by decide)))))))⟩
theorem sc__law_kinds : FnScope ["_law_made", "_law_told"] ["_law_made"] (defScope s26) := ⟨rfl, rfl, rfl, by decide +kernel, rfl, by decide +kernel, by decide +kernel⟩
def m__law_kinds : FM := mkFn 2 1 (sSeq (sSet 1 (eArgs (pf fLst) aNil)) (sSeq (sSet 1 (eOp fAddL (eVar 1) (eArgs (pf fLst) (aCons (eUn (fXv xfl isl (.own "BadField")) (eVar 0)) (aCons (eUn (fXv xfl isl (.own "BadThing")) (eVar 0)) (aCons (eUn (fXv xfl isl (.own "ZeroThing")) (eVar 0)) (aCons (eUn (fXv xfl isl (.own "BadColumns")) (eVar 0)) aNil))))))) (sSeq (sSet 1 (eOp fAddL (eVar 1) (eArgs (pf fLst) (aCons (eUn (fXv xfl isl (.own "BadWord")) (eVar 0)) (aCons (eUn (fXv xfl isl (.own "BadTable")) (eVar 0)) (aCons (eUn (fXv xfl isl (.own "BadRow")) (eVar 0)) (aCons (eUn (fXv xfl isl (.own "Unlike")) (eVar 0)) aNil))))))) (sSeq (sSet 1 (eOp fAddL (eVar 1) (eArgs (pf fLst) (aCons (eUn (fXv xfl isl (.own "BadText")) (eVar 0)) (aCons (eUn (fXv xfl isl (.own "BadPoly")) (eVar 0)) (aCons (eUn (fXv xfl isl (.own "NoDivisor")) (eVar 0)) (aCons (eUn (fXv xfl isl (.own "BadPoints")) (eVar 0)) aNil))))))) (sSeq (sSet 1 (eOp fAddL (eVar 1) (eArgs (pf fLst) (aCons (eUn (fXv xfl isl (.own "NotApart")) (eVar 0)) (aCons (eUn (fXv xfl isl (.own "NotInvertible")) (eVar 0)) (aCons (eUn (fXv xfl isl (.own "BadLot")) (eVar 0)) (aCons (eUn (fXv xfl isl (.own "BadDistance")) (eVar 0)) aNil))))))) (sSeq (sSet 1 (eOp fAddL (eVar 1) (eArgs (pf fLst) (aCons (eUn (fXv xfl isl (.own "NotMet")) (eVar 0)) (aCons (eUn (fXv xfl isl (.own "BadHead")) (eVar 0)) (aCons (eUn (fXv xfl isl (.own "BadClosed")) (eVar 0)) (aCons (eUn (fXv xfl isl (.own "TooMany")) (eVar 0)) aNil))))))) (sSeq (sSet 1 (eOp fAddL (eVar 1) (eArgs (pf fLst) (aCons (eUn (fXv xfl isl (.own "BadTerms")) (eVar 0)) (aCons (eUn (fXv xfl isl (.own "NotMember")) (eVar 0)) (aCons (eUn (fXv xfl isl (.own "BadSizes")) (eVar 0)) (aCons (eUn (fXv xfl isl (.own "BadCounts")) (eVar 0)) aNil))))))) (sSeq (sSet 1 (eOp fAddL (eVar 1) (eArgs (pf fLst) (aCons (eUn (fXv xfl isl (.own "NoLot")) (eVar 0)) (aCons (eUn (fXv xfl isl (.own "BadErrors")) (eVar 0)) (aCons (eUn (fXv xfl isl (.own "BadLoss")) (eVar 0)) (aCons (eUn (fXv xfl isl (.own "NoClash")) (eVar 0)) aNil))))))) (sSeq (sSet 1 (eOp fAddL (eVar 1) (eArgs (pf fLst) (aCons (eUn (fXv xfl isl (.own "BadCells")) (eVar 0)) (aCons (eUn (fXv xfl isl (.own "BadLane")) (eVar 0)) (aCons (eUn (fXv xfl isl (.own "TooSpoilt")) (eVar 0)) (aCons (eUn (fXv xfl isl (.own "BadComing")) (eVar 0)) aNil))))))) (sSeq (sSet 1 (eOp fAddL (eVar 1) (eArgs (pf fLst) (aCons (eUn (fXv xfl isl (.own "BadDeed")) (eVar 0)) (aCons (eUn (fXv xfl isl (.own "BadRows")) (eVar 0)) (aCons (eUn (fXv xfl isl (.own "NotBehind")) (eVar 0)) (aCons (eUn (fXv xfl isl (.own "NoColumn")) (eVar 0)) aNil))))))) (sSeq (sSet 1 (eOp fAddL (eVar 1) (eArgs (pf fLst) (aCons (eUn (fXv xfl isl (.own "NotClosedByThings")) (eVar 0)) (aCons (eUn (fXv xfl isl (.own "BadNumber")) (eVar 0)) (aCons (eUn (fXv xfl isl (.own "BadEdit")) (eVar 0)) (aCons (eUn (fXv xfl isl (.own "BadGoal")) (eVar 0)) aNil))))))) (sSeq (sSet 1 (eOp fAddL (eVar 1) (eArgs (pf fLst) (aCons (eUn (fXv xfl isl (.own "Held")) (eVar 0)) (aCons (eUn (fXv xfl isl (.own "NothingDone")) (eVar 0)) aNil))))) (sRet (eVar 1))))))))))))))
theorem ok__law_kinds (Z : Pk fa fn K mg) (Zx : exAll2 exl owns isl eml xfl K = true) : Good P w K mg base (He.ga K) "_law_kinds" ["_law_made"] 1 m__law_kinds := by
  obtain ⟨fd, F⟩ := Z.says.def_ 26 (d := d26) rfl
  refine ⟨fd, ?_, F.bindsN fun _ _ _ _ _ _ us hl => match us, hl with | [_], _ => rfl, F.kp, Z.glo 26⟩
  refine fn_ok F sc__law_kinds fun hdp cdv A outer st H E hr => ?_
  have tk := takes_of (X := cxOf (L2.CX P w) P w K mg base ["_law_made", "_law_told"] "_law_kinds" (defScope s26) (He.ga K "_law_kinds") cdv A outer st H E) rfl rfl rfl rfl
  have gl_BadCells := Z.glo 103
  have gl_BadClosed := Z.glo 79
  have gl_BadColumns := Z.glo 41
  have gl_BadComing := Z.glo 109
  have gl_BadCounts := Z.glo 91
  have gl_BadDeed := Z.glo 112
  have gl_BadDistance := Z.glo 70
  have gl_BadEdit := Z.glo 128
  have gl_BadErrors := Z.glo 95
  have gl_BadField := Z.glo 34
  have gl_BadGoal := Z.glo 130
  have gl_BadHead := Z.glo 76
  have gl_BadLane := Z.glo 105
  have gl_BadLoss := Z.glo 98
  have gl_BadLot := Z.glo 68
  have gl_BadNumber := Z.glo 125
  have gl_BadPoints := Z.glo 61
  have gl_BadPoly := Z.glo 56
  have gl_BadRow := Z.glo 49
  have gl_BadRows := Z.glo 114
  have gl_BadSizes := Z.glo 89
  have gl_BadTable := Z.glo 46
  have gl_BadTerms := Z.glo 83
  have gl_BadText := Z.glo 54
  have gl_BadThing := Z.glo 36
  have gl_BadWord := Z.glo 44
  have gl_Held := Z.glo 132
  have gl_NoClash := Z.glo 100
  have gl_NoColumn := Z.glo 119
  have gl_NoDivisor := Z.glo 58
  have gl_NoLot := Z.glo 93
  have gl_NotApart := Z.glo 63
  have gl_NotBehind := Z.glo 116
  have gl_NotClosedByThings := Z.glo 122
  have gl_NotInvertible := Z.glo 65
  have gl_NotMember := Z.glo 86
  have gl_NotMet := Z.glo 73
  have gl_NothingDone := Z.glo 134
  have gl_TooMany := Z.glo 81
  have gl_TooSpoilt := Z.glo 107
  have gl_Unlike := Z.glo 51
  have gl_ZeroThing := Z.glo 38
  exact ⟨_, [], [], (pss_cons (ps_set (i := 1) sc__law_kinds.nd rfl (by first | exact Or.inl rfl | exact Or.inr rfl) (pe_lst pa_nil)) (pss_cons (ps_set (i := 1) sc__law_kinds.nd rfl (by first | exact Or.inl rfl | exact Or.inr rfl) (pe_op op_cat (pv 1) (pe_lst (pa_cons (pe_callB call_xv (by rfl) (Z.free 140) (by decide +kernel) (pa_cons (pv 0) (pa_cons (pe_glob (v := .ref (He.ga K "BadField")) (by rfl) gl_BadField rfl) pa_nil))) (pa_cons (pe_callB call_xv (by rfl) (Z.free 140) (by decide +kernel) (pa_cons (pv 0) (pa_cons (pe_glob (v := .ref (He.ga K "BadThing")) (by rfl) gl_BadThing rfl) pa_nil))) (pa_cons (pe_callB call_xv (by rfl) (Z.free 140) (by decide +kernel) (pa_cons (pv 0) (pa_cons (pe_glob (v := .ref (He.ga K "ZeroThing")) (by rfl) gl_ZeroThing rfl) pa_nil))) (pa_cons (pe_callB call_xv (by rfl) (Z.free 140) (by decide +kernel) (pa_cons (pv 0) (pa_cons (pe_glob (v := .ref (He.ga K "BadColumns")) (by rfl) gl_BadColumns rfl) pa_nil))) pa_nil))))))) (pss_cons (ps_set (i := 1) sc__law_kinds.nd rfl (by first | exact Or.inl rfl | exact Or.inr rfl) (pe_op op_cat (pv 1) (pe_lst (pa_cons (pe_callB call_xv (by rfl) (Z.free 140) (by decide +kernel) (pa_cons (pv 0) (pa_cons (pe_glob (v := .ref (He.ga K "BadWord")) (by rfl) gl_BadWord rfl) pa_nil))) (pa_cons (pe_callB call_xv (by rfl) (Z.free 140) (by decide +kernel) (pa_cons (pv 0) (pa_cons (pe_glob (v := .ref (He.ga K "BadTable")) (by rfl) gl_BadTable rfl) pa_nil))) (pa_cons (pe_callB call_xv (by rfl) (Z.free 140) (by decide +kernel) (pa_cons (pv 0) (pa_cons (pe_glob (v := .ref (He.ga K "BadRow")) (by rfl) gl_BadRow rfl) pa_nil))) (pa_cons (pe_callB call_xv (by rfl) (Z.free 140) (by decide +kernel) (pa_cons (pv 0) (pa_cons (pe_glob (v := .ref (He.ga K "Unlike")) (by rfl) gl_Unlike rfl) pa_nil))) pa_nil))))))) (pss_cons (ps_set (i := 1) sc__law_kinds.nd rfl (by first | exact Or.inl rfl | exact Or.inr rfl) (pe_op op_cat (pv 1) (pe_lst (pa_cons (pe_callB call_xv (by rfl) (Z.free 140) (by decide +kernel) (pa_cons (pv 0) (pa_cons (pe_glob (v := .ref (He.ga K "BadText")) (by rfl) gl_BadText rfl) pa_nil))) (pa_cons (pe_callB call_xv (by rfl) (Z.free 140) (by decide +kernel) (pa_cons (pv 0) (pa_cons (pe_glob (v := .ref (He.ga K "BadPoly")) (by rfl) gl_BadPoly rfl) pa_nil))) (pa_cons (pe_callB call_xv (by rfl) (Z.free 140) (by decide +kernel) (pa_cons (pv 0) (pa_cons (pe_glob (v := .ref (He.ga K "NoDivisor")) (by rfl) gl_NoDivisor rfl) pa_nil))) (pa_cons (pe_callB call_xv (by rfl) (Z.free 140) (by decide +kernel) (pa_cons (pv 0) (pa_cons (pe_glob (v := .ref (He.ga K "BadPoints")) (by rfl) gl_BadPoints rfl) pa_nil))) pa_nil))))))) (pss_cons (ps_set (i := 1) sc__law_kinds.nd rfl (by first | exact Or.inl rfl | exact Or.inr rfl) (pe_op op_cat (pv 1) (pe_lst (pa_cons (pe_callB call_xv (by rfl) (Z.free 140) (by decide +kernel) (pa_cons (pv 0) (pa_cons (pe_glob (v := .ref (He.ga K "NotApart")) (by rfl) gl_NotApart rfl) pa_nil))) (pa_cons (pe_callB call_xv (by rfl) (Z.free 140) (by decide +kernel) (pa_cons (pv 0) (pa_cons (pe_glob (v := .ref (He.ga K "NotInvertible")) (by rfl) gl_NotInvertible rfl) pa_nil))) (pa_cons (pe_callB call_xv (by rfl) (Z.free 140) (by decide +kernel) (pa_cons (pv 0) (pa_cons (pe_glob (v := .ref (He.ga K "BadLot")) (by rfl) gl_BadLot rfl) pa_nil))) (pa_cons (pe_callB call_xv (by rfl) (Z.free 140) (by decide +kernel) (pa_cons (pv 0) (pa_cons (pe_glob (v := .ref (He.ga K "BadDistance")) (by rfl) gl_BadDistance rfl) pa_nil))) pa_nil))))))) (pss_cons (ps_set (i := 1) sc__law_kinds.nd rfl (by first | exact Or.inl rfl | exact Or.inr rfl) (pe_op op_cat (pv 1) (pe_lst (pa_cons (pe_callB call_xv (by rfl) (Z.free 140) (by decide +kernel) (pa_cons (pv 0) (pa_cons (pe_glob (v := .ref (He.ga K "NotMet")) (by rfl) gl_NotMet rfl) pa_nil))) (pa_cons (pe_callB call_xv (by rfl) (Z.free 140) (by decide +kernel) (pa_cons (pv 0) (pa_cons (pe_glob (v := .ref (He.ga K "BadHead")) (by rfl) gl_BadHead rfl) pa_nil))) (pa_cons (pe_callB call_xv (by rfl) (Z.free 140) (by decide +kernel) (pa_cons (pv 0) (pa_cons (pe_glob (v := .ref (He.ga K "BadClosed")) (by rfl) gl_BadClosed rfl) pa_nil))) (pa_cons (pe_callB call_xv (by rfl) (Z.free 140) (by decide +kernel) (pa_cons (pv 0) (pa_cons (pe_glob (v := .ref (He.ga K "TooMany")) (by rfl) gl_TooMany rfl) pa_nil))) pa_nil))))))) (pss_cons (ps_set (i := 1) sc__law_kinds.nd rfl (by first | exact Or.inl rfl | exact Or.inr rfl) (pe_op op_cat (pv 1) (pe_lst (pa_cons (pe_callB call_xv (by rfl) (Z.free 140) (by decide +kernel) (pa_cons (pv 0) (pa_cons (pe_glob (v := .ref (He.ga K "BadTerms")) (by rfl) gl_BadTerms rfl) pa_nil))) (pa_cons (pe_callB call_xv (by rfl) (Z.free 140) (by decide +kernel) (pa_cons (pv 0) (pa_cons (pe_glob (v := .ref (He.ga K "NotMember")) (by rfl) gl_NotMember rfl) pa_nil))) (pa_cons (pe_callB call_xv (by rfl) (Z.free 140) (by decide +kernel) (pa_cons (pv 0) (pa_cons (pe_glob (v := .ref (He.ga K "BadSizes")) (by rfl) gl_BadSizes rfl) pa_nil))) (pa_cons (pe_callB call_xv (by rfl) (Z.free 140) (by decide +kernel) (pa_cons (pv 0) (pa_cons (pe_glob (v := .ref (He.ga K "BadCounts")) (by rfl) gl_BadCounts rfl) pa_nil))) pa_nil))))))) (pss_cons (ps_set (i := 1) sc__law_kinds.nd rfl (by first | exact Or.inl rfl | exact Or.inr rfl) (pe_op op_cat (pv 1) (pe_lst (pa_cons (pe_callB call_xv (by rfl) (Z.free 140) (by decide +kernel) (pa_cons (pv 0) (pa_cons (pe_glob (v := .ref (He.ga K "NoLot")) (by rfl) gl_NoLot rfl) pa_nil))) (pa_cons (pe_callB call_xv (by rfl) (Z.free 140) (by decide +kernel) (pa_cons (pv 0) (pa_cons (pe_glob (v := .ref (He.ga K "BadErrors")) (by rfl) gl_BadErrors rfl) pa_nil))) (pa_cons (pe_callB call_xv (by rfl) (Z.free 140) (by decide +kernel) (pa_cons (pv 0) (pa_cons (pe_glob (v := .ref (He.ga K "BadLoss")) (by rfl) gl_BadLoss rfl) pa_nil))) (pa_cons (pe_callB call_xv (by rfl) (Z.free 140) (by decide +kernel) (pa_cons (pv 0) (pa_cons (pe_glob (v := .ref (He.ga K "NoClash")) (by rfl) gl_NoClash rfl) pa_nil))) pa_nil))))))) (pss_cons (ps_set (i := 1) sc__law_kinds.nd rfl (by first | exact Or.inl rfl | exact Or.inr rfl) (pe_op op_cat (pv 1) (pe_lst (pa_cons (pe_callB call_xv (by rfl) (Z.free 140) (by decide +kernel) (pa_cons (pv 0) (pa_cons (pe_glob (v := .ref (He.ga K "BadCells")) (by rfl) gl_BadCells rfl) pa_nil))) (pa_cons (pe_callB call_xv (by rfl) (Z.free 140) (by decide +kernel) (pa_cons (pv 0) (pa_cons (pe_glob (v := .ref (He.ga K "BadLane")) (by rfl) gl_BadLane rfl) pa_nil))) (pa_cons (pe_callB call_xv (by rfl) (Z.free 140) (by decide +kernel) (pa_cons (pv 0) (pa_cons (pe_glob (v := .ref (He.ga K "TooSpoilt")) (by rfl) gl_TooSpoilt rfl) pa_nil))) (pa_cons (pe_callB call_xv (by rfl) (Z.free 140) (by decide +kernel) (pa_cons (pv 0) (pa_cons (pe_glob (v := .ref (He.ga K "BadComing")) (by rfl) gl_BadComing rfl) pa_nil))) pa_nil))))))) (pss_cons (ps_set (i := 1) sc__law_kinds.nd rfl (by first | exact Or.inl rfl | exact Or.inr rfl) (pe_op op_cat (pv 1) (pe_lst (pa_cons (pe_callB call_xv (by rfl) (Z.free 140) (by decide +kernel) (pa_cons (pv 0) (pa_cons (pe_glob (v := .ref (He.ga K "BadDeed")) (by rfl) gl_BadDeed rfl) pa_nil))) (pa_cons (pe_callB call_xv (by rfl) (Z.free 140) (by decide +kernel) (pa_cons (pv 0) (pa_cons (pe_glob (v := .ref (He.ga K "BadRows")) (by rfl) gl_BadRows rfl) pa_nil))) (pa_cons (pe_callB call_xv (by rfl) (Z.free 140) (by decide +kernel) (pa_cons (pv 0) (pa_cons (pe_glob (v := .ref (He.ga K "NotBehind")) (by rfl) gl_NotBehind rfl) pa_nil))) (pa_cons (pe_callB call_xv (by rfl) (Z.free 140) (by decide +kernel) (pa_cons (pv 0) (pa_cons (pe_glob (v := .ref (He.ga K "NoColumn")) (by rfl) gl_NoColumn rfl) pa_nil))) pa_nil))))))) (pss_cons (ps_set (i := 1) sc__law_kinds.nd rfl (by first | exact Or.inl rfl | exact Or.inr rfl) (pe_op op_cat (pv 1) (pe_lst (pa_cons (pe_callB call_xv (by rfl) (Z.free 140) (by decide +kernel) (pa_cons (pv 0) (pa_cons (pe_glob (v := .ref (He.ga K "NotClosedByThings")) (by rfl) gl_NotClosedByThings rfl) pa_nil))) (pa_cons (pe_callB call_xv (by rfl) (Z.free 140) (by decide +kernel) (pa_cons (pv 0) (pa_cons (pe_glob (v := .ref (He.ga K "BadNumber")) (by rfl) gl_BadNumber rfl) pa_nil))) (pa_cons (pe_callB call_xv (by rfl) (Z.free 140) (by decide +kernel) (pa_cons (pv 0) (pa_cons (pe_glob (v := .ref (He.ga K "BadEdit")) (by rfl) gl_BadEdit rfl) pa_nil))) (pa_cons (pe_callB call_xv (by rfl) (Z.free 140) (by decide +kernel) (pa_cons (pv 0) (pa_cons (pe_glob (v := .ref (He.ga K "BadGoal")) (by rfl) gl_BadGoal rfl) pa_nil))) pa_nil))))))) (pss_cons (ps_set (i := 1) sc__law_kinds.nd rfl (by first | exact Or.inl rfl | exact Or.inr rfl) (pe_op op_cat (pv 1) (pe_lst (pa_cons (pe_callB call_xv (by rfl) (Z.free 140) (by decide +kernel) (pa_cons (pv 0) (pa_cons (pe_glob (v := .ref (He.ga K "Held")) (by rfl) gl_Held rfl) pa_nil))) (pa_cons (pe_callB call_xv (by rfl) (Z.free 140) (by decide +kernel) (pa_cons (pv 0) (pa_cons (pe_glob (v := .ref (He.ga K "NothingDone")) (by rfl) gl_NothingDone rfl) pa_nil))) pa_nil))))) (pss_one (ps_ret (pv 1))))))))))))))), (snd_seq (snd_set (snd_l (snd_lst snd_anil))) (snd_seq (snd_set (snd_l (snd_addL snd_rvar (snd_r (snd_l (snd_lst (snd_acons (snd_xv (T := (.own "BadField")) Zx rfl (snd_var (by decide))) (snd_acons (snd_xv (T := (.own "BadThing")) Zx rfl (snd_var (by decide))) (snd_acons (snd_xv (T := (.own "ZeroThing")) Zx rfl (snd_var (by decide))) (snd_acons (snd_xv (T := (.own "BadColumns")) Zx rfl (snd_var (by decide))) snd_anil)))))))))) (snd_seq (snd_set (snd_l (snd_addL snd_rvar (snd_r (snd_l (snd_lst (snd_acons (snd_xv (T := (.own "BadWord")) Zx rfl (snd_var (by decide))) (snd_acons (snd_xv (T := (.own "BadTable")) Zx rfl (snd_var (by decide))) (snd_acons (snd_xv (T := (.own "BadRow")) Zx rfl (snd_var (by decide))) (snd_acons (snd_xv (T := (.own "Unlike")) Zx rfl (snd_var (by decide))) snd_anil)))))))))) (snd_seq (snd_set (snd_l (snd_addL snd_rvar (snd_r (snd_l (snd_lst (snd_acons (snd_xv (T := (.own "BadText")) Zx rfl (snd_var (by decide))) (snd_acons (snd_xv (T := (.own "BadPoly")) Zx rfl (snd_var (by decide))) (snd_acons (snd_xv (T := (.own "NoDivisor")) Zx rfl (snd_var (by decide))) (snd_acons (snd_xv (T := (.own "BadPoints")) Zx rfl (snd_var (by decide))) snd_anil)))))))))) (snd_seq (snd_set (snd_l (snd_addL snd_rvar (snd_r (snd_l (snd_lst (snd_acons (snd_xv (T := (.own "NotApart")) Zx rfl (snd_var (by decide))) (snd_acons (snd_xv (T := (.own "NotInvertible")) Zx rfl (snd_var (by decide))) (snd_acons (snd_xv (T := (.own "BadLot")) Zx rfl (snd_var (by decide))) (snd_acons (snd_xv (T := (.own "BadDistance")) Zx rfl (snd_var (by decide))) snd_anil)))))))))) (snd_seq (snd_set (snd_l (snd_addL snd_rvar (snd_r (snd_l (snd_lst (snd_acons (snd_xv (T := (.own "NotMet")) Zx rfl (snd_var (by decide))) (snd_acons (snd_xv (T := (.own "BadHead")) Zx rfl (snd_var (by decide))) (snd_acons (snd_xv (T := (.own "BadClosed")) Zx rfl (snd_var (by decide))) (snd_acons (snd_xv (T := (.own "TooMany")) Zx rfl (snd_var (by decide))) snd_anil)))))))))) (snd_seq (snd_set (snd_l (snd_addL snd_rvar (snd_r (snd_l (snd_lst (snd_acons (snd_xv (T := (.own "BadTerms")) Zx rfl (snd_var (by decide))) (snd_acons (snd_xv (T := (.own "NotMember")) Zx rfl (snd_var (by decide))) (snd_acons (snd_xv (T := (.own "BadSizes")) Zx rfl (snd_var (by decide))) (snd_acons (snd_xv (T := (.own "BadCounts")) Zx rfl (snd_var (by decide))) snd_anil)))))))))) (snd_seq (snd_set (snd_l (snd_addL snd_rvar (snd_r (snd_l (snd_lst (snd_acons (snd_xv (T := (.own "NoLot")) Zx rfl (snd_var (by decide))) (snd_acons (snd_xv (T := (.own "BadErrors")) Zx rfl (snd_var (by decide))) (snd_acons (snd_xv (T := (.own "BadLoss")) Zx rfl (snd_var (by decide))) (snd_acons (snd_xv (T := (.own "NoClash")) Zx rfl (snd_var (by decide))) snd_anil)))))))))) (snd_seq (snd_set (snd_l (snd_addL snd_rvar (snd_r (snd_l (snd_lst (snd_acons (snd_xv (T := (.own "BadCells")) Zx rfl (snd_var (by decide))) (snd_acons (snd_xv (T := (.own "BadLane")) Zx rfl (snd_var (by decide))) (snd_acons (snd_xv (T := (.own "TooSpoilt")) Zx rfl (snd_var (by decide))) (snd_acons (snd_xv (T := (.own "BadComing")) Zx rfl (snd_var (by decide))) snd_anil)))))))))) (snd_seq (snd_set (snd_l (snd_addL snd_rvar (snd_r (snd_l (snd_lst (snd_acons (snd_xv (T := (.own "BadDeed")) Zx rfl (snd_var (by decide))) (snd_acons (snd_xv (T := (.own "BadRows")) Zx rfl (snd_var (by decide))) (snd_acons (snd_xv (T := (.own "NotBehind")) Zx rfl (snd_var (by decide))) (snd_acons (snd_xv (T := (.own "NoColumn")) Zx rfl (snd_var (by decide))) snd_anil)))))))))) (snd_seq (snd_set (snd_l (snd_addL snd_rvar (snd_r (snd_l (snd_lst (snd_acons (snd_xv (T := (.own "NotClosedByThings")) Zx rfl (snd_var (by decide))) (snd_acons (snd_xv (T := (.own "BadNumber")) Zx rfl (snd_var (by decide))) (snd_acons (snd_xv (T := (.own "BadEdit")) Zx rfl (snd_var (by decide))) (snd_acons (snd_xv (T := (.own "BadGoal")) Zx rfl (snd_var (by decide))) snd_anil)))))))))) (snd_seq (snd_set (snd_l (snd_addL snd_rvar (snd_r (snd_l (snd_lst (snd_acons (snd_xv (T := (.own "Held")) Zx rfl (snd_var (by decide))) (snd_acons (snd_xv (T := (.own "NothingDone")) Zx rfl (snd_var (by decide))) snd_anil)))))))) (snd_ret (snd_var (by decide)))))))))))))))⟩
theorem sc__law_first : FnScope ["_law_one", "_law_other", "_law_told"] ["_law_one", "_law_other"] (defScope s27) := ⟨rfl, rfl, rfl, by decide +kernel, rfl, by decide +kernel, by decide +kernel⟩
def m__law_first : FM := mkFn 3 2 (sSeq (sSet 2 (eArgs (pf fLst) aNil)) (sSeq (sApp 2 (eArgs (pf fTup) (aCons (eArgs (pf (fMk1 "BadField" "what")) (aCons (eVar 0) aNil)) (aCons (eArgs (pf fLst) (aCons (eVar 0) aNil)) aNil)))) (sSeq (sApp 2 (eArgs (pf fTup) (aCons (eArgs (pf (fMk1 "BadThing" "index")) (aCons (eVar 0) aNil)) (aCons (eArgs (pf fLst) (aCons (eVar 0) aNil)) aNil)))) (sSeq (sApp 2 (eArgs (pf fTup) (aCons (eMk0 "ZeroThing") (aCons (eArgs (pf fLst) aNil) aNil)))) (sSeq (sApp 2 (eArgs (pf fTup) (aCons (eMk0 "BadColumns") (aCons (eArgs (pf fLst) aNil) aNil)))) (sSeq (sApp 2 (eArgs (pf fTup) (aCons (eArgs (pf (fMk1 "BadWord" "index")) (aCons (eVar 0) aNil)) (aCons (eArgs (pf fLst) (aCons (eVar 0) aNil)) aNil)))) (sSeq (sApp 2 (eArgs (pf fTup) (aCons (eMk0 "BadTable") (aCons (eArgs (pf fLst) aNil) aNil)))) (sSeq (sApp 2 (eArgs (pf fTup) (aCons (eArgs (pf (fMk1 "BadRow" "index")) (aCons (eVar 0) aNil)) (aCons (eArgs (pf fLst) (aCons (eVar 0) aNil)) aNil)))) (sSeq (sApp 2 (eArgs (pf fTup) (aCons (eMk0 "Unlike") (aCons (eArgs (pf fLst) aNil) aNil)))) (sSeq (sApp 2 (eArgs (pf fTup) (aCons (eArgs (pf (fMk1 "BadText" "line")) (aCons (eVar 0) aNil)) (aCons (eArgs (pf fLst) (aCons (eVar 0) aNil)) aNil)))) (sSeq (sApp 2 (eArgs (pf fTup) (aCons (eArgs (pf (fMk1 "BadPoly" "index")) (aCons (eVar 0) aNil)) (aCons (eArgs (pf fLst) (aCons (eVar 0) aNil)) aNil)))) (sSeq (sApp 2 (eArgs (pf fTup) (aCons (eMk0 "NoDivisor") (aCons (eArgs (pf fLst) aNil) aNil)))) (sSeq (sApp 2 (eArgs (pf fTup) (aCons (eArgs (pf (fMk1 "BadPoints" "index")) (aCons (eVar 0) aNil)) (aCons (eArgs (pf fLst) (aCons (eVar 0) aNil)) aNil)))) (sSeq (sApp 2 (eArgs (pf fTup) (aCons (eArgs (pf (fMk1 "NotApart" "index")) (aCons (eVar 0) aNil)) (aCons (eArgs (pf fLst) (aCons (eVar 0) aNil)) aNil)))) (sSeq (sApp 2 (eArgs (pf fTup) (aCons (eMk0 "NotInvertible") (aCons (eArgs (pf fLst) aNil) aNil)))) (sSeq (sApp 2 (eArgs (pf fTup) (aCons (eArgs (pf (fMk1 "BadLot" "what")) (aCons (eVar 0) aNil)) (aCons (eArgs (pf fLst) (aCons (eVar 0) aNil)) aNil)))) (sSeq (sApp 2 (eArgs (pf fTup) (aCons (eMk0 "BadDistance") (aCons (eArgs (pf fLst) aNil) aNil)))) (sSeq (sApp 2 (eArgs (pf fTup) (aCons (eMk0 "NotMet") (aCons (eArgs (pf fLst) aNil) aNil)))) (sSeq (sApp 2 (eArgs (pf fTup) (aCons (eMk0 "BadHead") (aCons (eArgs (pf fLst) aNil) aNil)))) (sSeq (sApp 2 (eArgs (pf fTup) (aCons (eArgs (pf (fMk1 "BadClosed" "what")) (aCons (eVar 0) aNil)) (aCons (eArgs (pf fLst) (aCons (eVar 0) aNil)) aNil)))) (sSeq (sApp 2 (eArgs (pf fTup) (aCons (eArgs (pf (fMk1 "TooMany" "size")) (aCons (eVar 0) aNil)) (aCons (eArgs (pf fLst) (aCons (eVar 0) aNil)) aNil)))) (sSeq (sApp 2 (eArgs (pf fTup) (aCons (eMk0 "BadTerms") (aCons (eArgs (pf fLst) aNil) aNil)))) (sRet (eVar 2))))))))))))))))))))))))
theorem ok__law_first (Z : Pk fa fn K mg) (Zx : exAll2 exl owns isl eml xfl K = true) : Good P w K mg base (He.ga K) "_law_first" ["_law_one", "_law_other"] 3 m__law_first := by
  obtain ⟨fd, F⟩ := Z.says.def_ 27 (d := d27) rfl
  refine ⟨fd, ?_, F.bindsN fun _ _ _ _ _ _ us hl => match us, hl with | [_, _], _ => rfl, F.kp, Z.glo 27⟩
  refine fn_ok F sc__law_first fun hdp cdv A outer st H E hr => ?_
  have tk := takes_of (X := cxOf (L2.CX P w) P w K mg base ["_law_one", "_law_other", "_law_told"] "_law_first" (defScope s27) (He.ga K "_law_first") cdv A outer st H E) rfl rfl rfl rfl
  have gl_BadClosed := Z.glo 79
  have xo_BadClosed := oexAll_ok (exAll_oex (exAll2_a Zx)) 9 rfl
  obtain ⟨fd_BadClosed, fx_BadClosed, bx_BadClosed⟩ := okx_BadClosed (P := P) (w := w) (base := base) Z
  have gl_BadColumns := Z.glo 41
  have xc_BadColumns := He.exc_ok (Z.says.fact 43 rfl)
  have gl_BadDistance := Z.glo 70
  have xc_BadDistance := He.exc_ok (Z.says.fact 72 rfl)
  have gl_BadField := Z.glo 34
  have xo_BadField := oexAll_ok (exAll_oex (exAll2_a Zx)) 0 rfl
  obtain ⟨fd_BadField, fx_BadField, bx_BadField⟩ := okx_BadField (P := P) (w := w) (base := base) Z
  have gl_BadHead := Z.glo 76
  have xc_BadHead := He.exc_ok (Z.says.fact 78 rfl)
  have gl_BadLot := Z.glo 68
  have xo_BadLot := oexAll_ok (exAll_oex (exAll2_a Zx)) 8 rfl
  obtain ⟨fd_BadLot, fx_BadLot, bx_BadLot⟩ := okx_BadLot (P := P) (w := w) (base := base) Z
  have gl_BadPoints := Z.glo 61
  have xo_BadPoints := oexAll_ok (exAll_oex (exAll2_a Zx)) 6 rfl
  obtain ⟨fd_BadPoints, fx_BadPoints, bx_BadPoints⟩ := okx_BadPoints (P := P) (w := w) (base := base) Z
  have gl_BadPoly := Z.glo 56
  have xo_BadPoly := oexAll_ok (exAll_oex (exAll2_a Zx)) 5 rfl
  obtain ⟨fd_BadPoly, fx_BadPoly, bx_BadPoly⟩ := okx_BadPoly (P := P) (w := w) (base := base) Z
  have gl_BadRow := Z.glo 49
  have xo_BadRow := oexAll_ok (exAll_oex (exAll2_a Zx)) 3 rfl
  obtain ⟨fd_BadRow, fx_BadRow, bx_BadRow⟩ := okx_BadRow (P := P) (w := w) (base := base) Z
  have gl_BadTable := Z.glo 46
  have xc_BadTable := He.exc_ok (Z.says.fact 48 rfl)
  have gl_BadTerms := Z.glo 83
  have xc_BadTerms := He.exc_ok (Z.says.fact 85 rfl)
  have gl_BadText := Z.glo 54
  have xo_BadText := oexAll_ok (exAll_oex (exAll2_a Zx)) 4 rfl
  obtain ⟨fd_BadText, fx_BadText, bx_BadText⟩ := okx_BadText (P := P) (w := w) (base := base) Z
  have gl_BadThing := Z.glo 36
  have xo_BadThing := oexAll_ok (exAll_oex (exAll2_a Zx)) 1 rfl
  obtain ⟨fd_BadThing, fx_BadThing, bx_BadThing⟩ := okx_BadThing (P := P) (w := w) (base := base) Z
  have gl_BadWord := Z.glo 44
  have xo_BadWord := oexAll_ok (exAll_oex (exAll2_a Zx)) 2 rfl
  obtain ⟨fd_BadWord, fx_BadWord, bx_BadWord⟩ := okx_BadWord (P := P) (w := w) (base := base) Z
  have gl_NoDivisor := Z.glo 58
  have xc_NoDivisor := He.exc_ok (Z.says.fact 60 rfl)
  have gl_NotApart := Z.glo 63
  have xo_NotApart := oexAll_ok (exAll_oex (exAll2_a Zx)) 7 rfl
  obtain ⟨fd_NotApart, fx_NotApart, bx_NotApart⟩ := okx_NotApart (P := P) (w := w) (base := base) Z
  have gl_NotInvertible := Z.glo 65
  have xc_NotInvertible := He.exc_ok (Z.says.fact 67 rfl)
  have gl_NotMet := Z.glo 73
  have xc_NotMet := He.exc_ok (Z.says.fact 75 rfl)
  have gl_TooMany := Z.glo 81
  have xo_TooMany := oexAll_ok (exAll_oex (exAll2_a Zx)) 10 rfl
  obtain ⟨fd_TooMany, fx_TooMany, bx_TooMany⟩ := okx_TooMany (P := P) (w := w) (base := base) Z
  have gl_Unlike := Z.glo 51
  have xc_Unlike := He.exc_ok (Z.says.fact 53 rfl)
  have gl_ZeroThing := Z.glo 38
  have xc_ZeroThing := He.exc_ok (Z.says.fact 40 rfl)
  exact ⟨_, [], [], (pss_cons (ps_set (i := 2) sc__law_first.nd rfl (by first | exact Or.inl rfl | exact Or.inr rfl) (pe_lst pa_nil)) (pss_cons (ps_expr (pe_bm PySem.F.plainAttrs_list PySem.F.slot_list_append PySem.F.type_list_append mt_append (pv 2) (pa_cons (pe_tup (pa_cons (pe_exv (pmk_oex xo_BadField.1 xo_BadField.2.1 xo_BadField.2.2.1 fx_BadField (hr.toRoom.mono (by decide)) bx_BadField .nil (passF tk) (by rfl) gl_BadField (pa_cons (pv 0) pa_nil))) (pa_cons (pe_lst (pa_cons (pv 0) pa_nil)) pa_nil))) pa_nil))) (pss_cons (ps_expr (pe_bm PySem.F.plainAttrs_list PySem.F.slot_list_append PySem.F.type_list_append mt_append (pv 2) (pa_cons (pe_tup (pa_cons (pe_exv (pmk_oex xo_BadThing.1 xo_BadThing.2.1 xo_BadThing.2.2.1 fx_BadThing (hr.toRoom.mono (by decide)) bx_BadThing .nil (passF tk) (by rfl) gl_BadThing (pa_cons (pv 0) pa_nil))) (pa_cons (pe_lst (pa_cons (pv 0) pa_nil)) pa_nil))) pa_nil))) (pss_cons (ps_expr (pe_bm PySem.F.plainAttrs_list PySem.F.slot_list_append PySem.F.type_list_append mt_append (pv 2) (pa_cons (pe_tup (pa_cons (pe_exv (pmk_own0 PySem.F.excBase_ValueError xc_ZeroThing.1 gl_ZeroThing xc_ZeroThing.2.1 (raises_own xc_ZeroThing.2.2.1 xc_ZeroThing.2.2.2) (by rfl))) (pa_cons (pe_lst pa_nil) pa_nil))) pa_nil))) (pss_cons (ps_expr (pe_bm PySem.F.plainAttrs_list PySem.F.slot_list_append PySem.F.type_list_append mt_append (pv 2) (pa_cons (pe_tup (pa_cons (pe_exv (pmk_own0 PySem.F.excBase_ValueError xc_BadColumns.1 gl_BadColumns xc_BadColumns.2.1 (raises_own xc_BadColumns.2.2.1 xc_BadColumns.2.2.2) (by rfl))) (pa_cons (pe_lst pa_nil) pa_nil))) pa_nil))) (pss_cons (ps_expr (pe_bm PySem.F.plainAttrs_list PySem.F.slot_list_append PySem.F.type_list_append mt_append (pv 2) (pa_cons (pe_tup (pa_cons (pe_exv (pmk_oex xo_BadWord.1 xo_BadWord.2.1 xo_BadWord.2.2.1 fx_BadWord (hr.toRoom.mono (by decide)) bx_BadWord .nil (passF tk) (by rfl) gl_BadWord (pa_cons (pv 0) pa_nil))) (pa_cons (pe_lst (pa_cons (pv 0) pa_nil)) pa_nil))) pa_nil))) (pss_cons (ps_expr (pe_bm PySem.F.plainAttrs_list PySem.F.slot_list_append PySem.F.type_list_append mt_append (pv 2) (pa_cons (pe_tup (pa_cons (pe_exv (pmk_own0 PySem.F.excBase_ValueError xc_BadTable.1 gl_BadTable xc_BadTable.2.1 (raises_own xc_BadTable.2.2.1 xc_BadTable.2.2.2) (by rfl))) (pa_cons (pe_lst pa_nil) pa_nil))) pa_nil))) (pss_cons (ps_expr (pe_bm PySem.F.plainAttrs_list PySem.F.slot_list_append PySem.F.type_list_append mt_append (pv 2) (pa_cons (pe_tup (pa_cons (pe_exv (pmk_oex xo_BadRow.1 xo_BadRow.2.1 xo_BadRow.2.2.1 fx_BadRow (hr.toRoom.mono (by decide)) bx_BadRow .nil (passF tk) (by rfl) gl_BadRow (pa_cons (pv 0) pa_nil))) (pa_cons (pe_lst (pa_cons (pv 0) pa_nil)) pa_nil))) pa_nil))) (pss_cons (ps_expr (pe_bm PySem.F.plainAttrs_list PySem.F.slot_list_append PySem.F.type_list_append mt_append (pv 2) (pa_cons (pe_tup (pa_cons (pe_exv (pmk_own0 PySem.F.excBase_ValueError xc_Unlike.1 gl_Unlike xc_Unlike.2.1 (raises_own xc_Unlike.2.2.1 xc_Unlike.2.2.2) (by rfl))) (pa_cons (pe_lst pa_nil) pa_nil))) pa_nil))) (pss_cons (ps_expr (pe_bm PySem.F.plainAttrs_list PySem.F.slot_list_append PySem.F.type_list_append mt_append (pv 2) (pa_cons (pe_tup (pa_cons (pe_exv (pmk_oex xo_BadText.1 xo_BadText.2.1 xo_BadText.2.2.1 fx_BadText (hr.toRoom.mono (by decide)) bx_BadText .nil (passF tk) (by rfl) gl_BadText (pa_cons (pv 0) pa_nil))) (pa_cons (pe_lst (pa_cons (pv 0) pa_nil)) pa_nil))) pa_nil))) (pss_cons (ps_expr (pe_bm PySem.F.plainAttrs_list PySem.F.slot_list_append PySem.F.type_list_append mt_append (pv 2) (pa_cons (pe_tup (pa_cons (pe_exv (pmk_oex xo_BadPoly.1 xo_BadPoly.2.1 xo_BadPoly.2.2.1 fx_BadPoly (hr.toRoom.mono (by decide)) bx_BadPoly .nil (passF tk) (by rfl) gl_BadPoly (pa_cons (pv 0) pa_nil))) (pa_cons (pe_lst (pa_cons (pv 0) pa_nil)) pa_nil))) pa_nil))) (pss_cons (ps_expr (pe_bm PySem.F.plainAttrs_list PySem.F.slot_list_append PySem.F.type_list_append mt_append (pv 2) (pa_cons (pe_tup (pa_cons (pe_exv (pmk_own0 PySem.F.excBase_ValueError xc_NoDivisor.1 gl_NoDivisor xc_NoDivisor.2.1 (raises_own xc_NoDivisor.2.2.1 xc_NoDivisor.2.2.2) (by rfl))) (pa_cons (pe_lst pa_nil) pa_nil))) pa_nil))) (pss_cons (ps_expr (pe_bm PySem.F.plainAttrs_list PySem.F.slot_list_append PySem.F.type_list_append mt_append (pv 2) (pa_cons (pe_tup (pa_cons (pe_exv (pmk_oex xo_BadPoints.1 xo_BadPoints.2.1 xo_BadPoints.2.2.1 fx_BadPoints (hr.toRoom.mono (by decide)) bx_BadPoints .nil (passF tk) (by rfl) gl_BadPoints (pa_cons (pv 0) pa_nil))) (pa_cons (pe_lst (pa_cons (pv 0) pa_nil)) pa_nil))) pa_nil))) (pss_cons (ps_expr (pe_bm PySem.F.plainAttrs_list PySem.F.slot_list_append PySem.F.type_list_append mt_append (pv 2) (pa_cons (pe_tup (pa_cons (pe_exv (pmk_oex xo_NotApart.1 xo_NotApart.2.1 xo_NotApart.2.2.1 fx_NotApart (hr.toRoom.mono (by decide)) bx_NotApart .nil (passF tk) (by rfl) gl_NotApart (pa_cons (pv 0) pa_nil))) (pa_cons (pe_lst (pa_cons (pv 0) pa_nil)) pa_nil))) pa_nil))) (pss_cons (ps_expr (pe_bm PySem.F.plainAttrs_list PySem.F.slot_list_append PySem.F.type_list_append mt_append (pv 2) (pa_cons (pe_tup (pa_cons (pe_exv (pmk_own0 PySem.F.excBase_ValueError xc_NotInvertible.1 gl_NotInvertible xc_NotInvertible.2.1 (raises_own xc_NotInvertible.2.2.1 xc_NotInvertible.2.2.2) (by rfl))) (pa_cons (pe_lst pa_nil) pa_nil))) pa_nil))) (pss_cons (ps_expr (pe_bm PySem.F.plainAttrs_list PySem.F.slot_list_append PySem.F.type_list_append mt_append (pv 2) (pa_cons (pe_tup (pa_cons (pe_exv (pmk_oex xo_BadLot.1 xo_BadLot.2.1 xo_BadLot.2.2.1 fx_BadLot (hr.toRoom.mono (by decide)) bx_BadLot .nil (passF tk) (by rfl) gl_BadLot (pa_cons (pv 0) pa_nil))) (pa_cons (pe_lst (pa_cons (pv 0) pa_nil)) pa_nil))) pa_nil))) (pss_cons (ps_expr (pe_bm PySem.F.plainAttrs_list PySem.F.slot_list_append PySem.F.type_list_append mt_append (pv 2) (pa_cons (pe_tup (pa_cons (pe_exv (pmk_own0 PySem.F.excBase_ValueError xc_BadDistance.1 gl_BadDistance xc_BadDistance.2.1 (raises_own xc_BadDistance.2.2.1 xc_BadDistance.2.2.2) (by rfl))) (pa_cons (pe_lst pa_nil) pa_nil))) pa_nil))) (pss_cons (ps_expr (pe_bm PySem.F.plainAttrs_list PySem.F.slot_list_append PySem.F.type_list_append mt_append (pv 2) (pa_cons (pe_tup (pa_cons (pe_exv (pmk_own0 PySem.F.excBase_ValueError xc_NotMet.1 gl_NotMet xc_NotMet.2.1 (raises_own xc_NotMet.2.2.1 xc_NotMet.2.2.2) (by rfl))) (pa_cons (pe_lst pa_nil) pa_nil))) pa_nil))) (pss_cons (ps_expr (pe_bm PySem.F.plainAttrs_list PySem.F.slot_list_append PySem.F.type_list_append mt_append (pv 2) (pa_cons (pe_tup (pa_cons (pe_exv (pmk_own0 PySem.F.excBase_ValueError xc_BadHead.1 gl_BadHead xc_BadHead.2.1 (raises_own xc_BadHead.2.2.1 xc_BadHead.2.2.2) (by rfl))) (pa_cons (pe_lst pa_nil) pa_nil))) pa_nil))) (pss_cons (ps_expr (pe_bm PySem.F.plainAttrs_list PySem.F.slot_list_append PySem.F.type_list_append mt_append (pv 2) (pa_cons (pe_tup (pa_cons (pe_exv (pmk_oex xo_BadClosed.1 xo_BadClosed.2.1 xo_BadClosed.2.2.1 fx_BadClosed (hr.toRoom.mono (by decide)) bx_BadClosed .nil (passF tk) (by rfl) gl_BadClosed (pa_cons (pv 0) pa_nil))) (pa_cons (pe_lst (pa_cons (pv 0) pa_nil)) pa_nil))) pa_nil))) (pss_cons (ps_expr (pe_bm PySem.F.plainAttrs_list PySem.F.slot_list_append PySem.F.type_list_append mt_append (pv 2) (pa_cons (pe_tup (pa_cons (pe_exv (pmk_oex xo_TooMany.1 xo_TooMany.2.1 xo_TooMany.2.2.1 fx_TooMany (hr.toRoom.mono (by decide)) bx_TooMany .nil (passF tk) (by rfl) gl_TooMany (pa_cons (pv 0) pa_nil))) (pa_cons (pe_lst (pa_cons (pv 0) pa_nil)) pa_nil))) pa_nil))) (pss_cons (ps_expr (pe_bm PySem.F.plainAttrs_list PySem.F.slot_list_append PySem.F.type_list_append mt_append (pv 2) (pa_cons (pe_tup (pa_cons (pe_exv (pmk_own0 PySem.F.excBase_ValueError xc_BadTerms.1 gl_BadTerms xc_BadTerms.2.1 (raises_own xc_BadTerms.2.2.1 xc_BadTerms.2.2.2) (by rfl))) (pa_cons (pe_lst pa_nil) pa_nil))) pa_nil))) (pss_one (ps_ret (pv 2))))))))))))))))))))))))), (snd_seq (snd_setL (snd_lst snd_anil) lst_disp) (snd_seq (snd_app (by decide) (snd_tup (snd_acons (snd_mk1 xo_BadField.1 (xo_BadField.2.2.2 "what" (by decide)) (snd_acons (snd_var (by decide)) snd_anil)) (snd_acons (snd_l (snd_lst (snd_acons (snd_var (by decide)) snd_anil))) snd_anil)))) (snd_seq (snd_app (by decide) (snd_tup (snd_acons (snd_mk1 xo_BadThing.1 (xo_BadThing.2.2.2 "index" (by decide)) (snd_acons (snd_var (by decide)) snd_anil)) (snd_acons (snd_l (snd_lst (snd_acons (snd_var (by decide)) snd_anil))) snd_anil)))) (snd_seq (snd_app (by decide) (snd_tup (snd_acons snd_mk0 (snd_acons (snd_l (snd_lst snd_anil)) snd_anil)))) (snd_seq (snd_app (by decide) (snd_tup (snd_acons snd_mk0 (snd_acons (snd_l (snd_lst snd_anil)) snd_anil)))) (snd_seq (snd_app (by decide) (snd_tup (snd_acons (snd_mk1 xo_BadWord.1 (xo_BadWord.2.2.2 "index" (by decide)) (snd_acons (snd_var (by decide)) snd_anil)) (snd_acons (snd_l (snd_lst (snd_acons (snd_var (by decide)) snd_anil))) snd_anil)))) (snd_seq (snd_app (by decide) (snd_tup (snd_acons snd_mk0 (snd_acons (snd_l (snd_lst snd_anil)) snd_anil)))) (snd_seq (snd_app (by decide) (snd_tup (snd_acons (snd_mk1 xo_BadRow.1 (xo_BadRow.2.2.2 "index" (by decide)) (snd_acons (snd_var (by decide)) snd_anil)) (snd_acons (snd_l (snd_lst (snd_acons (snd_var (by decide)) snd_anil))) snd_anil)))) (snd_seq (snd_app (by decide) (snd_tup (snd_acons snd_mk0 (snd_acons (snd_l (snd_lst snd_anil)) snd_anil)))) (snd_seq (snd_app (by decide) (snd_tup (snd_acons (snd_mk1 xo_BadText.1 (xo_BadText.2.2.2 "line" (by decide)) (snd_acons (snd_var (by decide)) snd_anil)) (snd_acons (snd_l (snd_lst (snd_acons (snd_var (by decide)) snd_anil))) snd_anil)))) (snd_seq (snd_app (by decide) (snd_tup (snd_acons (snd_mk1 xo_BadPoly.1 (xo_BadPoly.2.2.2 "index" (by decide)) (snd_acons (snd_var (by decide)) snd_anil)) (snd_acons (snd_l (snd_lst (snd_acons (snd_var (by decide)) snd_anil))) snd_anil)))) (snd_seq (snd_app (by decide) (snd_tup (snd_acons snd_mk0 (snd_acons (snd_l (snd_lst snd_anil)) snd_anil)))) (snd_seq (snd_app (by decide) (snd_tup (snd_acons (snd_mk1 xo_BadPoints.1 (xo_BadPoints.2.2.2 "index" (by decide)) (snd_acons (snd_var (by decide)) snd_anil)) (snd_acons (snd_l (snd_lst (snd_acons (snd_var (by decide)) snd_anil))) snd_anil)))) (snd_seq (snd_app (by decide) (snd_tup (snd_acons (snd_mk1 xo_NotApart.1 (xo_NotApart.2.2.2 "index" (by decide)) (snd_acons (snd_var (by decide)) snd_anil)) (snd_acons (snd_l (snd_lst (snd_acons (snd_var (by decide)) snd_anil))) snd_anil)))) (snd_seq (snd_app (by decide) (snd_tup (snd_acons snd_mk0 (snd_acons (snd_l (snd_lst snd_anil)) snd_anil)))) (snd_seq (snd_app (by decide) (snd_tup (snd_acons (snd_mk1 xo_BadLot.1 (xo_BadLot.2.2.2 "what" (by decide)) (snd_acons (snd_var (by decide)) snd_anil)) (snd_acons (snd_l (snd_lst (snd_acons (snd_var (by decide)) snd_anil))) snd_anil)))) (snd_seq (snd_app (by decide) (snd_tup (snd_acons snd_mk0 (snd_acons (snd_l (snd_lst snd_anil)) snd_anil)))) (snd_seq (snd_app (by decide) (snd_tup (snd_acons snd_mk0 (snd_acons (snd_l (snd_lst snd_anil)) snd_anil)))) (snd_seq (snd_app (by decide) (snd_tup (snd_acons snd_mk0 (snd_acons (snd_l (snd_lst snd_anil)) snd_anil)))) (snd_seq (snd_app (by decide) (snd_tup (snd_acons (snd_mk1 xo_BadClosed.1 (xo_BadClosed.2.2.2 "what" (by decide)) (snd_acons (snd_var (by decide)) snd_anil)) (snd_acons (snd_l (snd_lst (snd_acons (snd_var (by decide)) snd_anil))) snd_anil)))) (snd_seq (snd_app (by decide) (snd_tup (snd_acons (snd_mk1 xo_TooMany.1 (xo_TooMany.2.2.2 "size" (by decide)) (snd_acons (snd_var (by decide)) snd_anil)) (snd_acons (snd_l (snd_lst (snd_acons (snd_var (by decide)) snd_anil))) snd_anil)))) (snd_seq (snd_app (by decide) (snd_tup (snd_acons snd_mk0 (snd_acons (snd_l (snd_lst snd_anil)) snd_anil)))) (snd_lessB [] (snd_ret (snd_var (by decide))))))))))))))))))))))))))⟩
theorem sc__law_second : FnScope ["_law_one", "_law_other", "_law_told"] ["_law_one", "_law_other"] (defScope s28) := ⟨rfl, rfl, rfl, by decide +kernel, rfl, by decide +kernel, by decide +kernel⟩
def m__law_second : FM := mkFn 3 2 (sSeq (sSet 2 (eArgs (pf fLst) aNil)) (sSeq (sApp 2 (eArgs (pf fTup) (aCons (eMk0 "NotMember") (aCons (eArgs (pf fLst) aNil) aNil)))) (sSeq (sApp 2 (eArgs (pf fTup) (aCons (eArgs (pf (fMk1 "BadSizes" "what")) (aCons (eVar 0) aNil)) (aCons (eArgs (pf fLst) (aCons (eVar 0) aNil)) aNil)))) (sSeq (sApp 2 (eArgs (pf fTup) (aCons (eArgs (pf (fMk1 "BadCounts" "what")) (aCons (eVar 0) aNil)) (aCons (eArgs (pf fLst) (aCons (eVar 0) aNil)) aNil)))) (sSeq (sApp 2 (eArgs (pf fTup) (aCons (eArgs (pf (fMk1 "NoLot" "rank")) (aCons (eVar 0) aNil)) (aCons (eArgs (pf fLst) (aCons (eVar 0) aNil)) aNil)))) (sSeq (sApp 2 (eArgs (pf fTup) (aCons (eMk0 "BadErrors") (aCons (eArgs (pf fLst) aNil) aNil)))) (sSeq (sApp 2 (eArgs (pf fTup) (aCons (eArgs (pf (fMk1 "BadLoss" "what")) (aCons (eVar 0) aNil)) (aCons (eArgs (pf fLst) (aCons (eVar 0) aNil)) aNil)))) (sSeq (sApp 2 (eArgs (pf fTup) (aCons (eMk0 "NoClash") (aCons (eArgs (pf fLst) aNil) aNil)))) (sSeq (sApp 2 (eArgs (pf fTup) (aCons (eArgs (pf (fMk1 "BadCells" "index")) (aCons (eVar 0) aNil)) (aCons (eArgs (pf fLst) (aCons (eVar 0) aNil)) aNil)))) (sSeq (sApp 2 (eArgs (pf fTup) (aCons (eArgs (pf (fMk1 "BadLane" "what")) (aCons (eVar 0) aNil)) (aCons (eArgs (pf fLst) (aCons (eVar 0) aNil)) aNil)))) (sSeq (sApp 2 (eArgs (pf fTup) (aCons (eArgs (pf (fMk1 "TooSpoilt" "lanes")) (aCons (eVar 0) aNil)) (aCons (eArgs (pf fLst) (aCons (eVar 0) aNil)) aNil)))) (sSeq (sApp 2 (eArgs (pf fTup) (aCons (eMk0 "BadComing") (aCons (eArgs (pf fLst) aNil) aNil)))) (sSeq (sApp 2 (eArgs (pf fTup) (aCons (eArgs (pf (fMk2 "BadDeed" "index" "what")) (aCons (eVar 0) (aCons (eVar 1) aNil))) (aCons (eArgs (pf fLst) (aCons (eVar 0) (aCons (eVar 1) aNil))) aNil)))) (sSeq (sApp 2 (eArgs (pf fTup) (aCons (eArgs (pf (fMk1 "BadRows" "index")) (aCons (eVar 0) aNil)) (aCons (eArgs (pf fLst) (aCons (eVar 0) aNil)) aNil)))) (sSeq (sApp 2 (eArgs (pf fTup) (aCons (eMk0 "NotBehind") (aCons (eArgs (pf fLst) aNil) aNil)))) (sSeq (sApp 2 (eArgs (pf fTup) (aCons (eMk0 "NoColumn") (aCons (eArgs (pf fLst) aNil) aNil)))) (sSeq (sApp 2 (eArgs (pf fTup) (aCons (eMk0 "NotClosedByThings") (aCons (eArgs (pf fLst) aNil) aNil)))) (sSeq (sApp 2 (eArgs (pf fTup) (aCons (eMk0 "BadNumber") (aCons (eArgs (pf fLst) aNil) aNil)))) (sSeq (sApp 2 (eArgs (pf fTup) (aCons (eArgs (pf (fMk2 "BadEdit" "index" "what")) (aCons (eVar 0) (aCons (eVar 1) aNil))) (aCons (eArgs (pf fLst) (aCons (eVar 0) (aCons (eVar 1) aNil))) aNil)))) (sSeq (sApp 2 (eArgs (pf fTup) (aCons (eArgs (pf (fMk1 "BadGoal" "index")) (aCons (eVar 0) aNil)) (aCons (eArgs (pf fLst) (aCons (eVar 0) aNil)) aNil)))) (sSeq (sApp 2 (eArgs (pf fTup) (aCons (eArgs (pf (fMk1 "Held" "index")) (aCons (eVar 0) aNil)) (aCons (eArgs (pf fLst) (aCons (eVar 0) aNil)) aNil)))) (sSeq (sApp 2 (eArgs (pf fTup) (aCons (eMk0 "NothingDone") (aCons (eArgs (pf fLst) aNil) aNil)))) (sRet (eVar 2))))))))))))))))))))))))
theorem ok__law_second (Z : Pk fa fn K mg) (Zx : exAll2 exl owns isl eml xfl K = true) : Good P w K mg base (He.ga K) "_law_second" ["_law_one", "_law_other"] 3 m__law_second := by
  obtain ⟨fd, F⟩ := Z.says.def_ 28 (d := d28) rfl
  refine ⟨fd, ?_, F.bindsN fun _ _ _ _ _ _ us hl => match us, hl with | [_, _], _ => rfl, F.kp, Z.glo 28⟩
  refine fn_ok F sc__law_second fun hdp cdv A outer st H E hr => ?_
  have tk := takes_of (X := cxOf (L2.CX P w) P w K mg base ["_law_one", "_law_other", "_law_told"] "_law_second" (defScope s28) (He.ga K "_law_second") cdv A outer st H E) rfl rfl rfl rfl
  have gl_BadCells := Z.glo 103
  have xo_BadCells := oexAll_ok (exAll_oex (exAll2_a Zx)) 15 rfl
  obtain ⟨fd_BadCells, fx_BadCells, bx_BadCells⟩ := okx_BadCells (P := P) (w := w) (base := base) Z
  have gl_BadComing := Z.glo 109
  have xc_BadComing := He.exc_ok (Z.says.fact 111 rfl)
  have gl_BadCounts := Z.glo 91
  have xo_BadCounts := oexAll_ok (exAll_oex (exAll2_a Zx)) 12 rfl
  obtain ⟨fd_BadCounts, fx_BadCounts, bx_BadCounts⟩ := okx_BadCounts (P := P) (w := w) (base := base) Z
  have gl_BadDeed := Z.glo 112
  have xo_BadDeed := oexAll_ok (exAll_oex (exAll2_a Zx)) 18 rfl
  obtain ⟨fd_BadDeed, fx_BadDeed, bx_BadDeed⟩ := okx_BadDeed (P := P) (w := w) (base := base) Z
  have gl_BadEdit := Z.glo 128
  have xo_BadEdit := oexAll_ok (exAll_oex (exAll2_a Zx)) 20 rfl
  obtain ⟨fd_BadEdit, fx_BadEdit, bx_BadEdit⟩ := okx_BadEdit (P := P) (w := w) (base := base) Z
  have gl_BadErrors := Z.glo 95
  have xc_BadErrors := He.exc_ok (Z.says.fact 97 rfl)
  have gl_BadGoal := Z.glo 130
  have xo_BadGoal := oexAll_ok (exAll_oex (exAll2_a Zx)) 21 rfl
  obtain ⟨fd_BadGoal, fx_BadGoal, bx_BadGoal⟩ := okx_BadGoal (P := P) (w := w) (base := base) Z
  have gl_BadLane := Z.glo 105
  have xo_BadLane := oexAll_ok (exAll_oex (exAll2_a Zx)) 16 rfl
  obtain ⟨fd_BadLane, fx_BadLane, bx_BadLane⟩ := okx_BadLane (P := P) (w := w) (base := base) Z
  have gl_BadLoss := Z.glo 98
  have xo_BadLoss := oexAll_ok (exAll_oex (exAll2_a Zx)) 14 rfl
  obtain ⟨fd_BadLoss, fx_BadLoss, bx_BadLoss⟩ := okx_BadLoss (P := P) (w := w) (base := base) Z
  have gl_BadNumber := Z.glo 125
  have xc_BadNumber := He.exc_ok (Z.says.fact 127 rfl)
  have gl_BadRows := Z.glo 114
  have xo_BadRows := oexAll_ok (exAll_oex (exAll2_a Zx)) 19 rfl
  obtain ⟨fd_BadRows, fx_BadRows, bx_BadRows⟩ := okx_BadRows (P := P) (w := w) (base := base) Z
  have gl_BadSizes := Z.glo 89
  have xo_BadSizes := oexAll_ok (exAll_oex (exAll2_a Zx)) 11 rfl
  obtain ⟨fd_BadSizes, fx_BadSizes, bx_BadSizes⟩ := okx_BadSizes (P := P) (w := w) (base := base) Z
  have gl_Held := Z.glo 132
  have xo_Held := oexAll_ok (exAll_oex (exAll2_a Zx)) 22 rfl
  obtain ⟨fd_Held, fx_Held, bx_Held⟩ := okx_Held (P := P) (w := w) (base := base) Z
  have gl_NoClash := Z.glo 100
  have xc_NoClash := He.exc_ok (Z.says.fact 102 rfl)
  have gl_NoColumn := Z.glo 119
  have xc_NoColumn := He.exc_ok (Z.says.fact 121 rfl)
  have gl_NoLot := Z.glo 93
  have xo_NoLot := oexAll_ok (exAll_oex (exAll2_a Zx)) 13 rfl
  obtain ⟨fd_NoLot, fx_NoLot, bx_NoLot⟩ := okx_NoLot (P := P) (w := w) (base := base) Z
  have gl_NotBehind := Z.glo 116
  have xc_NotBehind := He.exc_ok (Z.says.fact 118 rfl)
  have gl_NotClosedByThings := Z.glo 122
  have xc_NotClosedByThings := He.exc_ok (Z.says.fact 124 rfl)
  have gl_NotMember := Z.glo 86
  have xc_NotMember := He.exc_ok (Z.says.fact 88 rfl)
  have gl_NothingDone := Z.glo 134
  have xc_NothingDone := He.exc_ok (Z.says.fact 136 rfl)
  have gl_TooSpoilt := Z.glo 107
  have xo_TooSpoilt := oexAll_ok (exAll_oex (exAll2_a Zx)) 17 rfl
  obtain ⟨fd_TooSpoilt, fx_TooSpoilt, bx_TooSpoilt⟩ := okx_TooSpoilt (P := P) (w := w) (base := base) Z
  exact ⟨_, [], [], (pss_cons (ps_set (i := 2) sc__law_second.nd rfl (by first | exact Or.inl rfl | exact Or.inr rfl) (pe_lst pa_nil)) (pss_cons (ps_expr (pe_bm PySem.F.plainAttrs_list PySem.F.slot_list_append PySem.F.type_list_append mt_append (pv 2) (pa_cons (pe_tup (pa_cons (pe_exv (pmk_own0 PySem.F.excBase_ValueError xc_NotMember.1 gl_NotMember xc_NotMember.2.1 (raises_own xc_NotMember.2.2.1 xc_NotMember.2.2.2) (by rfl))) (pa_cons (pe_lst pa_nil) pa_nil))) pa_nil))) (pss_cons (ps_expr (pe_bm PySem.F.plainAttrs_list PySem.F.slot_list_append PySem.F.type_list_append mt_append (pv 2) (pa_cons (pe_tup (pa_cons (pe_exv (pmk_oex xo_BadSizes.1 xo_BadSizes.2.1 xo_BadSizes.2.2.1 fx_BadSizes (hr.toRoom.mono (by decide)) bx_BadSizes .nil (passF tk) (by rfl) gl_BadSizes (pa_cons (pv 0) pa_nil))) (pa_cons (pe_lst (pa_cons (pv 0) pa_nil)) pa_nil))) pa_nil))) (pss_cons (ps_expr (pe_bm PySem.F.plainAttrs_list PySem.F.slot_list_append PySem.F.type_list_append mt_append (pv 2) (pa_cons (pe_tup (pa_cons (pe_exv (pmk_oex xo_BadCounts.1 xo_BadCounts.2.1 xo_BadCounts.2.2.1 fx_BadCounts (hr.toRoom.mono (by decide)) bx_BadCounts .nil (passF tk) (by rfl) gl_BadCounts (pa_cons (pv 0) pa_nil))) (pa_cons (pe_lst (pa_cons (pv 0) pa_nil)) pa_nil))) pa_nil))) (pss_cons (ps_expr (pe_bm PySem.F.plainAttrs_list PySem.F.slot_list_append PySem.F.type_list_append mt_append (pv 2) (pa_cons (pe_tup (pa_cons (pe_exv (pmk_oex xo_NoLot.1 xo_NoLot.2.1 xo_NoLot.2.2.1 fx_NoLot (hr.toRoom.mono (by decide)) bx_NoLot .nil (passF tk) (by rfl) gl_NoLot (pa_cons (pv 0) pa_nil))) (pa_cons (pe_lst (pa_cons (pv 0) pa_nil)) pa_nil))) pa_nil))) (pss_cons (ps_expr (pe_bm PySem.F.plainAttrs_list PySem.F.slot_list_append PySem.F.type_list_append mt_append (pv 2) (pa_cons (pe_tup (pa_cons (pe_exv (pmk_own0 PySem.F.excBase_ValueError xc_BadErrors.1 gl_BadErrors xc_BadErrors.2.1 (raises_own xc_BadErrors.2.2.1 xc_BadErrors.2.2.2) (by rfl))) (pa_cons (pe_lst pa_nil) pa_nil))) pa_nil))) (pss_cons (ps_expr (pe_bm PySem.F.plainAttrs_list PySem.F.slot_list_append PySem.F.type_list_append mt_append (pv 2) (pa_cons (pe_tup (pa_cons (pe_exv (pmk_oex xo_BadLoss.1 xo_BadLoss.2.1 xo_BadLoss.2.2.1 fx_BadLoss (hr.toRoom.mono (by decide)) bx_BadLoss .nil (passF tk) (by rfl) gl_BadLoss (pa_cons (pv 0) pa_nil))) (pa_cons (pe_lst (pa_cons (pv 0) pa_nil)) pa_nil))) pa_nil))) (pss_cons (ps_expr (pe_bm PySem.F.plainAttrs_list PySem.F.slot_list_append PySem.F.type_list_append mt_append (pv 2) (pa_cons (pe_tup (pa_cons (pe_exv (pmk_own0 PySem.F.excBase_ValueError xc_NoClash.1 gl_NoClash xc_NoClash.2.1 (raises_own xc_NoClash.2.2.1 xc_NoClash.2.2.2) (by rfl))) (pa_cons (pe_lst pa_nil) pa_nil))) pa_nil))) (pss_cons (ps_expr (pe_bm PySem.F.plainAttrs_list PySem.F.slot_list_append PySem.F.type_list_append mt_append (pv 2) (pa_cons (pe_tup (pa_cons (pe_exv (pmk_oex xo_BadCells.1 xo_BadCells.2.1 xo_BadCells.2.2.1 fx_BadCells (hr.toRoom.mono (by decide)) bx_BadCells .nil (passF tk) (by rfl) gl_BadCells (pa_cons (pv 0) pa_nil))) (pa_cons (pe_lst (pa_cons (pv 0) pa_nil)) pa_nil))) pa_nil))) (pss_cons (ps_expr (pe_bm PySem.F.plainAttrs_list PySem.F.slot_list_append PySem.F.type_list_append mt_append (pv 2) (pa_cons (pe_tup (pa_cons (pe_exv (pmk_oex xo_BadLane.1 xo_BadLane.2.1 xo_BadLane.2.2.1 fx_BadLane (hr.toRoom.mono (by decide)) bx_BadLane .nil (passF tk) (by rfl) gl_BadLane (pa_cons (pv 0) pa_nil))) (pa_cons (pe_lst (pa_cons (pv 0) pa_nil)) pa_nil))) pa_nil))) (pss_cons (ps_expr (pe_bm PySem.F.plainAttrs_list PySem.F.slot_list_append PySem.F.type_list_append mt_append (pv 2) (pa_cons (pe_tup (pa_cons (pe_exv (pmk_oex xo_TooSpoilt.1 xo_TooSpoilt.2.1 xo_TooSpoilt.2.2.1 fx_TooSpoilt (hr.toRoom.mono (by decide)) bx_TooSpoilt .nil (passF tk) (by rfl) gl_TooSpoilt (pa_cons (pv 0) pa_nil))) (pa_cons (pe_lst (pa_cons (pv 0) pa_nil)) pa_nil))) pa_nil))) (pss_cons (ps_expr (pe_bm PySem.F.plainAttrs_list PySem.F.slot_list_append PySem.F.type_list_append mt_append (pv 2) (pa_cons (pe_tup (pa_cons (pe_exv (pmk_own0 PySem.F.excBase_ValueError xc_BadComing.1 gl_BadComing xc_BadComing.2.1 (raises_own xc_BadComing.2.2.1 xc_BadComing.2.2.2) (by rfl))) (pa_cons (pe_lst pa_nil) pa_nil))) pa_nil))) (pss_cons (ps_expr (pe_bm PySem.F.plainAttrs_list PySem.F.slot_list_append PySem.F.type_list_append mt_append (pv 2) (pa_cons (pe_tup (pa_cons (pe_exv (pmk_oex xo_BadDeed.1 xo_BadDeed.2.1 xo_BadDeed.2.2.1 fx_BadDeed (hr.toRoom.mono (by decide)) bx_BadDeed .nil (passF tk) (by rfl) gl_BadDeed (pa_cons (pv 0) (pa_cons (pv 1) pa_nil)))) (pa_cons (pe_lst (pa_cons (pv 0) (pa_cons (pv 1) pa_nil))) pa_nil))) pa_nil))) (pss_cons (ps_expr (pe_bm PySem.F.plainAttrs_list PySem.F.slot_list_append PySem.F.type_list_append mt_append (pv 2) (pa_cons (pe_tup (pa_cons (pe_exv (pmk_oex xo_BadRows.1 xo_BadRows.2.1 xo_BadRows.2.2.1 fx_BadRows (hr.toRoom.mono (by decide)) bx_BadRows .nil (passF tk) (by rfl) gl_BadRows (pa_cons (pv 0) pa_nil))) (pa_cons (pe_lst (pa_cons (pv 0) pa_nil)) pa_nil))) pa_nil))) (pss_cons (ps_expr (pe_bm PySem.F.plainAttrs_list PySem.F.slot_list_append PySem.F.type_list_append mt_append (pv 2) (pa_cons (pe_tup (pa_cons (pe_exv (pmk_own0 PySem.F.excBase_ValueError xc_NotBehind.1 gl_NotBehind xc_NotBehind.2.1 (raises_own xc_NotBehind.2.2.1 xc_NotBehind.2.2.2) (by rfl))) (pa_cons (pe_lst pa_nil) pa_nil))) pa_nil))) (pss_cons (ps_expr (pe_bm PySem.F.plainAttrs_list PySem.F.slot_list_append PySem.F.type_list_append mt_append (pv 2) (pa_cons (pe_tup (pa_cons (pe_exv (pmk_own0 PySem.F.excBase_ValueError xc_NoColumn.1 gl_NoColumn xc_NoColumn.2.1 (raises_own xc_NoColumn.2.2.1 xc_NoColumn.2.2.2) (by rfl))) (pa_cons (pe_lst pa_nil) pa_nil))) pa_nil))) (pss_cons (ps_expr (pe_bm PySem.F.plainAttrs_list PySem.F.slot_list_append PySem.F.type_list_append mt_append (pv 2) (pa_cons (pe_tup (pa_cons (pe_exv (pmk_own0 PySem.F.excBase_ValueError xc_NotClosedByThings.1 gl_NotClosedByThings xc_NotClosedByThings.2.1 (raises_own xc_NotClosedByThings.2.2.1 xc_NotClosedByThings.2.2.2) (by rfl))) (pa_cons (pe_lst pa_nil) pa_nil))) pa_nil))) (pss_cons (ps_expr (pe_bm PySem.F.plainAttrs_list PySem.F.slot_list_append PySem.F.type_list_append mt_append (pv 2) (pa_cons (pe_tup (pa_cons (pe_exv (pmk_own0 PySem.F.excBase_ValueError xc_BadNumber.1 gl_BadNumber xc_BadNumber.2.1 (raises_own xc_BadNumber.2.2.1 xc_BadNumber.2.2.2) (by rfl))) (pa_cons (pe_lst pa_nil) pa_nil))) pa_nil))) (pss_cons (ps_expr (pe_bm PySem.F.plainAttrs_list PySem.F.slot_list_append PySem.F.type_list_append mt_append (pv 2) (pa_cons (pe_tup (pa_cons (pe_exv (pmk_oex xo_BadEdit.1 xo_BadEdit.2.1 xo_BadEdit.2.2.1 fx_BadEdit (hr.toRoom.mono (by decide)) bx_BadEdit .nil (passF tk) (by rfl) gl_BadEdit (pa_cons (pv 0) (pa_cons (pv 1) pa_nil)))) (pa_cons (pe_lst (pa_cons (pv 0) (pa_cons (pv 1) pa_nil))) pa_nil))) pa_nil))) (pss_cons (ps_expr (pe_bm PySem.F.plainAttrs_list PySem.F.slot_list_append PySem.F.type_list_append mt_append (pv 2) (pa_cons (pe_tup (pa_cons (pe_exv (pmk_oex xo_BadGoal.1 xo_BadGoal.2.1 xo_BadGoal.2.2.1 fx_BadGoal (hr.toRoom.mono (by decide)) bx_BadGoal .nil (passF tk) (by rfl) gl_BadGoal (pa_cons (pv 0) pa_nil))) (pa_cons (pe_lst (pa_cons (pv 0) pa_nil)) pa_nil))) pa_nil))) (pss_cons (ps_expr (pe_bm PySem.F.plainAttrs_list PySem.F.slot_list_append PySem.F.type_list_append mt_append (pv 2) (pa_cons (pe_tup (pa_cons (pe_exv (pmk_oex xo_Held.1 xo_Held.2.1 xo_Held.2.2.1 fx_Held (hr.toRoom.mono (by decide)) bx_Held .nil (passF tk) (by rfl) gl_Held (pa_cons (pv 0) pa_nil))) (pa_cons (pe_lst (pa_cons (pv 0) pa_nil)) pa_nil))) pa_nil))) (pss_cons (ps_expr (pe_bm PySem.F.plainAttrs_list PySem.F.slot_list_append PySem.F.type_list_append mt_append (pv 2) (pa_cons (pe_tup (pa_cons (pe_exv (pmk_own0 PySem.F.excBase_ValueError xc_NothingDone.1 gl_NothingDone xc_NothingDone.2.1 (raises_own xc_NothingDone.2.2.1 xc_NothingDone.2.2.2) (by rfl))) (pa_cons (pe_lst pa_nil) pa_nil))) pa_nil))) (pss_one (ps_ret (pv 2))))))))))))))))))))))))), (snd_seq (snd_setL (snd_lst snd_anil) lst_disp) (snd_seq (snd_app (by decide) (snd_tup (snd_acons snd_mk0 (snd_acons (snd_l (snd_lst snd_anil)) snd_anil)))) (snd_seq (snd_app (by decide) (snd_tup (snd_acons (snd_mk1 xo_BadSizes.1 (xo_BadSizes.2.2.2 "what" (by decide)) (snd_acons (snd_var (by decide)) snd_anil)) (snd_acons (snd_l (snd_lst (snd_acons (snd_var (by decide)) snd_anil))) snd_anil)))) (snd_seq (snd_app (by decide) (snd_tup (snd_acons (snd_mk1 xo_BadCounts.1 (xo_BadCounts.2.2.2 "what" (by decide)) (snd_acons (snd_var (by decide)) snd_anil)) (snd_acons (snd_l (snd_lst (snd_acons (snd_var (by decide)) snd_anil))) snd_anil)))) (snd_seq (snd_app (by decide) (snd_tup (snd_acons (snd_mk1 xo_NoLot.1 (xo_NoLot.2.2.2 "rank" (by decide)) (snd_acons (snd_var (by decide)) snd_anil)) (snd_acons (snd_l (snd_lst (snd_acons (snd_var (by decide)) snd_anil))) snd_anil)))) (snd_seq (snd_app (by decide) (snd_tup (snd_acons snd_mk0 (snd_acons (snd_l (snd_lst snd_anil)) snd_anil)))) (snd_seq (snd_app (by decide) (snd_tup (snd_acons (snd_mk1 xo_BadLoss.1 (xo_BadLoss.2.2.2 "what" (by decide)) (snd_acons (snd_var (by decide)) snd_anil)) (snd_acons (snd_l (snd_lst (snd_acons (snd_var (by decide)) snd_anil))) snd_anil)))) (snd_seq (snd_app (by decide) (snd_tup (snd_acons snd_mk0 (snd_acons (snd_l (snd_lst snd_anil)) snd_anil)))) (snd_seq (snd_app (by decide) (snd_tup (snd_acons (snd_mk1 xo_BadCells.1 (xo_BadCells.2.2.2 "index" (by decide)) (snd_acons (snd_var (by decide)) snd_anil)) (snd_acons (snd_l (snd_lst (snd_acons (snd_var (by decide)) snd_anil))) snd_anil)))) (snd_seq (snd_app (by decide) (snd_tup (snd_acons (snd_mk1 xo_BadLane.1 (xo_BadLane.2.2.2 "what" (by decide)) (snd_acons (snd_var (by decide)) snd_anil)) (snd_acons (snd_l (snd_lst (snd_acons (snd_var (by decide)) snd_anil))) snd_anil)))) (snd_seq (snd_app (by decide) (snd_tup (snd_acons (snd_mk1 xo_TooSpoilt.1 (xo_TooSpoilt.2.2.2 "lanes" (by decide)) (snd_acons (snd_var (by decide)) snd_anil)) (snd_acons (snd_l (snd_lst (snd_acons (snd_var (by decide)) snd_anil))) snd_anil)))) (snd_seq (snd_app (by decide) (snd_tup (snd_acons snd_mk0 (snd_acons (snd_l (snd_lst snd_anil)) snd_anil)))) (snd_seq (snd_app (by decide) (snd_tup (snd_acons (snd_mk2 xo_BadDeed.1 (xo_BadDeed.2.2.2 "index" (by decide)) (xo_BadDeed.2.2.2 "what" (by decide)) (snd_acons (snd_var (by decide)) (snd_acons (snd_var (by decide)) snd_anil))) (snd_acons (snd_l (snd_lst (snd_acons (snd_var (by decide)) (snd_acons (snd_var (by decide)) snd_anil)))) snd_anil)))) (snd_seq (snd_app (by decide) (snd_tup (snd_acons (snd_mk1 xo_BadRows.1 (xo_BadRows.2.2.2 "index" (by decide)) (snd_acons (snd_var (by decide)) snd_anil)) (snd_acons (snd_l (snd_lst (snd_acons (snd_var (by decide)) snd_anil))) snd_anil)))) (snd_seq (snd_app (by decide) (snd_tup (snd_acons snd_mk0 (snd_acons (snd_l (snd_lst snd_anil)) snd_anil)))) (snd_seq (snd_app (by decide) (snd_tup (snd_acons snd_mk0 (snd_acons (snd_l (snd_lst snd_anil)) snd_anil)))) (snd_seq (snd_app (by decide) (snd_tup (snd_acons snd_mk0 (snd_acons (snd_l (snd_lst snd_anil)) snd_anil)))) (snd_seq (snd_app (by decide) (snd_tup (snd_acons snd_mk0 (snd_acons (snd_l (snd_lst snd_anil)) snd_anil)))) (snd_seq (snd_app (by decide) (snd_tup (snd_acons (snd_mk2 xo_BadEdit.1 (xo_BadEdit.2.2.2 "index" (by decide)) (xo_BadEdit.2.2.2 "what" (by decide)) (snd_acons (snd_var (by decide)) (snd_acons (snd_var (by decide)) snd_anil))) (snd_acons (snd_l (snd_lst (snd_acons (snd_var (by decide)) (snd_acons (snd_var (by decide)) snd_anil)))) snd_anil)))) (snd_seq (snd_app (by decide) (snd_tup (snd_acons (snd_mk1 xo_BadGoal.1 (xo_BadGoal.2.2.2 "index" (by decide)) (snd_acons (snd_var (by decide)) snd_anil)) (snd_acons (snd_l (snd_lst (snd_acons (snd_var (by decide)) snd_anil))) snd_anil)))) (snd_seq (snd_app (by decide) (snd_tup (snd_acons (snd_mk1 xo_Held.1 (xo_Held.2.2.2 "index" (by decide)) (snd_acons (snd_var (by decide)) snd_anil)) (snd_acons (snd_l (snd_lst (snd_acons (snd_var (by decide)) snd_anil))) snd_anil)))) (snd_seq (snd_app (by decide) (snd_tup (snd_acons snd_mk0 (snd_acons (snd_l (snd_lst snd_anil)) snd_anil)))) (snd_lessB [] (snd_ret (snd_var (by decide))))))))))))))))))))))))))⟩
theorem sc__law_attributes : FnScope ["_law_place", "_law_made"] ["_law_place", "_law_made"] (defScope s29) := ⟨rfl, rfl, rfl, by decide +kernel, rfl, by decide +kernel, by decide +kernel⟩
def m__law_attributes : FM := mkFn 2 2 (sSeq (sIf (onlyB (eOp (fIn false) (eVar 0) (eArgs (pf fTup) (aCons (eC (.int 0)) (aCons (eC (.int 14)) (aCons (eC (.int 18)) (aCons (eC (.int 22)) (aCons (eC (.int 23)) (aCons (eC (.int 26)) (aCons (eC (.int 29)) aNil)))))))))) (sRet (eArgs (pf fLst) (aCons (eUn (fXa xfl exl "what") (eVar 1)) aNil))) sPass) (sSeq (sIf (onlyB (eOp (fIn false) (eVar 0) (eArgs (pf fTup) (aCons (eC (.int 1)) (aCons (eC (.int 4)) (aCons (eC (.int 6)) (aCons (eC (.int 9)) (aCons (eC (.int 11)) (aCons (eC (.int 12)) (aCons (eC (.int 28)) (aCons (eC (.int 33)) (aCons (eC (.int 39)) (aCons (eC (.int 40)) aNil))))))))))))) (sRet (eArgs (pf fLst) (aCons (eUn (fXa xfl exl "index") (eVar 1)) aNil))) sPass) (sSeq (sIf (onlyB (eOp fEq (eVar 0) (eC (.int 8)))) (sRet (eArgs (pf fLst) (aCons (eUn (fXa xfl exl "line") (eVar 1)) aNil))) sPass) (sSeq (sIf (onlyB (eOp fEq (eVar 0) (eC (.int 19)))) (sRet (eArgs (pf fLst) (aCons (eUn (fXa xfl exl "size") (eVar 1)) aNil))) sPass) (sSeq (sIf (onlyB (eOp fEq (eVar 0) (eC (.int 24)))) (sRet (eArgs (pf fLst) (aCons (eUn (fXa xfl exl "rank") (eVar 1)) aNil))) sPass) (sSeq (sIf (onlyB (eOp fEq (eVar 0) (eC (.int 30)))) (sRet (eArgs (pf fLst) (aCons (eUn (fXa xfl exl "lanes") (eVar 1)) aNil))) sPass) (sSeq (sIf (onlyB (eOp (fIn false) (eVar 0) (eArgs (pf fTup) (aCons (eC (.int 32)) (aCons (eC (.int 38)) aNil))))) (sRet (eArgs (pf fLst) (aCons (eUn (fXa xfl exl "index") (eVar 1)) (aCons (eUn (fXa xfl exl "what") (eVar 1)) aNil)))) sPass) (sRet (eArgs (pf fLst) aNil)))))))))
theorem ok__law_attributes (Z : Pk fa fn K mg) (Zx : exAll2 exl owns isl eml xfl K = true) : Good P w K mg base (He.ga K) "_law_attributes" ["_law_place", "_law_made"] 1 m__law_attributes := by
  obtain ⟨fd, F⟩ := Z.says.def_ 29 (d := d29) rfl
  refine ⟨fd, ?_, F.bindsN fun _ _ _ _ _ _ us hl => match us, hl with | [_, _], _ => rfl, F.kp, Z.glo 29⟩
  refine fn_ok F sc__law_attributes fun hdp cdv A outer st H E hr => ?_
  have tk := takes_of (X := cxOf (L2.CX P w) P w K mg base ["_law_place", "_law_made"] "_law_attributes" (defScope s29) (He.ga K "_law_attributes") cdv A outer st H E) rfl rfl rfl rfl
  exact ⟨_, [], [], (pss_cons (ps_if (pt_cmpR op_in_seq (pv 0) (pe_tup (pa_cons pe_int (pa_cons pe_int (pa_cons pe_int (pa_cons pe_int (pa_cons pe_int (pa_cons pe_int (pa_cons pe_int pa_nil)))))))) (by with_unfolding_all rfl)) (pss_one (ps_ret (pe_lst (pa_cons (pe_xv (pv 1)) pa_nil)))) pss_nil) (pss_cons (ps_if (pt_cmpR op_in_seq (pv 0) (pe_tup (pa_cons pe_int (pa_cons pe_int (pa_cons pe_int (pa_cons pe_int (pa_cons pe_int (pa_cons pe_int (pa_cons pe_int (pa_cons pe_int (pa_cons pe_int (pa_cons pe_int pa_nil))))))))))) (by with_unfolding_all rfl)) (pss_one (ps_ret (pe_lst (pa_cons (pe_xv (pv 1)) pa_nil)))) pss_nil) (pss_cons (ps_if (pt_cmpR (op_eqX hr.units) (pv 0) pe_int (nomark _)) (pss_one (ps_ret (pe_lst (pa_cons (pe_xv (pv 1)) pa_nil)))) pss_nil) (pss_cons (ps_if (pt_cmpR (op_eqX hr.units) (pv 0) pe_int (nomark _)) (pss_one (ps_ret (pe_lst (pa_cons (pe_xv (pv 1)) pa_nil)))) pss_nil) (pss_cons (ps_if (pt_cmpR (op_eqX hr.units) (pv 0) pe_int (nomark _)) (pss_one (ps_ret (pe_lst (pa_cons (pe_xv (pv 1)) pa_nil)))) pss_nil) (pss_cons (ps_if (pt_cmpR (op_eqX hr.units) (pv 0) pe_int (nomark _)) (pss_one (ps_ret (pe_lst (pa_cons (pe_xv (pv 1)) pa_nil)))) pss_nil) (pss_cons (ps_if (pt_cmpR op_in_seq (pv 0) (pe_tup (pa_cons pe_int (pa_cons pe_int pa_nil))) (by with_unfolding_all rfl)) (pss_one (ps_ret (pe_lst (pa_cons (pe_xv (pv 1)) (pa_cons (pe_xv (pv 1)) pa_nil))))) pss_nil) (pss_one (ps_ret (pe_lst pa_nil)))))))))), (snd_seq (snd_ifS (snd_test (snd_inN (neg := false) (snd_var (by decide)) (snd_r (snd_tup (snd_acons snd_int (snd_acons snd_int (snd_acons snd_int (snd_acons snd_int (snd_acons snd_int (snd_acons snd_int (snd_acons snd_int snd_anil))))))))))) (snd_ret (snd_l (snd_lst (snd_acons (snd_xa Zx rfl (snd_var (by decide))) snd_anil)))) snd_pass) (snd_seq (snd_ifS (snd_test (snd_inN (neg := false) (snd_var (by decide)) (snd_r (snd_tup (snd_acons snd_int (snd_acons snd_int (snd_acons snd_int (snd_acons snd_int (snd_acons snd_int (snd_acons snd_int (snd_acons snd_int (snd_acons snd_int (snd_acons snd_int (snd_acons snd_int snd_anil)))))))))))))) (snd_ret (snd_l (snd_lst (snd_acons (snd_xa Zx rfl (snd_var (by decide))) snd_anil)))) snd_pass) (snd_seq (snd_ifS (snd_test (snd_eq (snd_var (by decide)) snd_int)) (snd_ret (snd_l (snd_lst (snd_acons (snd_xa Zx rfl (snd_var (by decide))) snd_anil)))) snd_pass) (snd_seq (snd_ifS (snd_test (snd_eq (snd_var (by decide)) snd_int)) (snd_ret (snd_l (snd_lst (snd_acons (snd_xa Zx rfl (snd_var (by decide))) snd_anil)))) snd_pass) (snd_seq (snd_ifS (snd_test (snd_eq (snd_var (by decide)) snd_int)) (snd_ret (snd_l (snd_lst (snd_acons (snd_xa Zx rfl (snd_var (by decide))) snd_anil)))) snd_pass) (snd_seq (snd_ifS (snd_test (snd_eq (snd_var (by decide)) snd_int)) (snd_ret (snd_l (snd_lst (snd_acons (snd_xa Zx rfl (snd_var (by decide))) snd_anil)))) snd_pass) (snd_seq (snd_ifS (snd_test (snd_inN (neg := false) (snd_var (by decide)) (snd_r (snd_tup (snd_acons snd_int (snd_acons snd_int snd_anil)))))) (snd_ret (snd_l (snd_lst (snd_acons (snd_xa Zx rfl (snd_var (by decide))) (snd_acons (snd_xa Zx rfl (snd_var (by decide))) snd_anil))))) snd_pass) (snd_ret (snd_l (snd_lst snd_anil))))))))))⟩
theorem sc_law : FnScope ["_law_script", "_law_hand_here", "_law_odd", "_law_one", "_law_other", "_law_both", "_law_place", "_law_kinds_here", "_law_made", "_law_attributes_here", "_law_k"] ["_law_script"] (defScope s30) := ⟨rfl, rfl, rfl, by decide +kernel, rfl, by decide +kernel, by decide +kernel⟩
def s_law : SS := (sSeq (sSet 2 (eArgs (pf fTup) (aCons (eC .non) (aCons (eC (.str "prime")) (aCons (eUn fNeg (eC (.int 1))) (aCons (eC (.bl true)) (aCons (eArgs (pf fTup) (aCons (eC (.int 1)) (aCons (eC (.int 2)) aNil))) (aCons (eCall m__law_take [] (aCons (eVar 1) (aCons (eOp (fI cPow fun i j => i ^ j.toNat) (eC (.int 10)) (eC (.int 30))) aNil))) (aCons (eOp (fI0 fun i j => i - j) (eCall m__law_take [] (aCons (eVar 1) (aCons (eC (.int 99)) aNil))) (eC (.int 50))) aNil))))))))) (sSeq (sSet 3 (eOp fIx (eVar 2) (eCall m__law_take [] (aCons (eVar 1) (aCons (eC (.int 7)) aNil))))) (sSeq (sSet 4 (eOp fIx (eVar 2) (eCall m__law_take [] (aCons (eVar 1) (aCons (eC (.int 7)) aNil))))) (sSeq (sSet 5 (eOp fAdd (eCall m__law_first [] (aCons (eVar 3) (aCons (eVar 4) aNil))) (eCall m__law_second [] (aCons (eVar 3) (aCons (eVar 4) aNil))))) (sSeq (sFor (aVia fRng1 (aCons (eUn fLen (eVar 5)) aNil)) (gVar 6) (sSeq (sUnp (gTupD (gsCons (gVar 8) (gsCons (gVar 9) gsNil))) (eOp fIx (eVar 5) (eVar 6))) (sSeq (sSet 7 (eCall m__law_kinds [] (aCons (eVar 8) aNil))) (sSeq (sIf (eOr (onlyB (eOp fNe (eComp [10] (aVia fRng1 (aCons (eUn fLen (eVar 7)) aNil)) (gVar 10) (eTru (eOp fIx (eVar 7) (eVar 10))) (eVar 10)) (eArgs (pf fLst) (aCons (eVar 6) aNil)))) (eNot (eAnd (eTru (eUn (fXv xfl isl (.own "RankError")) (eVar 8))) (eTru (eUn (fXv xfl isl (.ty "ValueError")) (eVar 8)))))) (sRet (eC (.bl false))) sPass) (sIf (onlyB (eOp fNe (eUn fRepr (eCall m__law_attributes [] (aCons (eVar 6) (aCons (eVar 8) aNil)))) (eUn fRepr (eVar 9)))) (sRet (eC (.bl false))) sPass))))) (sRet (eC (.bl true))))))))
def LawTrue : Prop := ∀ ns : List Int, ns.length ≤ 63 → ∃ cells t g', m__law_hand [.slst (ns.map .int)] [] = some (.ok (.lst (handG cells t)), []) ∧ s_law ((List.replicate 11 none).set 1 (some .hand)) (handG cells t) = some (.ret (.bl true), g')
end
end HK75

set_option maxRecDepth 100000
set_option maxHeartbeats 4000000
namespace HK75
open PySem L2 MP
section
variable {P : Program} {w : World} {K : PySem.W.Frag} {mg : Str → Option Value} {base : Heap}
theorem ok_lawF {fd : FuncData} (Z : Pk fa fn K mg) (Zx : exAll2 exl owns isl eml xfl K = true) (T : LawTrue) (F : FunD K d30.name d30.qual d30.params d30.body d30.scope (He.DefD.dvs K d30) (He.DefD.kws K d30) (He.fAd K d30.at_) fd) : FnG P w K mg base CX0 5 (He.ga K "law") fd ["_law_script"] (spLaw K) := by
  refine funD_okG F sc_law (fun vs H Q E h => ?_) (fun cdv A outer st H vs Q E hr h => ?_)
  · obtain ⟨a, ns, rfl, _⟩ := h
    rfl
  · obtain ⟨a, ns, rfl, hS, hl, hQ⟩ := h
    have tk := takes0 (X := cxOf CX0 P w K mg base ["_law_script", "_law_hand_here", "_law_odd", "_law_one", "_law_other", "_law_both", "_law_place", "_law_kinds_here", "_law_made", "_law_attributes_here", "_law_k"] "law" (defScope s30) (He.ga K "law") cdv A outer st H E)
    obtain ⟨fd_H, ok_H, b_H, k_H, g_H⟩ := ok__law_hand (P := P) (w := w) (base := base) Z Zx
    have gl_RankError := Z.glo 31
    obtain ⟨fd__law_take, ok__law_take, b__law_take, k__law_take, g__law_take⟩ := ok__law_take (P := P) (w := w) (base := base) Z Zx
    obtain ⟨fd__law_first, ok__law_first, b__law_first, k__law_first, g__law_first⟩ := ok__law_first (P := P) (w := w) (base := base) Z Zx
    obtain ⟨fd__law_second, ok__law_second, b__law_second, k__law_second, g__law_second⟩ := ok__law_second (P := P) (w := w) (base := base) Z Zx
    obtain ⟨fd__law_kinds, ok__law_kinds, b__law_kinds, k__law_kinds, g__law_kinds⟩ := ok__law_kinds (P := P) (w := w) (base := base) Z Zx
    obtain ⟨fd__law_attributes, ok__law_attributes, b__law_attributes, k__law_attributes, g__law_attributes⟩ := ok__law_attributes (P := P) (w := w) (base := base) Z Zx
    exact ⟨_, pss_cons (ps_set (i := 1) sc_law.nd rfl (by first | exact Or.inl rfl | exact Or.inr rfl) (pe_callD ok_H (hr.mono (by decide)) (by rfl) g_H k_H b_H .nil (fun σ => passAt tk σ) (pa_cons (pv 0) pa_nil))) ((pss_cons (ps_set (i := 2) sc_law.nd rfl (by first | exact Or.inl rfl | exact Or.inr rfl) (pe_tup (pa_cons pe_non (pa_cons pe_str (pa_cons (pe_un un_neg pe_int) (pa_cons pe_bl (pa_cons (pe_tup (pa_cons pe_int (pa_cons pe_int pa_nil))) (pa_cons (pe_callD ok__law_take (hr.mono (by decide)) (by rfl) g__law_take k__law_take b__law_take .nil (fun σ => passAt tk σ) (pa_cons (pv 1) (pa_cons (pe_op op_pow pe_int pe_int) pa_nil))) (pa_cons (pe_op op_sub (pe_callD ok__law_take (hr.mono (by decide)) (by rfl) g__law_take k__law_take b__law_take .nil (fun σ => passAt tk σ) (pa_cons (pv 1) (pa_cons pe_int pa_nil))) pe_int) pa_nil))))))))) (pss_cons (ps_set (i := 3) sc_law.nd rfl (by first | exact Or.inl rfl | exact Or.inr rfl) (pe_ix ix_seq (pv 2) (pe_callD ok__law_take (hr.mono (by decide)) (by rfl) g__law_take k__law_take b__law_take .nil (fun σ => passAt tk σ) (pa_cons (pv 1) (pa_cons pe_int pa_nil))) (fun _ _ => rfl))) (pss_cons (ps_set (i := 4) sc_law.nd rfl (by first | exact Or.inl rfl | exact Or.inr rfl) (pe_ix ix_seq (pv 2) (pe_callD ok__law_take (hr.mono (by decide)) (by rfl) g__law_take k__law_take b__law_take .nil (fun σ => passAt tk σ) (pa_cons (pv 1) (pa_cons pe_int pa_nil))) (fun _ _ => rfl))) (pss_cons (ps_set (i := 5) sc_law.nd rfl (by first | exact Or.inl rfl | exact Or.inr rfl) (pe_op op_addX (pe_callD ok__law_first (hr.mono (by decide)) (by rfl) g__law_first k__law_first b__law_first .nil (fun σ => passAt tk σ) (pa_cons (pv 3) (pa_cons (pv 4) pa_nil))) (pe_callD ok__law_second (hr.mono (by decide)) (by rfl) g__law_second k__law_second b__law_second .nil (fun σ => passAt tk σ) (pa_cons (pv 3) (pa_cons (pv 4) pa_nil))))) (pss_cons (ps_for (passes_of rfl) rfl (pi_range1 (by rfl) (Z.free 142) (pa_cons (pe_callB call_len_seq (by rfl) (Z.free 141) (by decide +kernel) (pa_cons (pv 5) pa_nil)) pa_nil)) (pg_name (i := 6) sc_law.nd rfl (by first | exact Or.inl rfl | exact Or.inr rfl)) (pss_cons (ps_asg (pe_ix ix_seq (pv 5) (pv 6) (fun _ _ => rfl)) (pg_tup (by rfl) (pgs_cons (pg_name (i := 8) sc_law.nd rfl (by first | exact Or.inl rfl | exact Or.inr rfl)) (pgs_cons (pg_name (i := 9) sc_law.nd rfl (by first | exact Or.inl rfl | exact Or.inr rfl)) pgs_nil)))) (pss_cons (ps_set (i := 7) sc_law.nd rfl (by first | exact Or.inl rfl | exact Or.inr rfl) (pe_callD ok__law_kinds (hr.mono (by decide)) (by rfl) g__law_kinds k__law_kinds b__law_kinds .nil (fun σ => passAt tk σ) (pa_cons (pv 8) pa_nil))) (pss_cons (ps_if (PW.pt (pw_or (pt_cmpR (op_neX hr.units) (pe_lc (own := [("_law_k", 10)]) rfl sc_law.nd (pi_range1 (by rfl) (Z.free 142) (pa_cons (pe_callB call_len_seq (by rfl) (Z.free 141) (by decide +kernel) (pa_cons (pv 7) pa_nil)) pa_nil)) (blkOk_by (own := [("_law_k", 10)]) (N := ["_law_script", "_law_hand_here", "_law_odd", "_law_one", "_law_other", "_law_both", "_law_place", "_law_kinds_here", "_law_made", "_law_attributes_here", "_law_k"]) (sc := (defScope s30)) (by decide +kernel)) (fun _ _ _ _ _ => (pg_name (i := 10) sc_law.nd rfl (by first | exact Or.inl rfl | exact Or.inr rfl))) (fun _ _ _ _ _ => (pts_one (pt_truthK (K := K) rfl (pe_ix (r := rIx K) ix_seq (pv 7) (pv 10) (fun _ _ => rfl))))) (fun _ _ _ _ _ => (pv 10))) (pe_lst (pa_cons (pv 6) pa_nil)) (nomark _)) (pw_or1 (pt_not (PW.pt (pw_and (pt_truthX (pe_callB call_xv (by rfl) (Z.free 140) (by decide +kernel) (pa_cons (pv 8) (pa_cons (pe_glob (v := .ref (He.ga K "RankError")) (by rfl) gl_RankError rfl) pa_nil)))) (pw_and1 (pt_truthX (pe_callB call_xv (by rfl) (Z.free 140) (by decide +kernel) (pa_cons (pv 8) (pa_cons (pe_bltn (v := .ty "ValueError") (by rfl) (Z.free 137) (by decide +kernel) rfl) pa_nil))))))))))) (pss_one (ps_ret pe_bl)) pss_nil) (pss_one (ps_if (pt_cmpR (op_neX hr.units) (pe_callB (call_reprX hr.gd hr.units) (by rfl) (Z.free 143) (by decide +kernel) (pa_cons (pe_callD ok__law_attributes (hr.mono (by decide)) (by rfl) g__law_attributes k__law_attributes b__law_attributes .nil (fun σ => passAt tk σ) (pa_cons (pv 6) (pa_cons (pv 8) pa_nil))) pa_nil)) (pe_callB (call_reprX hr.gd hr.units) (by rfl) (Z.free 143) (by decide +kernel) (pa_cons (pv 9) pa_nil)) (nomark _)) (pss_one (ps_ret pe_bl)) pss_nil)))))) (pss_one (ps_ret pe_bl)))))))), law_by (n := 11) (ih := 1) (O' := []) (OL := []) hS rfl (by decide) (by decide) (T ns hl) (fun hp0 => (snd_seq (snd_set (snd_tup (snd_acons snd_non (snd_acons snd_str (snd_acons (snd_neg snd_int) (snd_acons snd_bl (snd_acons (snd_tup (snd_acons snd_int (snd_acons snd_int snd_anil))) (snd_acons (snd_call (dd := []) (snd_acons (snd_var (by decide)) (snd_acons (snd_pow snd_int snd_int) snd_anil)) (fun _ => rfl) (fun _ => rfl)) (snd_acons (snd_sub (snd_call (dd := []) (snd_acons (snd_var (by decide)) (snd_acons snd_int snd_anil)) (fun _ => rfl) (fun _ => rfl)) snd_int) snd_anil))))))))) (snd_seq (snd_set (snd_ix snd_rvar (snd_call (dd := []) (snd_acons (snd_var (by decide)) (snd_acons snd_int snd_anil)) (fun _ => rfl) (fun _ => rfl)))) (snd_seq (snd_set (snd_ix snd_rvar (snd_call (dd := []) (snd_acons (snd_var (by decide)) (snd_acons snd_int snd_anil)) (fun _ => rfl) (fun _ => rfl)))) (snd_seq (snd_set (snd_addX (snd_r (snd_call (dd := []) (snd_acons (snd_var (by decide)) (snd_acons (snd_var (by decide)) snd_anil)) (fun _ => rfl) (fun _ => rfl))) (snd_r (snd_call (dd := []) (snd_acons (snd_var (by decide)) (snd_acons (snd_var (by decide)) snd_anil)) (fun _ => rfl) (fun _ => rfl))))) (snd_seq (snd_for (snd_rng1 (snd_acons (snd_b1 snd_rvar rb_len) snd_anil)) snd_gvar (snd_seq (snd_unp (snd_ix snd_rvar (snd_var (by decide))) (snd_gtup (snd_gscons snd_gvar (snd_gscons snd_gvar snd_gsnil)))) (snd_seq (snd_set (snd_call (dd := []) (snd_acons (snd_var (by decide)) snd_anil) (fun _ => rfl) (fun _ => rfl))) (snd_seq (snd_ifS (snd_or (snd_test (snd_ne (snd_l (snd_comp (own := [10]) (snd_rng1 (snd_acons (snd_b1 snd_rvar rb_len) snd_anil)) snd_gvar (snd_tru (snd_ix snd_rvar (snd_var (by decide)))) (snd_var (by decide)) (by decide) (by decide))) (snd_l (snd_lst (snd_acons (snd_var (by decide)) snd_anil))))) (snd_not (snd_and (snd_tru (snd_xv (T := (.own "RankError")) Zx rfl (snd_var (by decide)))) (snd_tru (snd_xv (T := (.ty "ValueError")) Zx rfl (snd_var (by decide))))))) (snd_ret snd_bl) snd_pass) (snd_ifS (snd_test (snd_ne (snd_b1 (snd_r (snd_call (dd := []) (snd_acons (snd_var (by decide)) (snd_acons (snd_var (by decide)) snd_anil)) (fun _ => rfl) (fun _ => rfl))) rb_repr) (snd_b1 snd_rvar rb_repr))) (snd_ret snd_bl) snd_pass))))) (snd_ret snd_bl))))))) hQ⟩
end
end HK75

set_option maxRecDepth 100000
set_option maxHeartbeats 4000000
namespace HK75
open PySem L2 MP
local macro_rules | `(tactic| open_k with $t:term) => `(tactic| try simp only [↓rE_var, ↓rE_c, ↓rE_op, ↓rE_un, ↓rE_only, ↓rE_not, ↓rE_tru, ↓rE_and, ↓rE_or, ↓rE_if, ↓rE_chain, ↓rA_nil, ↓rA_cons, ↓rE_args, ↓rE_call, ↓rE_pf, ↓rE_part, ↓rE_slF, ↓rA_items, ↓rA_via, ↓rA_rev, ↓rE_hix, ↓rE_xf, ↓rE_pure, ↓rS_seq, ↓rS_set, ↓rS_asg2, ↓rS_unp, ↓rS_ret, ↓rS_drop, ↓rS_retN, ↓rS_pass, ↓rS_brk, ↓rS_cnt, ↓rS_raise0, ↓rS_if, ↓rS_app, ↓rS_setIx, ↓rS_aug, ↓rS_par, ↓rS_raise1, ↓rS_try, ↓rS_hset, ↓rF_fn, ↓cS_, ↓cSb_, ↓cSs_, ↓cSA_, ↓cSAr_, ↓cSN_, ↓cOp2_, ↓cOp2_x, ↓cOp_, ↓cOp_x, ↓cUn_, ↓cUn_x, ↓cOnly_, ↓cOnly_x, ↓cNot_, ↓cNot_x, ↓cTru_, ↓cTru_x, ↓cIfE_, ↓cIfE_x, ↓cCh3_, ↓cCh2_, ↓cCh2_x, ↓cCh_, ↓cCh_x, ↓cCons2_, ↓cCons2_x, ↓cCons_, ↓cCons_x, ↓cArgs_, ↓cArgs_x, ↓cCall_, ↓cCall_x, ↓cPart_, ↓cPart_x, ↓cSl5_, ↓cSl4_, ↓cSl3_, ↓cSl3_x, ↓cSl2_, ↓cSl2_x, ↓cSl_, ↓cSl_x, ↓cItems_, ↓cItems_x, ↓cVia_, ↓cVia_x, ↓cRev_, ↓cRev_x, ↓cPure_, ↓cPure_x, ↓cSeq_, ↓cSeq_r, ↓cSeq_b, ↓cSeq_c, ↓cSeq_x, ↓cSet_, ↓cSet_x, ↓cAsg2_, ↓cAsg2_x, ↓cUnp_, ↓cUnp_x, ↓cRet_, ↓cRet_x, ↓cDrop_, ↓cDrop_x, ↓cIfS_, ↓cIfS_x, ↓cApp2_, ↓cApp2_x, ↓cApp_, ↓cSetIx3_, ↓cSetIx2_, ↓cSetIx2_x, ↓cSetIx1_, ↓cSetIx1_x, ↓cSetIx_, ↓cAug2_, ↓cAug_, ↓cPar_, ↓cPar_x, ↓cRaise1_, ↓cRaise1_x, ↓cHset2_, ↓cHset_, ↓cHset_x, ↓kF_nx, ↓kF_ret, ↓kF_x, ↓kT_nx, ↓kT_ret, ↓kT_brk, ↓kT_cnt, ↓kT_x, ↓kFor_nx, ↓kFor_cnt, ↓kForR_nx, ↓kForR_cnt, ↓kForR_brk, ↓kForR_ret, ↓kForR_x, ↓kIt_, ↓kIt_x, ↓kItE_, ↓kItE_x, ↓rE_meth, ↓rE_make, ↓cMeth3_, ↓cMeth3_x, ↓cMeth2_, ↓cMeth_, ↓cMeth_x, ↓cObj_, ↓cObj_x, ↓cMake_, ↓cMake_x, ↓rP_some, ↓cIf_tt, ↓cIf_ff, ↓so_some, ↓so_none, ↓cTurn_t, ↓cTurn_f, ↓cTurn_x, ↓kW_nx, ↓kW_cnt, ↓kW_brk, ↓kW_ret, ↓kW_x, ↓kU_nx, ↓kU_ret, ↓kU_brk, ↓kU_cnt, ↓tryGo_nil,
  List.length_cons, List.length_nil, List.map_cons, List.map_nil, List.cons_append, List.nil_append, List.append_nil, List.replicate_succ, List.replicate_zero, List.getElem?_cons_zero, List.getElem?_cons_succ, List.set_cons_zero, List.set_cons_succ, Nat.reduceAdd, Nat.reduceSub, Nat.zero_add, Nat.sub_self, true_and, and_true, if_true, if_false, Bool.false_eq_true, eq_self, reduceIte, fAdd, fMul, fI0, fB0, fI, gVar, gTupD, gsCons, gsNil, wipeD, dI_snoc, isN_non, isN_str, notN_non, notN_str, notN_int, isN_int, truth_bl, truth_int, truth_lst, truth_tup, fTup_0, fTup_1, fTup_2, fTup_3, fTup_4, fLst_0, fLst_1, fLst_2, fLst_3, fLst_4, isPart_int, partOf_int, partOf_non, isi_int_int, isi_int_bl, isi_int_non, isi_int_str, isi_int_lst, isi_int_tup, isi_bool_int, isi_bool_bl, isi_tuple_tup, isi_tuple_lst, isi2_lst, isi2_tup, isi2_int, isi2_bl, isi2_non, isi2_str, fEq_int, fNe_int, fEq_str, fLen_lst, fLen_tup, fInt_int, fTuple_lst, fTuple_tup, fList_lst, fList_tup, itemsI_lst, itemsI_tup, fIx_l0, fIx_t0, fIx_l1, fIx_t1, fIx_l2, fIx_l3,
  Bool.not_true, Bool.not_false, wipe1_none, wipe1_some, tryGo_yes, tryGo_no, lookup_one, str_self, decide_true, decide_false, noL, noLf, isLst, hfO, hf, List.all_cons, List.all_nil, Bool.and_self, Bool.and_true, Bool.true_and, $t:term])
def mixG (a b : Int) : Int :=
  let o := (a * 39373 + b * 6151 + 50021) % 2147483399
  let t := (o * o + b * 81071 + o / 137) % 2147483629
  ((t * 62089 + o / 11) % 2147483587) / 64
theorem stir_ok (a b : Int) (g : G) : m__law_mixed [.int a, .int b] g = some (.ok (.int (mixG a b)), g) := by
  refine rF_eq ?_
  unfold m__law_mixed
  have k1 : ∀ x : Int, cMul x 39373 = true := fun x => cMul_r (by decide)
  have k2 : ∀ x : Int, cMul x 6151 = true := fun x => cMul_r (by decide)
  have k3 : ∀ x : Int, cMul x 81071 = true := fun x => cMul_r (by decide)
  have k4 : ∀ x : Int, cMul x 62089 = true := fun x => cMul_r (by decide)
  have d1 : ∀ x : Int, cMod x 2147483399 = true := fun x => cMod_ok (by decide)
  have d2 : ∀ x : Int, cMod x 2147483629 = true := fun x => cMod_ok (by decide)
  have d3 : ∀ x : Int, cMod x 2147483587 = true := fun x => cMod_ok (by decide)
  have q1 : ∀ x : Int, cDiv x 137 = true := fun x => cDiv_ok (by decide) (by decide +kernel)
  have q2 : ∀ x : Int, cDiv x 11 = true := fun x => cDiv_ok (by decide) (by decide +kernel)
  have q3 : ∀ x : Int, cDiv x 64 = true := fun x => cDiv_ok (by decide) (by decide +kernel)
  have s1 : ∀ x : Int, cMul (x % 2147483399) (x % 2147483399) = true := fun x => cMul_r (by omega)
  open_k with (And.intro k1 (And.intro k2 (And.intro k3 (And.intro k4 (And.intro d1 (And.intro d2 (And.intro d3 (And.intro q1 (And.intro q2 (And.intro q3 s1))))))))))
  rfl
theorem atI_0 {x y z w : MP.D} : atI [x, y, z, w] 0 = some x := rfl
theorem atI_1 {x y z w : MP.D} : atI [x, y, z, w] 1 = some y := rfl
theorem atI_2 {x y z w : MP.D} : atI [x, y, z, w] 2 = some z := rfl
theorem atI_3 {x y z w : MP.D} : atI [x, y, z, w] 3 = some w := rfl
theorem ixN_1 : ixN 4 1 = some 1 := rfl
theorem ixN_2 : ixN 4 2 = some 2 := rfl
theorem ixN_3 : ixN 4 3 = some 3 := rfl
def ld1 : SS := (sSeq (sIf (onlyB (eOp (fB0 fun i j => decide (j < i)) (eHix 0 2) (eC (.int 0)))) (sSeq (sSet 3 (eHix 0 2)) (sSeq (sHset 0 2 (eOp (fI cDiv fun i j => i / j) (eUn fInt (eVar 3)) (eVar 1))) (sRet (eOp (fI cMod fun i j => i % j) (eUn fInt (eVar 3)) (eVar 1))))) sPass) (sSeq (sHset 0 3 (eOp (fI cMod fun i j => i % j) (eUn fInt (eOp fAdd (eHix 0 3) (eC (.int 1)))) (eC (.int 2147483549)))) (sRet (eOp (fI cMod fun i j => i % j) (eUn fInt (eCall m__law_mixed [] (aCons (eHix 0 3) (aCons (eHix 0 1) aNil)))) (eVar 1)))))
theorem cut_m__law_take : m__law_take = mkFn 4 2 (sSeq (sIf (eAnd (onlyB (eOp fEq (eHix 0 2) (eC (.int 0)))) (onlyB (eOp (fB0 fun i j => decide (i < j)) (eHix 0 1) (eUn fLen (eHix 0 0))))) (sSeq (sSet 2 (eOp fIx (eHix 0 0) (eHix 0 1))) (sSeq (sHset 0 1 (eOp fAdd (eHix 0 1) (eC (.int 1)))) (sSeq (sIf (onlyB (eOp (fB0 fun i j => decide (i < j)) (eVar 2) (eOp (fI cPow fun i j => i ^ j.toNat) (eC (.int 10)) (eC (.int 18))))) (sRet (eOp (fI cMod fun i j => i % j) (eUn fInt (eCall m__law_mixed [] (aCons (eOp (fI cMod fun i j => i % j) (eUn fInt (eVar 2)) (eC (.int 2147483399))) (aCons (eHix 0 1) aNil)))) (eVar 1))) sPass) (sHset 0 2 (eVar 2))))) sPass) ld1) := rfl
theorem draw_ok (many : Int) (g : G) (h0 : 0 < many) (h1 : many.natAbs.log2 < 9000) (hg : HandOk g) : ∃ v g', m__law_take [.hand, .int many] g = some (.ok (.int v), g') ∧ 0 ≤ v ∧ v < many ∧ HandOk g' := by
  obtain ⟨ns, i, r, s, rfl, hn, hr⟩ := hg
  have cm : ∀ x : Int, cMod x many = true := fun x => cMod_ok h0
  have cd : ∀ x : Int, cDiv x many = true := fun x => cDiv_ok h0 h1
  have d1 : ∀ x : Int, cMod x 2147483399 = true := fun x => cMod_ok (by decide)
  have d2 : ∀ x : Int, cMod x 2147483549 = true := fun x => cMod_ok (by decide)
  have p1 : cPow 10 18 = true := by decide
  have p2 : (10 : Int) ^ (18 : Int).toNat = 1000000000000000000 := by decide
  have lo : ∀ x : Int, 0 ≤ x % many := fun x => Int.emod_nonneg x (by omega)
  have hi : ∀ x : Int, x % many < many := fun x => Int.emod_lt_of_pos x h0
  suffices h : rP (m__law_take [.hand, .int many] [.lst (ns.map .int), .int i, .int r, .int s]) (fun o g' => ∃ v, o = .ok (.int v) ∧ 0 ≤ v ∧ v < many ∧ HandOk g') by
    obtain ⟨o, g', e, v, rfl, a, b, c⟩ := rP_get h
    exact ⟨v, g', e, a, b, c⟩
  rw [cut_m__law_take]
  have low : ∀ (x2 x3 : Option MP.D) (i : Nat) (r s : Int), 0 ≤ r → rP (ld1 [some .hand, some (.int many), x2, x3] [.lst (ns.map .int), .int i, .int r, .int s]) (kF (fun o g' => ∃ v, o = .ok (.int v) ∧ 0 ≤ v ∧ v < many ∧ HandOk g')) := by
    intro x2 x3 i r s hr
    unfold ld1
    open_k with (And.intro (@atI_0) (And.intro (@atI_1) (And.intro (@atI_2) (@atI_3))))
    refine cIf_by (fun c => ?_) fun c => ?_
    · have := of_decide_eq_true c
      open_k with (And.intro (@atI_2) (And.intro cd (And.intro cm ixN_2)))
      exact ⟨_, rfl, lo _, hi _, ns, i, r / many, s, rfl, hn, Int.ediv_nonneg hr (by omega)⟩
    · open_k with (And.intro (@atI_1) (And.intro (@atI_3) (And.intro d2 (And.intro cm (And.intro ixN_3 stir_ok)))))
      exact ⟨_, rfl, lo _, hi _, ns, i, r, _, rfl, hn, hr⟩
  open_k with (And.intro (@atI_0) (And.intro (@atI_1) (And.intro (@atI_2) (@atI_3))))
  refine cIf_by (fun c => ?_) fun c => ?_
  · have hr0 : r = 0 := by simpa using c
    subst hr0
    open_k with (And.intro (@atI_0) (And.intro (@atI_1) (List.length_map (as := ns) (MP.D.int))))
    refine cIf_by (fun c => ?_) fun c => ?_
    · have hlt : i < ns.length := by have := of_decide_eq_true c; omega
      have hx : fIx (.lst (ns.map MP.D.int)) (.int (i : Int)) = some (.int ns[i]) := atI_nat (by rw [List.getElem?_map, List.getElem?_eq_getElem hlt]; rfl)
      have xp : 0 ≤ ns[i] := hn _ (List.getElem_mem hlt)
      open_k with (And.intro hx (And.intro (@atI_0) (And.intro (@atI_1) (And.intro ixN_1 (And.intro p1 p2)))))
      refine cIf_by (fun c => ?_) fun c => ?_
      · open_k with (And.intro (@atI_1) (And.intro d1 (And.intro cm stir_ok)))
        exact ⟨_, rfl, lo _, hi _, ns, i + 1, 0, s, by rw [Int.natCast_add]; rfl, hn, by omega⟩
      · open_k with ixN_2
        rw [show (i : Int) + 1 = ((i + 1 : Nat) : Int) by omega]
        exact low (some (.int ns[i])) none (i + 1) ns[i] s xp
    · open_k with True
      exact low none none i 0 s hr
  · open_k with c
    exact low none none i r s hr
theorem tk {many : Int} (h0 : 0 < many) (h1 : many.natAbs.log2 < 9000) {g : G} (hg : HandOk g) : ∃ (v : Nat) (g' : G), m__law_take [.hand, .int many] g = some (.ok (.int (v : Int)), g') ∧ (v : Int) < many ∧ HandOk g' := by
  obtain ⟨v, g', e, a, b, h⟩ := draw_ok many g h0 h1 hg
  exact ⟨v.toNat, g', by rw [e, Int.toNat_of_nonneg a], by rw [Int.toNat_of_nonneg a]; exact b, h⟩
theorem log_small {x : Int} (h0 : 0 < x) (h : x < 4294967296) : x.natAbs.log2 < 9000 := Nat.lt_of_lt_of_le ((Nat.log2_lt (k := 32) (by omega)).mpr (by omega)) (by decide)
theorem rP_draw {many : Int} {g : G} {Q : QE} (hg : HandOk g) (h0 : 0 < many) (h1 : many < 4294967296) (k : ∀ (v : Nat) g', (v : Int) < many → HandOk g' → Q (.ok (.int (v : Int))) g') : rP (m__law_take [.hand, .int many] g) Q := by
  obtain ⟨v, g', e, hv, h⟩ := tk h0 (log_small h0 h1) hg
  rw [e]
  exact k v g' hv h
def absI (i : Int) : Int := if i < 0 then -i else i
theorem hand_ok (ns : List Int) (h : ns.length ≤ 63) : ∃ cells t, m__law_hand [.slst (ns.map .int)] [] = some (.ok (.lst (handG cells t)), []) ∧ ∀ c ∈ cells, 0 ≤ c := by
  suffices hh : rP (m__law_hand [.slst (ns.map .int)] []) (fun o g' => g' = [] ∧ ∃ t, o = .ok (.lst (handG (ns.map absI) t))) by
    obtain ⟨o, g', e, rfl, t, rfl⟩ := rP_get hh
    refine ⟨_, t, e, fun c hc => ?_⟩
    obtain ⟨i, _, rfl⟩ := List.mem_map.mp hc
    unfold absI
    split <;> omega
  have ei : itemsI (.slst (ns.map .int)) = some (ns.map .int) := rfl
  have ln : fLen (.slst (ns.map .int)) = some (.int (ns.length : Nat)) := by
    have e : (ns.map MP.D.int).length = ns.length := List.length_map ..
    show some (MP.D.int ((ns.map MP.D.int).length : Nat)) = _
    rw [e]
  have k1 : ∀ x : Int, cMul x 2003 = true := fun x => cMul_r (by decide)
  have d1 : ∀ x : Int, cMod x 2147483563 = true := fun x => cMod_ok (by decide)
  unfold m__law_hand
  open_k with ln
  refine rS_for (fun k ρ g' => ∃ t x3, ρ = [some (.slst (ns.map .int)), some (.int t), some (.lst ((ns.take k).map fun n => .int (absI n))), x3] ∧ g' = []) ?_
  open_k with ei
  refine ⟨⟨_, none, rfl⟩, fun k x ρ g' hx hi => ?_, fun ρ g' hi => ?_⟩
  · obtain ⟨t, x3, rfl, rfl⟩ := hi
    have hk : k < ns.length := by
      have := (List.getElem?_eq_some_iff.mp hx).1
      simpa using this
    rw [List.getElem?_map, List.getElem?_eq_getElem hk] at hx
    cases hx
    have fa : fAbs (.int ns[k]) = some (.int (absI ns[k])) := rfl
    have sz : szB (((ns.take k).map fun n => MP.D.int (absI n)).length + 1) = true := szB_of (by rw [List.length_map, List.length_take]; omega)
    open_k with (And.intro k1 (And.intro d1 (And.intro fa sz)))
    have e : (ns.take (k + 1)).map (fun n => MP.D.int (absI n)) = ((ns.take k).map fun n => MP.D.int (absI n)) ++ [MP.D.int (absI ns[k])] := by
      rw [List.take_succ, List.getElem?_eq_getElem hk, List.map_append]
      rfl
    rw [e]
    exact ⟨_, _, rfl⟩
  · obtain ⟨t, x3, rfl, rfl⟩ := hi
    open_k with True
    refine ⟨t, ?_⟩
    rw [List.length_map, List.take_length]
    unfold handG
    rw [List.map_map]
    rfl
theorem handG_ok {cells : List Int} {t : Int} (h : ∀ c ∈ cells, 0 ≤ c) : HandOk (handG cells t) := ⟨cells, 0, 0, t, rfl, h, Int.le_refl 0⟩
theorem at_lst {l : List MP.D} {v : Nat} {x : MP.D} (h : l[v]? = some x) : fIx (.lst l) (.int (v : Int)) = some x := atI_nat h
theorem at_tup {l : List MP.D} {v : Nat} {x : MP.D} (h : l[v]? = some x) : fIx (.tup l) (.int (v : Int)) = some x := atI_nat h
theorem at_ptup {l : List MP.D} {v : Nat} {x : MP.D} (h : l[v]? = some x) : fIx (.ptup l) (.int (v : Int)) = some x := atI_nat h
end HK75

set_option maxRecDepth 100000
set_option maxHeartbeats 4000000
namespace HK75
open PySem L2 MP
local macro_rules | `(tactic| open_k with $t:term) => `(tactic| try simp only [↓rE_var, ↓rE_c, ↓rE_op, ↓rE_un, ↓rE_only, ↓rE_not, ↓rE_tru, ↓rE_and, ↓rE_or, ↓rE_if, ↓rE_chain, ↓rA_nil, ↓rA_cons, ↓rE_args, ↓rE_call, ↓rE_pf, ↓rE_part, ↓rE_slF, ↓rA_items, ↓rA_via, ↓rA_rev, ↓rE_hix, ↓rE_xf, ↓rE_pure, ↓rS_seq, ↓rS_set, ↓rS_asg2, ↓rS_unp, ↓rS_ret, ↓rS_drop, ↓rS_retN, ↓rS_pass, ↓rS_brk, ↓rS_cnt, ↓rS_raise0, ↓rS_if, ↓rS_app, ↓rS_setIx, ↓rS_aug, ↓rS_par, ↓rS_raise1, ↓rS_try, ↓rS_hset, ↓rF_fn, ↓cS_, ↓cSb_, ↓cSs_, ↓cSA_, ↓cSAr_, ↓cSN_, ↓cOp2_, ↓cOp2_x, ↓cOp_, ↓cOp_x, ↓cUn_, ↓cUn_x, ↓cOnly_, ↓cOnly_x, ↓cNot_, ↓cNot_x, ↓cTru_, ↓cTru_x, ↓cIfE_, ↓cIfE_x, ↓cCh3_, ↓cCh2_, ↓cCh2_x, ↓cCh_, ↓cCh_x, ↓cCons2_, ↓cCons2_x, ↓cCons_, ↓cCons_x, ↓cArgs_, ↓cArgs_x, ↓cCall_, ↓cCall_x, ↓cPart_, ↓cPart_x, ↓cSl5_, ↓cSl4_, ↓cSl3_, ↓cSl3_x, ↓cSl2_, ↓cSl2_x, ↓cSl_, ↓cSl_x, ↓cItems_, ↓cItems_x, ↓cVia_, ↓cVia_x, ↓cRev_, ↓cRev_x, ↓cPure_, ↓cPure_x, ↓cSeq_, ↓cSeq_r, ↓cSeq_b, ↓cSeq_c, ↓cSeq_x, ↓cSet_, ↓cSet_x, ↓cAsg2_, ↓cAsg2_x, ↓cUnp_, ↓cUnp_x, ↓cRet_, ↓cRet_x, ↓cDrop_, ↓cDrop_x, ↓cIfS_, ↓cIfS_x, ↓cApp2_, ↓cApp2_x, ↓cApp_, ↓cSetIx3_, ↓cSetIx2_, ↓cSetIx2_x, ↓cSetIx1_, ↓cSetIx1_x, ↓cSetIx_, ↓cAug2_, ↓cAug_, ↓cPar_, ↓cPar_x, ↓cRaise1_, ↓cRaise1_x, ↓cHset2_, ↓cHset_, ↓cHset_x, ↓kF_nx, ↓kF_ret, ↓kF_x, ↓kT_nx, ↓kT_ret, ↓kT_brk, ↓kT_cnt, ↓kT_x, ↓kFor_nx, ↓kFor_cnt, ↓kForR_nx, ↓kForR_cnt, ↓kForR_brk, ↓kForR_ret, ↓kForR_x, ↓kIt_, ↓kIt_x, ↓kItE_, ↓kItE_x, ↓rE_meth, ↓rE_make, ↓cMeth3_, ↓cMeth3_x, ↓cMeth2_, ↓cMeth_, ↓cMeth_x, ↓cObj_, ↓cObj_x, ↓cMake_, ↓cMake_x, ↓rP_some, ↓cIf_tt, ↓cIf_ff, ↓so_some, ↓so_none, ↓cTurn_t, ↓cTurn_f, ↓cTurn_x, ↓kW_nx, ↓kW_cnt, ↓kW_brk, ↓kW_ret, ↓kW_x, ↓kU_nx, ↓kU_ret, ↓kU_brk, ↓kU_cnt, ↓tryGo_nil,
  List.length_cons, List.length_nil, List.map_cons, List.map_nil, List.cons_append, List.nil_append, List.append_nil, List.replicate_succ, List.replicate_zero, List.getElem?_cons_zero, List.getElem?_cons_succ, List.set_cons_zero, List.set_cons_succ, Nat.reduceAdd, Nat.reduceSub, Nat.zero_add, Nat.sub_self, true_and, and_true, if_true, if_false, Bool.false_eq_true, eq_self, reduceIte, fAdd, fMul, fI0, fB0, fI, gVar, gTupD, gsCons, gsNil, wipeD, dI_snoc, isN_non, isN_str, notN_non, notN_str, notN_int, isN_int, truth_bl, truth_int, truth_lst, truth_tup, fTup_0, fTup_1, fTup_2, fTup_3, fTup_4, fLst_0, fLst_1, fLst_2, fLst_3, fLst_4, isPart_int, partOf_int, partOf_non, isi_int_int, isi_int_bl, isi_int_non, isi_int_str, isi_int_lst, isi_int_tup, isi_bool_int, isi_bool_bl, isi_tuple_tup, isi_tuple_lst, isi2_lst, isi2_tup, isi2_int, isi2_bl, isi2_non, isi2_str, fEq_int, fNe_int, fEq_str, fLen_lst, fLen_tup, fInt_int, fTuple_lst, fTuple_tup, fList_lst, fList_tup, itemsI_lst, itemsI_tup, fIx_l0, fIx_t0, fIx_l1, fIx_t1, fIx_l2, fIx_l3,
  Bool.not_true, Bool.not_false, wipe1_none, wipe1_some, tryGo_yes, tryGo_no, lookup_one, str_self, decide_true, decide_false, noL, noLf, isLst, hfO, hf, List.all_cons, List.all_nil, Bool.and_self, Bool.and_true, Bool.true_and, $t:term])
theorem lk_skip {K : MP.Tg × MP.Tg} : ∀ (l r : MP.Isi), (∀ e ∈ l, e.1 ≠ K) → (l ++ r).lookup K = r.lookup K
  | [], _, _ => rfl
  | ((k, b) :: l), r, h => by
    rw [List.cons_append, List.lookup_cons]
    have : (K == k) = false := beq_false_of_ne fun e => h _ List.mem_cons_self e.symm
    rw [this]
    exact lk_skip l r fun e he => h e (List.mem_cons_of_mem _ he)
theorem lk_hit {n m : PySem.Str} (r : MP.Isi) : ∀ l : List PySem.Str, m ∈ l → ((l.map fun m' => ((MP.Tg.own n, MP.Tg.own m'), n == m')) ++ r).lookup (.own n, .own m) = some (n == m)
  | [], h => by cases h
  | x :: l, h => by
    rw [List.map_cons, List.cons_append, List.lookup_cons]
    by_cases e : m = x
    · rw [e, beq_self_eq_true]
    · have : (((MP.Tg.own n, MP.Tg.own m) : MP.Tg × MP.Tg) == (.own n, .own x)) = false := beq_false_of_ne fun z => e (by
        injection z with _ z
        injection z)
      rw [this]
      exact lk_hit r l ((List.mem_cons.mp h).resolve_left e)
theorem lk_block {n : PySem.Str} {T : MP.Tg} {b : Bool} (h : ∀ r, (isr n ++ r).lookup (.own n, T) = some b) : ∀ l : List PySem.Str, n ∈ l → (l.flatMap isr).lookup (.own n, T) = some b
  | [], q => by cases q
  | x :: l, q => by
    rw [List.flatMap_cons]
    by_cases e : n = x
    · rw [← e]; exact h _
    · rw [lk_skip _ _ fun y hy => ?_]
      · exact lk_block h l ((List.mem_cons.mp q).resolve_left e)
      · intro z
        unfold isr at hy
        rw [List.mem_append] at hy
        have : y.1.1 = MP.Tg.own x := by
          rcases hy with hy | hy
          · obtain ⟨m, _, rfl⟩ := List.mem_map.mp hy
            rfl
          · rcases List.mem_cons.mp hy with rfl | hy
            · rfl
            · rcases List.mem_cons.mp hy with rfl | hy
              · rfl
              · cases hy
        rw [z] at this
        injection this with this
        exact e this
theorem isl_own {n m : PySem.Str} (hn : n ∈ exn) (hm : m ∈ exn) : isl.lookup (.own n, .own m) = some (n == m) := by
  unfold isl
  rw [List.append_nil]
  refine lk_block (fun r => ?_) exn hn
  unfold isr
  rw [List.append_assoc]
  exact lk_hit _ exn hm
theorem noR : (exn.all fun m => !decide (m = "RankError")) = true := by decide +kernel
theorem isl_rank {n : PySem.Str} (hn : n ∈ exn) : isl.lookup (.own n, .own "RankError") = some true := by
  unfold isl
  rw [List.append_nil]
  refine lk_block (fun r => ?_) exn hn
  unfold isr
  rw [List.append_assoc, lk_skip _ _ fun e he z => ?_]
  · rw [List.cons_append, List.lookup_cons, beq_self_eq_true]
  · obtain ⟨m, hm, rfl⟩ := List.mem_map.mp he
    injection z with _ z
    injection z with z
    have := List.all_eq_true.mp noR m hm
    rw [decide_eq_true z] at this
    cases this
theorem isl_val {n : PySem.Str} (hn : n ∈ exn) : isl.lookup (.own n, .ty "ValueError") = some true := by
  unfold isl
  rw [List.append_nil]
  refine lk_block (fun r => ?_) exn hn
  unfold isr
  rw [List.append_assoc, lk_skip _ _ fun e he z => ?_]
  · rw [List.cons_append, List.lookup_cons]
    have : (((MP.Tg.own n, MP.Tg.ty "ValueError") : MP.Tg × MP.Tg) == (.own n, .own "RankError")) = false := beq_false_of_ne fun z => by
      injection z with _ z
      cases z
    rw [this, List.cons_append, List.lookup_cons, beq_self_eq_true]
  · obtain ⟨m, hm, rfl⟩ := List.mem_map.mp he
    injection z with _ z
    cases z
theorem xfl_all : (exn.all fun n => xfl.contains n) = true := by decide +kernel
theorem xfl_ok {n : PySem.Str} (hn : n ∈ exn) : xfl.contains n = true := List.all_eq_true.mp xfl_all n hn
theorem xv_own {n m : PySem.Str} {fs : List (PySem.Str × MP.D)} (hn : n ∈ exn) (hm : m ∈ exn) : fXv xfl isl (.own m) (.exv n fs) = some (.bl (n == m)) := by
  unfold fXv
  simp only [xfl_ok hn, if_true, isl_own hn hm, Option.map_some]
theorem xv_rank {n : PySem.Str} {fs : List (PySem.Str × MP.D)} (hn : n ∈ exn) : fXv xfl isl (.own "RankError") (.exv n fs) = some (.bl true) := by
  unfold fXv
  simp only [xfl_ok hn, if_true, isl_rank hn, Option.map_some]
theorem xv_val {n : PySem.Str} {fs : List (PySem.Str × MP.D)} (hn : n ∈ exn) : fXv xfl isl (.ty "ValueError") (.exv n fs) = some (.bl true) := by
  unfold fXv
  simp only [xfl_ok hn, if_true, isl_val hn, Option.map_some]
theorem fLst_4 {a b c d : MP.D} : fLst [a, b, c, d] = some (.lst [a, b, c, d]) := by unfold fLst; exact if_pos (show szB 4 = true by decide)
theorem fLst_2 {a b : MP.D} : fLst [a, b] = some (.lst [a, b]) := by unfold fLst; exact if_pos (show szB 2 = true by decide)
theorem fAddL_ok {a b : List MP.D} (h : a.length + b.length < 2 ^ 20) : fAddL (.lst a) (.lst b) = some (.lst (a ++ b)) := by
  unfold fAddL
  exact if_pos (szB_of h)
theorem kinds_ok {n : PySem.Str} (hn : n ∈ exn) (fs : List (PySem.Str × MP.D)) (g : G) : m__law_kinds [.exv n fs] g = some (.ok (.lst (exn.map fun m => MP.D.bl (n == m))), g) := by
  have k0 : fXv xfl isl (.own "BadField") (.exv n fs) = some (.bl (n == "BadField")) := xv_own hn (by decide +kernel)
  have k1 : fXv xfl isl (.own "BadThing") (.exv n fs) = some (.bl (n == "BadThing")) := xv_own hn (by decide +kernel)
  have k2 : fXv xfl isl (.own "ZeroThing") (.exv n fs) = some (.bl (n == "ZeroThing")) := xv_own hn (by decide +kernel)
  have k3 : fXv xfl isl (.own "BadColumns") (.exv n fs) = some (.bl (n == "BadColumns")) := xv_own hn (by decide +kernel)
  have k4 : fXv xfl isl (.own "BadWord") (.exv n fs) = some (.bl (n == "BadWord")) := xv_own hn (by decide +kernel)
  have k5 : fXv xfl isl (.own "BadTable") (.exv n fs) = some (.bl (n == "BadTable")) := xv_own hn (by decide +kernel)
  have k6 : fXv xfl isl (.own "BadRow") (.exv n fs) = some (.bl (n == "BadRow")) := xv_own hn (by decide +kernel)
  have k7 : fXv xfl isl (.own "Unlike") (.exv n fs) = some (.bl (n == "Unlike")) := xv_own hn (by decide +kernel)
  have k8 : fXv xfl isl (.own "BadText") (.exv n fs) = some (.bl (n == "BadText")) := xv_own hn (by decide +kernel)
  have k9 : fXv xfl isl (.own "BadPoly") (.exv n fs) = some (.bl (n == "BadPoly")) := xv_own hn (by decide +kernel)
  have k10 : fXv xfl isl (.own "NoDivisor") (.exv n fs) = some (.bl (n == "NoDivisor")) := xv_own hn (by decide +kernel)
  have k11 : fXv xfl isl (.own "BadPoints") (.exv n fs) = some (.bl (n == "BadPoints")) := xv_own hn (by decide +kernel)
  have k12 : fXv xfl isl (.own "NotApart") (.exv n fs) = some (.bl (n == "NotApart")) := xv_own hn (by decide +kernel)
  have k13 : fXv xfl isl (.own "NotInvertible") (.exv n fs) = some (.bl (n == "NotInvertible")) := xv_own hn (by decide +kernel)
  have k14 : fXv xfl isl (.own "BadLot") (.exv n fs) = some (.bl (n == "BadLot")) := xv_own hn (by decide +kernel)
  have k15 : fXv xfl isl (.own "BadDistance") (.exv n fs) = some (.bl (n == "BadDistance")) := xv_own hn (by decide +kernel)
  have k16 : fXv xfl isl (.own "NotMet") (.exv n fs) = some (.bl (n == "NotMet")) := xv_own hn (by decide +kernel)
  have k17 : fXv xfl isl (.own "BadHead") (.exv n fs) = some (.bl (n == "BadHead")) := xv_own hn (by decide +kernel)
  have k18 : fXv xfl isl (.own "BadClosed") (.exv n fs) = some (.bl (n == "BadClosed")) := xv_own hn (by decide +kernel)
  have k19 : fXv xfl isl (.own "TooMany") (.exv n fs) = some (.bl (n == "TooMany")) := xv_own hn (by decide +kernel)
  have k20 : fXv xfl isl (.own "BadTerms") (.exv n fs) = some (.bl (n == "BadTerms")) := xv_own hn (by decide +kernel)
  have k21 : fXv xfl isl (.own "NotMember") (.exv n fs) = some (.bl (n == "NotMember")) := xv_own hn (by decide +kernel)
  have k22 : fXv xfl isl (.own "BadSizes") (.exv n fs) = some (.bl (n == "BadSizes")) := xv_own hn (by decide +kernel)
  have k23 : fXv xfl isl (.own "BadCounts") (.exv n fs) = some (.bl (n == "BadCounts")) := xv_own hn (by decide +kernel)
  have k24 : fXv xfl isl (.own "NoLot") (.exv n fs) = some (.bl (n == "NoLot")) := xv_own hn (by decide +kernel)
  have k25 : fXv xfl isl (.own "BadErrors") (.exv n fs) = some (.bl (n == "BadErrors")) := xv_own hn (by decide +kernel)
  have k26 : fXv xfl isl (.own "BadLoss") (.exv n fs) = some (.bl (n == "BadLoss")) := xv_own hn (by decide +kernel)
  have k27 : fXv xfl isl (.own "NoClash") (.exv n fs) = some (.bl (n == "NoClash")) := xv_own hn (by decide +kernel)
  have k28 : fXv xfl isl (.own "BadCells") (.exv n fs) = some (.bl (n == "BadCells")) := xv_own hn (by decide +kernel)
  have k29 : fXv xfl isl (.own "BadLane") (.exv n fs) = some (.bl (n == "BadLane")) := xv_own hn (by decide +kernel)
  have k30 : fXv xfl isl (.own "TooSpoilt") (.exv n fs) = some (.bl (n == "TooSpoilt")) := xv_own hn (by decide +kernel)
  have k31 : fXv xfl isl (.own "BadComing") (.exv n fs) = some (.bl (n == "BadComing")) := xv_own hn (by decide +kernel)
  have k32 : fXv xfl isl (.own "BadDeed") (.exv n fs) = some (.bl (n == "BadDeed")) := xv_own hn (by decide +kernel)
  have k33 : fXv xfl isl (.own "BadRows") (.exv n fs) = some (.bl (n == "BadRows")) := xv_own hn (by decide +kernel)
  have k34 : fXv xfl isl (.own "NotBehind") (.exv n fs) = some (.bl (n == "NotBehind")) := xv_own hn (by decide +kernel)
  have k35 : fXv xfl isl (.own "NoColumn") (.exv n fs) = some (.bl (n == "NoColumn")) := xv_own hn (by decide +kernel)
  have k36 : fXv xfl isl (.own "NotClosedByThings") (.exv n fs) = some (.bl (n == "NotClosedByThings")) := xv_own hn (by decide +kernel)
  have k37 : fXv xfl isl (.own "BadNumber") (.exv n fs) = some (.bl (n == "BadNumber")) := xv_own hn (by decide +kernel)
  have k38 : fXv xfl isl (.own "BadEdit") (.exv n fs) = some (.bl (n == "BadEdit")) := xv_own hn (by decide +kernel)
  have k39 : fXv xfl isl (.own "BadGoal") (.exv n fs) = some (.bl (n == "BadGoal")) := xv_own hn (by decide +kernel)
  have k40 : fXv xfl isl (.own "Held") (.exv n fs) = some (.bl (n == "Held")) := xv_own hn (by decide +kernel)
  have k41 : fXv xfl isl (.own "NothingDone") (.exv n fs) = some (.bl (n == "NothingDone")) := xv_own hn (by decide +kernel)
  have a0 : fAddL (.lst []) (.lst [MP.D.bl (n == "BadField"), .bl (n == "BadThing"), .bl (n == "ZeroThing"), .bl (n == "BadColumns")]) = some (.lst [MP.D.bl (n == "BadField"), .bl (n == "BadThing"), .bl (n == "ZeroThing"), .bl (n == "BadColumns")]) := fAddL_ok (show 0 + 4 < 2 ^ 20 by decide)
  have a1 : fAddL (.lst [MP.D.bl (n == "BadField"), .bl (n == "BadThing"), .bl (n == "ZeroThing"), .bl (n == "BadColumns")]) (.lst [MP.D.bl (n == "BadWord"), .bl (n == "BadTable"), .bl (n == "BadRow"), .bl (n == "Unlike")]) = some (.lst [MP.D.bl (n == "BadField"), .bl (n == "BadThing"), .bl (n == "ZeroThing"), .bl (n == "BadColumns"), .bl (n == "BadWord"), .bl (n == "BadTable"), .bl (n == "BadRow"), .bl (n == "Unlike")]) := fAddL_ok (show 4 + 4 < 2 ^ 20 by decide)
  have a2 : fAddL (.lst [MP.D.bl (n == "BadField"), .bl (n == "BadThing"), .bl (n == "ZeroThing"), .bl (n == "BadColumns"), .bl (n == "BadWord"), .bl (n == "BadTable"), .bl (n == "BadRow"), .bl (n == "Unlike")]) (.lst [MP.D.bl (n == "BadText"), .bl (n == "BadPoly"), .bl (n == "NoDivisor"), .bl (n == "BadPoints")]) = some (.lst [MP.D.bl (n == "BadField"), .bl (n == "BadThing"), .bl (n == "ZeroThing"), .bl (n == "BadColumns"), .bl (n == "BadWord"), .bl (n == "BadTable"), .bl (n == "BadRow"), .bl (n == "Unlike"), .bl (n == "BadText"), .bl (n == "BadPoly"), .bl (n == "NoDivisor"), .bl (n == "BadPoints")]) := fAddL_ok (show 8 + 4 < 2 ^ 20 by decide)
  have a3 : fAddL (.lst [MP.D.bl (n == "BadField"), .bl (n == "BadThing"), .bl (n == "ZeroThing"), .bl (n == "BadColumns"), .bl (n == "BadWord"), .bl (n == "BadTable"), .bl (n == "BadRow"), .bl (n == "Unlike"), .bl (n == "BadText"), .bl (n == "BadPoly"), .bl (n == "NoDivisor"), .bl (n == "BadPoints")]) (.lst [MP.D.bl (n == "NotApart"), .bl (n == "NotInvertible"), .bl (n == "BadLot"), .bl (n == "BadDistance")]) = some (.lst [MP.D.bl (n == "BadField"), .bl (n == "BadThing"), .bl (n == "ZeroThing"), .bl (n == "BadColumns"), .bl (n == "BadWord"), .bl (n == "BadTable"), .bl (n == "BadRow"), .bl (n == "Unlike"), .bl (n == "BadText"), .bl (n == "BadPoly"), .bl (n == "NoDivisor"), .bl (n == "BadPoints"), .bl (n == "NotApart"), .bl (n == "NotInvertible"), .bl (n == "BadLot"), .bl (n == "BadDistance")]) := fAddL_ok (show 12 + 4 < 2 ^ 20 by decide)
  have a4 : fAddL (.lst [MP.D.bl (n == "BadField"), .bl (n == "BadThing"), .bl (n == "ZeroThing"), .bl (n == "BadColumns"), .bl (n == "BadWord"), .bl (n == "BadTable"), .bl (n == "BadRow"), .bl (n == "Unlike"), .bl (n == "BadText"), .bl (n == "BadPoly"), .bl (n == "NoDivisor"), .bl (n == "BadPoints"), .bl (n == "NotApart"), .bl (n == "NotInvertible"), .bl (n == "BadLot"), .bl (n == "BadDistance")]) (.lst [MP.D.bl (n == "NotMet"), .bl (n == "BadHead"), .bl (n == "BadClosed"), .bl (n == "TooMany")]) = some (.lst [MP.D.bl (n == "BadField"), .bl (n == "BadThing"), .bl (n == "ZeroThing"), .bl (n == "BadColumns"), .bl (n == "BadWord"), .bl (n == "BadTable"), .bl (n == "BadRow"), .bl (n == "Unlike"), .bl (n == "BadText"), .bl (n == "BadPoly"), .bl (n == "NoDivisor"), .bl (n == "BadPoints"), .bl (n == "NotApart"), .bl (n == "NotInvertible"), .bl (n == "BadLot"), .bl (n == "BadDistance"), .bl (n == "NotMet"), .bl (n == "BadHead"), .bl (n == "BadClosed"), .bl (n == "TooMany")]) := fAddL_ok (show 16 + 4 < 2 ^ 20 by decide)
  have a5 : fAddL (.lst [MP.D.bl (n == "BadField"), .bl (n == "BadThing"), .bl (n == "ZeroThing"), .bl (n == "BadColumns"), .bl (n == "BadWord"), .bl (n == "BadTable"), .bl (n == "BadRow"), .bl (n == "Unlike"), .bl (n == "BadText"), .bl (n == "BadPoly"), .bl (n == "NoDivisor"), .bl (n == "BadPoints"), .bl (n == "NotApart"), .bl (n == "NotInvertible"), .bl (n == "BadLot"), .bl (n == "BadDistance"), .bl (n == "NotMet"), .bl (n == "BadHead"), .bl (n == "BadClosed"), .bl (n == "TooMany")]) (.lst [MP.D.bl (n == "BadTerms"), .bl (n == "NotMember"), .bl (n == "BadSizes"), .bl (n == "BadCounts")]) = some (.lst [MP.D.bl (n == "BadField"), .bl (n == "BadThing"), .bl (n == "ZeroThing"), .bl (n == "BadColumns"), .bl (n == "BadWord"), .bl (n == "BadTable"), .bl (n == "BadRow"), .bl (n == "Unlike"), .bl (n == "BadText"), .bl (n == "BadPoly"), .bl (n == "NoDivisor"), .bl (n == "BadPoints"), .bl (n == "NotApart"), .bl (n == "NotInvertible"), .bl (n == "BadLot"), .bl (n == "BadDistance"), .bl (n == "NotMet"), .bl (n == "BadHead"), .bl (n == "BadClosed"), .bl (n == "TooMany"), .bl (n == "BadTerms"), .bl (n == "NotMember"), .bl (n == "BadSizes"), .bl (n == "BadCounts")]) := fAddL_ok (show 20 + 4 < 2 ^ 20 by decide)
  have a6 : fAddL (.lst [MP.D.bl (n == "BadField"), .bl (n == "BadThing"), .bl (n == "ZeroThing"), .bl (n == "BadColumns"), .bl (n == "BadWord"), .bl (n == "BadTable"), .bl (n == "BadRow"), .bl (n == "Unlike"), .bl (n == "BadText"), .bl (n == "BadPoly"), .bl (n == "NoDivisor"), .bl (n == "BadPoints"), .bl (n == "NotApart"), .bl (n == "NotInvertible"), .bl (n == "BadLot"), .bl (n == "BadDistance"), .bl (n == "NotMet"), .bl (n == "BadHead"), .bl (n == "BadClosed"), .bl (n == "TooMany"), .bl (n == "BadTerms"), .bl (n == "NotMember"), .bl (n == "BadSizes"), .bl (n == "BadCounts")]) (.lst [MP.D.bl (n == "NoLot"), .bl (n == "BadErrors"), .bl (n == "BadLoss"), .bl (n == "NoClash")]) = some (.lst [MP.D.bl (n == "BadField"), .bl (n == "BadThing"), .bl (n == "ZeroThing"), .bl (n == "BadColumns"), .bl (n == "BadWord"), .bl (n == "BadTable"), .bl (n == "BadRow"), .bl (n == "Unlike"), .bl (n == "BadText"), .bl (n == "BadPoly"), .bl (n == "NoDivisor"), .bl (n == "BadPoints"), .bl (n == "NotApart"), .bl (n == "NotInvertible"), .bl (n == "BadLot"), .bl (n == "BadDistance"), .bl (n == "NotMet"), .bl (n == "BadHead"), .bl (n == "BadClosed"), .bl (n == "TooMany"), .bl (n == "BadTerms"), .bl (n == "NotMember"), .bl (n == "BadSizes"), .bl (n == "BadCounts"), .bl (n == "NoLot"), .bl (n == "BadErrors"), .bl (n == "BadLoss"), .bl (n == "NoClash")]) := fAddL_ok (show 24 + 4 < 2 ^ 20 by decide)
  have a7 : fAddL (.lst [MP.D.bl (n == "BadField"), .bl (n == "BadThing"), .bl (n == "ZeroThing"), .bl (n == "BadColumns"), .bl (n == "BadWord"), .bl (n == "BadTable"), .bl (n == "BadRow"), .bl (n == "Unlike"), .bl (n == "BadText"), .bl (n == "BadPoly"), .bl (n == "NoDivisor"), .bl (n == "BadPoints"), .bl (n == "NotApart"), .bl (n == "NotInvertible"), .bl (n == "BadLot"), .bl (n == "BadDistance"), .bl (n == "NotMet"), .bl (n == "BadHead"), .bl (n == "BadClosed"), .bl (n == "TooMany"), .bl (n == "BadTerms"), .bl (n == "NotMember"), .bl (n == "BadSizes"), .bl (n == "BadCounts"), .bl (n == "NoLot"), .bl (n == "BadErrors"), .bl (n == "BadLoss"), .bl (n == "NoClash")]) (.lst [MP.D.bl (n == "BadCells"), .bl (n == "BadLane"), .bl (n == "TooSpoilt"), .bl (n == "BadComing")]) = some (.lst [MP.D.bl (n == "BadField"), .bl (n == "BadThing"), .bl (n == "ZeroThing"), .bl (n == "BadColumns"), .bl (n == "BadWord"), .bl (n == "BadTable"), .bl (n == "BadRow"), .bl (n == "Unlike"), .bl (n == "BadText"), .bl (n == "BadPoly"), .bl (n == "NoDivisor"), .bl (n == "BadPoints"), .bl (n == "NotApart"), .bl (n == "NotInvertible"), .bl (n == "BadLot"), .bl (n == "BadDistance"), .bl (n == "NotMet"), .bl (n == "BadHead"), .bl (n == "BadClosed"), .bl (n == "TooMany"), .bl (n == "BadTerms"), .bl (n == "NotMember"), .bl (n == "BadSizes"), .bl (n == "BadCounts"), .bl (n == "NoLot"), .bl (n == "BadErrors"), .bl (n == "BadLoss"), .bl (n == "NoClash"), .bl (n == "BadCells"), .bl (n == "BadLane"), .bl (n == "TooSpoilt"), .bl (n == "BadComing")]) := fAddL_ok (show 28 + 4 < 2 ^ 20 by decide)
  have a8 : fAddL (.lst [MP.D.bl (n == "BadField"), .bl (n == "BadThing"), .bl (n == "ZeroThing"), .bl (n == "BadColumns"), .bl (n == "BadWord"), .bl (n == "BadTable"), .bl (n == "BadRow"), .bl (n == "Unlike"), .bl (n == "BadText"), .bl (n == "BadPoly"), .bl (n == "NoDivisor"), .bl (n == "BadPoints"), .bl (n == "NotApart"), .bl (n == "NotInvertible"), .bl (n == "BadLot"), .bl (n == "BadDistance"), .bl (n == "NotMet"), .bl (n == "BadHead"), .bl (n == "BadClosed"), .bl (n == "TooMany"), .bl (n == "BadTerms"), .bl (n == "NotMember"), .bl (n == "BadSizes"), .bl (n == "BadCounts"), .bl (n == "NoLot"), .bl (n == "BadErrors"), .bl (n == "BadLoss"), .bl (n == "NoClash"), .bl (n == "BadCells"), .bl (n == "BadLane"), .bl (n == "TooSpoilt"), .bl (n == "BadComing")]) (.lst [MP.D.bl (n == "BadDeed"), .bl (n == "BadRows"), .bl (n == "NotBehind"), .bl (n == "NoColumn")]) = some (.lst [MP.D.bl (n == "BadField"), .bl (n == "BadThing"), .bl (n == "ZeroThing"), .bl (n == "BadColumns"), .bl (n == "BadWord"), .bl (n == "BadTable"), .bl (n == "BadRow"), .bl (n == "Unlike"), .bl (n == "BadText"), .bl (n == "BadPoly"), .bl (n == "NoDivisor"), .bl (n == "BadPoints"), .bl (n == "NotApart"), .bl (n == "NotInvertible"), .bl (n == "BadLot"), .bl (n == "BadDistance"), .bl (n == "NotMet"), .bl (n == "BadHead"), .bl (n == "BadClosed"), .bl (n == "TooMany"), .bl (n == "BadTerms"), .bl (n == "NotMember"), .bl (n == "BadSizes"), .bl (n == "BadCounts"), .bl (n == "NoLot"), .bl (n == "BadErrors"), .bl (n == "BadLoss"), .bl (n == "NoClash"), .bl (n == "BadCells"), .bl (n == "BadLane"), .bl (n == "TooSpoilt"), .bl (n == "BadComing"), .bl (n == "BadDeed"), .bl (n == "BadRows"), .bl (n == "NotBehind"), .bl (n == "NoColumn")]) := fAddL_ok (show 32 + 4 < 2 ^ 20 by decide)
  have a9 : fAddL (.lst [MP.D.bl (n == "BadField"), .bl (n == "BadThing"), .bl (n == "ZeroThing"), .bl (n == "BadColumns"), .bl (n == "BadWord"), .bl (n == "BadTable"), .bl (n == "BadRow"), .bl (n == "Unlike"), .bl (n == "BadText"), .bl (n == "BadPoly"), .bl (n == "NoDivisor"), .bl (n == "BadPoints"), .bl (n == "NotApart"), .bl (n == "NotInvertible"), .bl (n == "BadLot"), .bl (n == "BadDistance"), .bl (n == "NotMet"), .bl (n == "BadHead"), .bl (n == "BadClosed"), .bl (n == "TooMany"), .bl (n == "BadTerms"), .bl (n == "NotMember"), .bl (n == "BadSizes"), .bl (n == "BadCounts"), .bl (n == "NoLot"), .bl (n == "BadErrors"), .bl (n == "BadLoss"), .bl (n == "NoClash"), .bl (n == "BadCells"), .bl (n == "BadLane"), .bl (n == "TooSpoilt"), .bl (n == "BadComing"), .bl (n == "BadDeed"), .bl (n == "BadRows"), .bl (n == "NotBehind"), .bl (n == "NoColumn")]) (.lst [MP.D.bl (n == "NotClosedByThings"), .bl (n == "BadNumber"), .bl (n == "BadEdit"), .bl (n == "BadGoal")]) = some (.lst [MP.D.bl (n == "BadField"), .bl (n == "BadThing"), .bl (n == "ZeroThing"), .bl (n == "BadColumns"), .bl (n == "BadWord"), .bl (n == "BadTable"), .bl (n == "BadRow"), .bl (n == "Unlike"), .bl (n == "BadText"), .bl (n == "BadPoly"), .bl (n == "NoDivisor"), .bl (n == "BadPoints"), .bl (n == "NotApart"), .bl (n == "NotInvertible"), .bl (n == "BadLot"), .bl (n == "BadDistance"), .bl (n == "NotMet"), .bl (n == "BadHead"), .bl (n == "BadClosed"), .bl (n == "TooMany"), .bl (n == "BadTerms"), .bl (n == "NotMember"), .bl (n == "BadSizes"), .bl (n == "BadCounts"), .bl (n == "NoLot"), .bl (n == "BadErrors"), .bl (n == "BadLoss"), .bl (n == "NoClash"), .bl (n == "BadCells"), .bl (n == "BadLane"), .bl (n == "TooSpoilt"), .bl (n == "BadComing"), .bl (n == "BadDeed"), .bl (n == "BadRows"), .bl (n == "NotBehind"), .bl (n == "NoColumn"), .bl (n == "NotClosedByThings"), .bl (n == "BadNumber"), .bl (n == "BadEdit"), .bl (n == "BadGoal")]) := fAddL_ok (show 36 + 4 < 2 ^ 20 by decide)
  have a10 : fAddL (.lst [MP.D.bl (n == "BadField"), .bl (n == "BadThing"), .bl (n == "ZeroThing"), .bl (n == "BadColumns"), .bl (n == "BadWord"), .bl (n == "BadTable"), .bl (n == "BadRow"), .bl (n == "Unlike"), .bl (n == "BadText"), .bl (n == "BadPoly"), .bl (n == "NoDivisor"), .bl (n == "BadPoints"), .bl (n == "NotApart"), .bl (n == "NotInvertible"), .bl (n == "BadLot"), .bl (n == "BadDistance"), .bl (n == "NotMet"), .bl (n == "BadHead"), .bl (n == "BadClosed"), .bl (n == "TooMany"), .bl (n == "BadTerms"), .bl (n == "NotMember"), .bl (n == "BadSizes"), .bl (n == "BadCounts"), .bl (n == "NoLot"), .bl (n == "BadErrors"), .bl (n == "BadLoss"), .bl (n == "NoClash"), .bl (n == "BadCells"), .bl (n == "BadLane"), .bl (n == "TooSpoilt"), .bl (n == "BadComing"), .bl (n == "BadDeed"), .bl (n == "BadRows"), .bl (n == "NotBehind"), .bl (n == "NoColumn"), .bl (n == "NotClosedByThings"), .bl (n == "BadNumber"), .bl (n == "BadEdit"), .bl (n == "BadGoal")]) (.lst [MP.D.bl (n == "Held"), .bl (n == "NothingDone")]) = some (.lst [MP.D.bl (n == "BadField"), .bl (n == "BadThing"), .bl (n == "ZeroThing"), .bl (n == "BadColumns"), .bl (n == "BadWord"), .bl (n == "BadTable"), .bl (n == "BadRow"), .bl (n == "Unlike"), .bl (n == "BadText"), .bl (n == "BadPoly"), .bl (n == "NoDivisor"), .bl (n == "BadPoints"), .bl (n == "NotApart"), .bl (n == "NotInvertible"), .bl (n == "BadLot"), .bl (n == "BadDistance"), .bl (n == "NotMet"), .bl (n == "BadHead"), .bl (n == "BadClosed"), .bl (n == "TooMany"), .bl (n == "BadTerms"), .bl (n == "NotMember"), .bl (n == "BadSizes"), .bl (n == "BadCounts"), .bl (n == "NoLot"), .bl (n == "BadErrors"), .bl (n == "BadLoss"), .bl (n == "NoClash"), .bl (n == "BadCells"), .bl (n == "BadLane"), .bl (n == "TooSpoilt"), .bl (n == "BadComing"), .bl (n == "BadDeed"), .bl (n == "BadRows"), .bl (n == "NotBehind"), .bl (n == "NoColumn"), .bl (n == "NotClosedByThings"), .bl (n == "BadNumber"), .bl (n == "BadEdit"), .bl (n == "BadGoal"), .bl (n == "Held"), .bl (n == "NothingDone")]) := fAddL_ok (show 40 + 2 < 2 ^ 20 by decide)
  have l0 : fLst [] = some (.lst []) := rfl
  refine rF_eq ?_
  unfold m__law_kinds
  open_k with (And.intro l0 (And.intro (@fLst_4) (And.intro (@fLst_2) (And.intro k0 (And.intro k1 (And.intro k2 (And.intro k3 (And.intro k4 (And.intro k5 (And.intro k6 (And.intro k7 (And.intro k8 (And.intro k9 (And.intro k10 (And.intro k11 (And.intro k12 (And.intro k13 (And.intro k14 (And.intro k15 (And.intro k16 (And.intro k17 (And.intro k18 (And.intro k19 (And.intro k20 (And.intro k21 (And.intro k22 (And.intro k23 (And.intro k24 (And.intro k25 (And.intro k26 (And.intro k27 (And.intro k28 (And.intro k29 (And.intro k30 (And.intro k31 (And.intro k32 (And.intro k33 (And.intro k34 (And.intro k35 (And.intro k36 (And.intro k37 (And.intro k38 (And.intro k39 (And.intro k40 (And.intro k41 (And.intro a0 (And.intro a1 (And.intro a2 (And.intro a3 (And.intro a4 (And.intro a5 (And.intro a6 (And.intro a7 (And.intro a8 (And.intro a9 a10)))))))))))))))))))))))))))))))))))))))))))))))))))))))
  rfl
end HK75

set_option maxRecDepth 100000
set_option maxHeartbeats 4000000
namespace HK75
open PySem L2 MP
local macro_rules | `(tactic| open_k with $t:term) => `(tactic| try simp only [↓rE_var, ↓rE_c, ↓rE_op, ↓rE_un, ↓rE_only, ↓rE_not, ↓rE_tru, ↓rE_and, ↓rE_or, ↓rE_if, ↓rE_chain, ↓rA_nil, ↓rA_cons, ↓rE_args, ↓rE_call, ↓rE_pf, ↓rE_part, ↓rE_slF, ↓rA_items, ↓rA_via, ↓rA_rev, ↓rE_hix, ↓rE_xf, ↓rE_pure, ↓rS_seq, ↓rS_set, ↓rS_asg2, ↓rS_unp, ↓rS_ret, ↓rS_drop, ↓rS_retN, ↓rS_pass, ↓rS_brk, ↓rS_cnt, ↓rS_raise0, ↓rS_if, ↓rS_app, ↓rS_setIx, ↓rS_aug, ↓rS_par, ↓rS_raise1, ↓rS_try, ↓rS_hset, ↓rF_fn, ↓cS_, ↓cSb_, ↓cSs_, ↓cSA_, ↓cSAr_, ↓cSN_, ↓cOp2_, ↓cOp2_x, ↓cOp_, ↓cOp_x, ↓cUn_, ↓cUn_x, ↓cOnly_, ↓cOnly_x, ↓cNot_, ↓cNot_x, ↓cTru_, ↓cTru_x, ↓cIfE_, ↓cIfE_x, ↓cCh3_, ↓cCh2_, ↓cCh2_x, ↓cCh_, ↓cCh_x, ↓cCons2_, ↓cCons2_x, ↓cCons_, ↓cCons_x, ↓cArgs_, ↓cArgs_x, ↓cCall_, ↓cCall_x, ↓cPart_, ↓cPart_x, ↓cSl5_, ↓cSl4_, ↓cSl3_, ↓cSl3_x, ↓cSl2_, ↓cSl2_x, ↓cSl_, ↓cSl_x, ↓cItems_, ↓cItems_x, ↓cVia_, ↓cVia_x, ↓cRev_, ↓cRev_x, ↓cPure_, ↓cPure_x, ↓cSeq_, ↓cSeq_r, ↓cSeq_b, ↓cSeq_c, ↓cSeq_x, ↓cSet_, ↓cSet_x, ↓cAsg2_, ↓cAsg2_x, ↓cUnp_, ↓cUnp_x, ↓cRet_, ↓cRet_x, ↓cDrop_, ↓cDrop_x, ↓cIfS_, ↓cIfS_x, ↓cApp2_, ↓cApp2_x, ↓cApp_, ↓cSetIx3_, ↓cSetIx2_, ↓cSetIx2_x, ↓cSetIx1_, ↓cSetIx1_x, ↓cSetIx_, ↓cAug2_, ↓cAug_, ↓cPar_, ↓cPar_x, ↓cRaise1_, ↓cRaise1_x, ↓cHset2_, ↓cHset_, ↓cHset_x, ↓kF_nx, ↓kF_ret, ↓kF_x, ↓kT_nx, ↓kT_ret, ↓kT_brk, ↓kT_cnt, ↓kT_x, ↓kFor_nx, ↓kFor_cnt, ↓kForR_nx, ↓kForR_cnt, ↓kForR_brk, ↓kForR_ret, ↓kForR_x, ↓kIt_, ↓kIt_x, ↓kItE_, ↓kItE_x, ↓rE_meth, ↓rE_make, ↓cMeth3_, ↓cMeth3_x, ↓cMeth2_, ↓cMeth_, ↓cMeth_x, ↓cObj_, ↓cObj_x, ↓cMake_, ↓cMake_x, ↓rP_some, ↓cIf_tt, ↓cIf_ff, ↓so_some, ↓so_none, ↓cTurn_t, ↓cTurn_f, ↓cTurn_x, ↓kW_nx, ↓kW_cnt, ↓kW_brk, ↓kW_ret, ↓kW_x, ↓kU_nx, ↓kU_ret, ↓kU_brk, ↓kU_cnt, ↓tryGo_nil,
  List.length_cons, List.length_nil, List.map_cons, List.map_nil, List.cons_append, List.nil_append, List.append_nil, List.replicate_succ, List.replicate_zero, List.getElem?_cons_zero, List.getElem?_cons_succ, List.set_cons_zero, List.set_cons_succ, Nat.reduceAdd, Nat.reduceSub, Nat.zero_add, Nat.sub_self, true_and, and_true, if_true, if_false, Bool.false_eq_true, eq_self, reduceIte, fAdd, fMul, fI0, fB0, fI, gVar, gTupD, gsCons, gsNil, wipeD, dI_snoc, isN_non, isN_str, notN_non, notN_str, notN_int, isN_int, truth_bl, truth_int, truth_lst, truth_tup, fTup_0, fTup_1, fTup_2, fTup_3, fTup_4, fLst_0, fLst_1, fLst_2, fLst_3, fLst_4, isPart_int, partOf_int, partOf_non, isi_int_int, isi_int_bl, isi_int_non, isi_int_str, isi_int_lst, isi_int_tup, isi_bool_int, isi_bool_bl, isi_tuple_tup, isi_tuple_lst, isi2_lst, isi2_tup, isi2_int, isi2_bl, isi2_non, isi2_str, fEq_int, fNe_int, fEq_str, fLen_lst, fLen_tup, fInt_int, fTuple_lst, fTuple_tup, fList_lst, fList_tup, itemsI_lst, itemsI_tup, fIx_l0, fIx_t0, fIx_l1, fIx_t1, fIx_l2, fIx_l3,
  Bool.not_true, Bool.not_false, wipe1_none, wipe1_some, tryGo_yes, tryGo_no, lookup_one, str_self, decide_true, decide_false, noL, noLf, isLst, hfO, hf, List.all_cons, List.all_nil, Bool.and_self, Bool.and_true, Bool.true_and, $t:term])
/-- the classes in their order, each with its attributes -/
def cl0 : List (PySem.Str × List PySem.Str) := [("BadField", ["what"]), ("BadThing", ["index"]), ("ZeroThing", []), ("BadColumns", []), ("BadWord", ["index"]), ("BadTable", []), ("BadRow", ["index"]), ("Unlike", []), ("BadText", ["line"]), ("BadPoly", ["index"]), ("NoDivisor", []), ("BadPoints", ["index"]), ("NotApart", ["index"]), ("NotInvertible", []), ("BadLot", ["what"]), ("BadDistance", []), ("NotMet", []), ("BadHead", []), ("BadClosed", ["what"]), ("TooMany", ["size"]), ("BadTerms", [])]
def cl1 : List (PySem.Str × List PySem.Str) := [("NotMember", []), ("BadSizes", ["what"]), ("BadCounts", ["what"]), ("NoLot", ["rank"]), ("BadErrors", []), ("BadLoss", ["what"]), ("NoClash", []), ("BadCells", ["index"]), ("BadLane", ["what"]), ("TooSpoilt", ["lanes"]), ("BadComing", []), ("BadDeed", ["index", "what"]), ("BadRows", ["index"]), ("NotBehind", []), ("NoColumn", []), ("NotClosedByThings", []), ("BadNumber", []), ("BadEdit", ["index", "what"]), ("BadGoal", ["index"]), ("Held", ["index"]), ("NothingDone", [])]
def cl : List (PySem.Str × List PySem.Str) := cl0 ++ cl1
def fsOf (fl : List PySem.Str) (a b : MP.D) : List (PySem.Str × MP.D) := match fl with
  | [] => []
  | [f] => [(f, a)]
  | f :: f2 :: _ => [(f2, b), (f, a)]
def atOf (fl : List PySem.Str) (a b : MP.D) : List MP.D := match fl with
  | [] => []
  | [_] => [a]
  | _ :: _ :: _ => [a, b]
def rowD (a b : MP.D) (x : PySem.Str × List PySem.Str) : MP.D := .tup [.exv x.1 (fsOf x.2 a b), .lst (atOf x.2 a b)]
theorem first_ok (a b : MP.D) (g : G) : m__law_first [a, b] g = some (.ok (.lst (cl0.map (rowD a b))), g) := by kernel_rfl
theorem second_ok (a b : MP.D) (g : G) : m__law_second [a, b] g = some (.ok (.lst (cl1.map (rowD a b))), g) := by kernel_rfl
theorem cl_exn : cl.map (·.1) = exn := by decide +kernel
theorem cl_len : cl.length = 42 := by decide +kernel
theorem exn_len : exn.length = 42 := by decide +kernel
theorem exn_nd : exn.Nodup := by decide +kernel
theorem at_0 (a b : MP.D) (g : G) : m__law_attributes [.int (0 : Nat), .exv (cl.getD 0 ("", [])).1 (fsOf (cl.getD 0 ("", [])).2 a b)] g = some (.ok (.lst (atOf (cl.getD 0 ("", [])).2 a b)), g) := by kernel_rfl
theorem at_1 (a b : MP.D) (g : G) : m__law_attributes [.int (1 : Nat), .exv (cl.getD 1 ("", [])).1 (fsOf (cl.getD 1 ("", [])).2 a b)] g = some (.ok (.lst (atOf (cl.getD 1 ("", [])).2 a b)), g) := by kernel_rfl
theorem at_2 (a b : MP.D) (g : G) : m__law_attributes [.int (2 : Nat), .exv (cl.getD 2 ("", [])).1 (fsOf (cl.getD 2 ("", [])).2 a b)] g = some (.ok (.lst (atOf (cl.getD 2 ("", [])).2 a b)), g) := by kernel_rfl
theorem at_3 (a b : MP.D) (g : G) : m__law_attributes [.int (3 : Nat), .exv (cl.getD 3 ("", [])).1 (fsOf (cl.getD 3 ("", [])).2 a b)] g = some (.ok (.lst (atOf (cl.getD 3 ("", [])).2 a b)), g) := by kernel_rfl
theorem at_4 (a b : MP.D) (g : G) : m__law_attributes [.int (4 : Nat), .exv (cl.getD 4 ("", [])).1 (fsOf (cl.getD 4 ("", [])).2 a b)] g = some (.ok (.lst (atOf (cl.getD 4 ("", [])).2 a b)), g) := by kernel_rfl
theorem at_5 (a b : MP.D) (g : G) : m__law_attributes [.int (5 : Nat), .exv (cl.getD 5 ("", [])).1 (fsOf (cl.getD 5 ("", [])).2 a b)] g = some (.ok (.lst (atOf (cl.getD 5 ("", [])).2 a b)), g) := by kernel_rfl
theorem at_6 (a b : MP.D) (g : G) : m__law_attributes [.int (6 : Nat), .exv (cl.getD 6 ("", [])).1 (fsOf (cl.getD 6 ("", [])).2 a b)] g = some (.ok (.lst (atOf (cl.getD 6 ("", [])).2 a b)), g) := by kernel_rfl
theorem at_7 (a b : MP.D) (g : G) : m__law_attributes [.int (7 : Nat), .exv (cl.getD 7 ("", [])).1 (fsOf (cl.getD 7 ("", [])).2 a b)] g = some (.ok (.lst (atOf (cl.getD 7 ("", [])).2 a b)), g) := by kernel_rfl
theorem at_8 (a b : MP.D) (g : G) : m__law_attributes [.int (8 : Nat), .exv (cl.getD 8 ("", [])).1 (fsOf (cl.getD 8 ("", [])).2 a b)] g = some (.ok (.lst (atOf (cl.getD 8 ("", [])).2 a b)), g) := by kernel_rfl
theorem at_9 (a b : MP.D) (g : G) : m__law_attributes [.int (9 : Nat), .exv (cl.getD 9 ("", [])).1 (fsOf (cl.getD 9 ("", [])).2 a b)] g = some (.ok (.lst (atOf (cl.getD 9 ("", [])).2 a b)), g) := by kernel_rfl
theorem at_10 (a b : MP.D) (g : G) : m__law_attributes [.int (10 : Nat), .exv (cl.getD 10 ("", [])).1 (fsOf (cl.getD 10 ("", [])).2 a b)] g = some (.ok (.lst (atOf (cl.getD 10 ("", [])).2 a b)), g) := by kernel_rfl
theorem at_11 (a b : MP.D) (g : G) : m__law_attributes [.int (11 : Nat), .exv (cl.getD 11 ("", [])).1 (fsOf (cl.getD 11 ("", [])).2 a b)] g = some (.ok (.lst (atOf (cl.getD 11 ("", [])).2 a b)), g) := by kernel_rfl
theorem at_12 (a b : MP.D) (g : G) : m__law_attributes [.int (12 : Nat), .exv (cl.getD 12 ("", [])).1 (fsOf (cl.getD 12 ("", [])).2 a b)] g = some (.ok (.lst (atOf (cl.getD 12 ("", [])).2 a b)), g) := by kernel_rfl
theorem at_13 (a b : MP.D) (g : G) : m__law_attributes [.int (13 : Nat), .exv (cl.getD 13 ("", [])).1 (fsOf (cl.getD 13 ("", [])).2 a b)] g = some (.ok (.lst (atOf (cl.getD 13 ("", [])).2 a b)), g) := by kernel_rfl
theorem at_14 (a b : MP.D) (g : G) : m__law_attributes [.int (14 : Nat), .exv (cl.getD 14 ("", [])).1 (fsOf (cl.getD 14 ("", [])).2 a b)] g = some (.ok (.lst (atOf (cl.getD 14 ("", [])).2 a b)), g) := by kernel_rfl
theorem at_15 (a b : MP.D) (g : G) : m__law_attributes [.int (15 : Nat), .exv (cl.getD 15 ("", [])).1 (fsOf (cl.getD 15 ("", [])).2 a b)] g = some (.ok (.lst (atOf (cl.getD 15 ("", [])).2 a b)), g) := by kernel_rfl
theorem at_16 (a b : MP.D) (g : G) : m__law_attributes [.int (16 : Nat), .exv (cl.getD 16 ("", [])).1 (fsOf (cl.getD 16 ("", [])).2 a b)] g = some (.ok (.lst (atOf (cl.getD 16 ("", [])).2 a b)), g) := by kernel_rfl
theorem at_17 (a b : MP.D) (g : G) : m__law_attributes [.int (17 : Nat), .exv (cl.getD 17 ("", [])).1 (fsOf (cl.getD 17 ("", [])).2 a b)] g = some (.ok (.lst (atOf (cl.getD 17 ("", [])).2 a b)), g) := by kernel_rfl
theorem at_18 (a b : MP.D) (g : G) : m__law_attributes [.int (18 : Nat), .exv (cl.getD 18 ("", [])).1 (fsOf (cl.getD 18 ("", [])).2 a b)] g = some (.ok (.lst (atOf (cl.getD 18 ("", [])).2 a b)), g) := by kernel_rfl
theorem at_19 (a b : MP.D) (g : G) : m__law_attributes [.int (19 : Nat), .exv (cl.getD 19 ("", [])).1 (fsOf (cl.getD 19 ("", [])).2 a b)] g = some (.ok (.lst (atOf (cl.getD 19 ("", [])).2 a b)), g) := by kernel_rfl
theorem at_20 (a b : MP.D) (g : G) : m__law_attributes [.int (20 : Nat), .exv (cl.getD 20 ("", [])).1 (fsOf (cl.getD 20 ("", [])).2 a b)] g = some (.ok (.lst (atOf (cl.getD 20 ("", [])).2 a b)), g) := by kernel_rfl
theorem at_21 (a b : MP.D) (g : G) : m__law_attributes [.int (21 : Nat), .exv (cl.getD 21 ("", [])).1 (fsOf (cl.getD 21 ("", [])).2 a b)] g = some (.ok (.lst (atOf (cl.getD 21 ("", [])).2 a b)), g) := by kernel_rfl
theorem at_22 (a b : MP.D) (g : G) : m__law_attributes [.int (22 : Nat), .exv (cl.getD 22 ("", [])).1 (fsOf (cl.getD 22 ("", [])).2 a b)] g = some (.ok (.lst (atOf (cl.getD 22 ("", [])).2 a b)), g) := by kernel_rfl
theorem at_23 (a b : MP.D) (g : G) : m__law_attributes [.int (23 : Nat), .exv (cl.getD 23 ("", [])).1 (fsOf (cl.getD 23 ("", [])).2 a b)] g = some (.ok (.lst (atOf (cl.getD 23 ("", [])).2 a b)), g) := by kernel_rfl
theorem at_24 (a b : MP.D) (g : G) : m__law_attributes [.int (24 : Nat), .exv (cl.getD 24 ("", [])).1 (fsOf (cl.getD 24 ("", [])).2 a b)] g = some (.ok (.lst (atOf (cl.getD 24 ("", [])).2 a b)), g) := by kernel_rfl
theorem at_25 (a b : MP.D) (g : G) : m__law_attributes [.int (25 : Nat), .exv (cl.getD 25 ("", [])).1 (fsOf (cl.getD 25 ("", [])).2 a b)] g = some (.ok (.lst (atOf (cl.getD 25 ("", [])).2 a b)), g) := by kernel_rfl
theorem at_26 (a b : MP.D) (g : G) : m__law_attributes [.int (26 : Nat), .exv (cl.getD 26 ("", [])).1 (fsOf (cl.getD 26 ("", [])).2 a b)] g = some (.ok (.lst (atOf (cl.getD 26 ("", [])).2 a b)), g) := by kernel_rfl
theorem at_27 (a b : MP.D) (g : G) : m__law_attributes [.int (27 : Nat), .exv (cl.getD 27 ("", [])).1 (fsOf (cl.getD 27 ("", [])).2 a b)] g = some (.ok (.lst (atOf (cl.getD 27 ("", [])).2 a b)), g) := by kernel_rfl
theorem at_28 (a b : MP.D) (g : G) : m__law_attributes [.int (28 : Nat), .exv (cl.getD 28 ("", [])).1 (fsOf (cl.getD 28 ("", [])).2 a b)] g = some (.ok (.lst (atOf (cl.getD 28 ("", [])).2 a b)), g) := by kernel_rfl
theorem at_29 (a b : MP.D) (g : G) : m__law_attributes [.int (29 : Nat), .exv (cl.getD 29 ("", [])).1 (fsOf (cl.getD 29 ("", [])).2 a b)] g = some (.ok (.lst (atOf (cl.getD 29 ("", [])).2 a b)), g) := by kernel_rfl
theorem at_30 (a b : MP.D) (g : G) : m__law_attributes [.int (30 : Nat), .exv (cl.getD 30 ("", [])).1 (fsOf (cl.getD 30 ("", [])).2 a b)] g = some (.ok (.lst (atOf (cl.getD 30 ("", [])).2 a b)), g) := by kernel_rfl
theorem at_31 (a b : MP.D) (g : G) : m__law_attributes [.int (31 : Nat), .exv (cl.getD 31 ("", [])).1 (fsOf (cl.getD 31 ("", [])).2 a b)] g = some (.ok (.lst (atOf (cl.getD 31 ("", [])).2 a b)), g) := by kernel_rfl
theorem at_32 (a b : MP.D) (g : G) : m__law_attributes [.int (32 : Nat), .exv (cl.getD 32 ("", [])).1 (fsOf (cl.getD 32 ("", [])).2 a b)] g = some (.ok (.lst (atOf (cl.getD 32 ("", [])).2 a b)), g) := by kernel_rfl
theorem at_33 (a b : MP.D) (g : G) : m__law_attributes [.int (33 : Nat), .exv (cl.getD 33 ("", [])).1 (fsOf (cl.getD 33 ("", [])).2 a b)] g = some (.ok (.lst (atOf (cl.getD 33 ("", [])).2 a b)), g) := by kernel_rfl
theorem at_34 (a b : MP.D) (g : G) : m__law_attributes [.int (34 : Nat), .exv (cl.getD 34 ("", [])).1 (fsOf (cl.getD 34 ("", [])).2 a b)] g = some (.ok (.lst (atOf (cl.getD 34 ("", [])).2 a b)), g) := by kernel_rfl
theorem at_35 (a b : MP.D) (g : G) : m__law_attributes [.int (35 : Nat), .exv (cl.getD 35 ("", [])).1 (fsOf (cl.getD 35 ("", [])).2 a b)] g = some (.ok (.lst (atOf (cl.getD 35 ("", [])).2 a b)), g) := by kernel_rfl
theorem at_36 (a b : MP.D) (g : G) : m__law_attributes [.int (36 : Nat), .exv (cl.getD 36 ("", [])).1 (fsOf (cl.getD 36 ("", [])).2 a b)] g = some (.ok (.lst (atOf (cl.getD 36 ("", [])).2 a b)), g) := by kernel_rfl
theorem at_37 (a b : MP.D) (g : G) : m__law_attributes [.int (37 : Nat), .exv (cl.getD 37 ("", [])).1 (fsOf (cl.getD 37 ("", [])).2 a b)] g = some (.ok (.lst (atOf (cl.getD 37 ("", [])).2 a b)), g) := by kernel_rfl
theorem at_38 (a b : MP.D) (g : G) : m__law_attributes [.int (38 : Nat), .exv (cl.getD 38 ("", [])).1 (fsOf (cl.getD 38 ("", [])).2 a b)] g = some (.ok (.lst (atOf (cl.getD 38 ("", [])).2 a b)), g) := by kernel_rfl
theorem at_39 (a b : MP.D) (g : G) : m__law_attributes [.int (39 : Nat), .exv (cl.getD 39 ("", [])).1 (fsOf (cl.getD 39 ("", [])).2 a b)] g = some (.ok (.lst (atOf (cl.getD 39 ("", [])).2 a b)), g) := by kernel_rfl
theorem at_40 (a b : MP.D) (g : G) : m__law_attributes [.int (40 : Nat), .exv (cl.getD 40 ("", [])).1 (fsOf (cl.getD 40 ("", [])).2 a b)] g = some (.ok (.lst (atOf (cl.getD 40 ("", [])).2 a b)), g) := by kernel_rfl
theorem at_41 (a b : MP.D) (g : G) : m__law_attributes [.int (41 : Nat), .exv (cl.getD 41 ("", [])).1 (fsOf (cl.getD 41 ("", [])).2 a b)] g = some (.ok (.lst (atOf (cl.getD 41 ("", [])).2 a b)), g) := by kernel_rfl
theorem at_all {i : Nat} (h : i < 42) (a b : MP.D) (g : G) : m__law_attributes [.int (i : Nat), .exv (cl.getD i ("", [])).1 (fsOf (cl.getD i ("", [])).2 a b)] g = some (.ok (.lst (atOf (cl.getD i ("", [])).2 a b)), g) := by
  match i, h with
  | 0, _ => exact at_0 a b g
  | 1, _ => exact at_1 a b g
  | 2, _ => exact at_2 a b g
  | 3, _ => exact at_3 a b g
  | 4, _ => exact at_4 a b g
  | 5, _ => exact at_5 a b g
  | 6, _ => exact at_6 a b g
  | 7, _ => exact at_7 a b g
  | 8, _ => exact at_8 a b g
  | 9, _ => exact at_9 a b g
  | 10, _ => exact at_10 a b g
  | 11, _ => exact at_11 a b g
  | 12, _ => exact at_12 a b g
  | 13, _ => exact at_13 a b g
  | 14, _ => exact at_14 a b g
  | 15, _ => exact at_15 a b g
  | 16, _ => exact at_16 a b g
  | 17, _ => exact at_17 a b g
  | 18, _ => exact at_18 a b g
  | 19, _ => exact at_19 a b g
  | 20, _ => exact at_20 a b g
  | 21, _ => exact at_21 a b g
  | 22, _ => exact at_22 a b g
  | 23, _ => exact at_23 a b g
  | 24, _ => exact at_24 a b g
  | 25, _ => exact at_25 a b g
  | 26, _ => exact at_26 a b g
  | 27, _ => exact at_27 a b g
  | 28, _ => exact at_28 a b g
  | 29, _ => exact at_29 a b g
  | 30, _ => exact at_30 a b g
  | 31, _ => exact at_31 a b g
  | 32, _ => exact at_32 a b g
  | 33, _ => exact at_33 a b g
  | 34, _ => exact at_34 a b g
  | 35, _ => exact at_35 a b g
  | 36, _ => exact at_36 a b g
  | 37, _ => exact at_37 a b g
  | 38, _ => exact at_38 a b g
  | 39, _ => exact at_39 a b g
  | 40, _ => exact at_40 a b g
  | 41, _ => exact at_41 a b g
  | i + 42, h => omega
end HK75

set_option maxRecDepth 100000
set_option maxHeartbeats 4000000
namespace HK75
open PySem L2 MP
local macro_rules | `(tactic| open_k with $t:term) => `(tactic| try simp only [↓rE_var, ↓rE_c, ↓rE_op, ↓rE_un, ↓rE_only, ↓rE_not, ↓rE_tru, ↓rE_and, ↓rE_or, ↓rE_if, ↓rE_chain, ↓rA_nil, ↓rA_cons, ↓rE_args, ↓rE_call, ↓rE_pf, ↓rE_part, ↓rE_slF, ↓rA_items, ↓rA_via, ↓rA_rev, ↓rE_hix, ↓rE_xf, ↓rE_pure, ↓rS_seq, ↓rS_set, ↓rS_asg2, ↓rS_unp, ↓rS_ret, ↓rS_drop, ↓rS_retN, ↓rS_pass, ↓rS_brk, ↓rS_cnt, ↓rS_raise0, ↓rS_if, ↓rS_app, ↓rS_setIx, ↓rS_aug, ↓rS_par, ↓rS_raise1, ↓rS_try, ↓rS_hset, ↓rF_fn, ↓cS_, ↓cSb_, ↓cSs_, ↓cSA_, ↓cSAr_, ↓cSN_, ↓cOp2_, ↓cOp2_x, ↓cOp_, ↓cOp_x, ↓cUn_, ↓cUn_x, ↓cOnly_, ↓cOnly_x, ↓cNot_, ↓cNot_x, ↓cTru_, ↓cTru_x, ↓cIfE_, ↓cIfE_x, ↓cCh3_, ↓cCh2_, ↓cCh2_x, ↓cCh_, ↓cCh_x, ↓cCons2_, ↓cCons2_x, ↓cCons_, ↓cCons_x, ↓cArgs_, ↓cArgs_x, ↓cCall_, ↓cCall_x, ↓cPart_, ↓cPart_x, ↓cSl5_, ↓cSl4_, ↓cSl3_, ↓cSl3_x, ↓cSl2_, ↓cSl2_x, ↓cSl_, ↓cSl_x, ↓cItems_, ↓cItems_x, ↓cVia_, ↓cVia_x, ↓cRev_, ↓cRev_x, ↓cPure_, ↓cPure_x, ↓cSeq_, ↓cSeq_r, ↓cSeq_b, ↓cSeq_c, ↓cSeq_x, ↓cSet_, ↓cSet_x, ↓cAsg2_, ↓cAsg2_x, ↓cUnp_, ↓cUnp_x, ↓cRet_, ↓cRet_x, ↓cDrop_, ↓cDrop_x, ↓cIfS_, ↓cIfS_x, ↓cApp2_, ↓cApp2_x, ↓cApp_, ↓cSetIx3_, ↓cSetIx2_, ↓cSetIx2_x, ↓cSetIx1_, ↓cSetIx1_x, ↓cSetIx_, ↓cAug2_, ↓cAug_, ↓cPar_, ↓cPar_x, ↓cRaise1_, ↓cRaise1_x, ↓cHset2_, ↓cHset_, ↓cHset_x, ↓kF_nx, ↓kF_ret, ↓kF_x, ↓kT_nx, ↓kT_ret, ↓kT_brk, ↓kT_cnt, ↓kT_x, ↓kFor_nx, ↓kFor_cnt, ↓kForR_nx, ↓kForR_cnt, ↓kForR_brk, ↓kForR_ret, ↓kForR_x, ↓kIt_, ↓kIt_x, ↓kItE_, ↓kItE_x, ↓rE_meth, ↓rE_make, ↓cMeth3_, ↓cMeth3_x, ↓cMeth2_, ↓cMeth_, ↓cMeth_x, ↓cObj_, ↓cObj_x, ↓cMake_, ↓cMake_x, ↓rP_some, ↓cIf_tt, ↓cIf_ff, ↓so_some, ↓so_none, ↓cTurn_t, ↓cTurn_f, ↓cTurn_x, ↓kW_nx, ↓kW_cnt, ↓kW_brk, ↓kW_ret, ↓kW_x, ↓kU_nx, ↓kU_ret, ↓kU_brk, ↓kU_cnt, ↓tryGo_nil,
  List.length_cons, List.length_nil, List.map_cons, List.map_nil, List.cons_append, List.nil_append, List.append_nil, List.replicate_succ, List.replicate_zero, List.getElem?_cons_zero, List.getElem?_cons_succ, List.set_cons_zero, List.set_cons_succ, Nat.reduceAdd, Nat.reduceSub, Nat.zero_add, Nat.sub_self, true_and, and_true, if_true, if_false, Bool.false_eq_true, eq_self, reduceIte, fAdd, fMul, fI0, fB0, fI, gVar, gTupD, gsCons, gsNil, wipeD, dI_snoc, isN_non, isN_str, notN_non, notN_str, notN_int, isN_int, truth_bl, truth_int, truth_lst, truth_tup, fTup_0, fTup_1, fTup_2, fTup_3, fTup_4, fLst_0, fLst_1, fLst_2, fLst_3, fLst_4, isPart_int, partOf_int, partOf_non, isi_int_int, isi_int_bl, isi_int_non, isi_int_str, isi_int_lst, isi_int_tup, isi_bool_int, isi_bool_bl, isi_tuple_tup, isi_tuple_lst, isi2_lst, isi2_tup, isi2_int, isi2_bl, isi2_non, isi2_str, fEq_int, fNe_int, fEq_str, fLen_lst, fLen_tup, fInt_int, fTuple_lst, fTuple_tup, fList_lst, fList_tup, itemsI_lst, itemsI_tup, fIx_l0, fIx_t0, fIx_l1, fIx_t1, fIx_l2, fIx_l3,
  Bool.not_true, Bool.not_false, wipe1_none, wipe1_some, tryGo_yes, tryGo_no, lookup_one, str_self, decide_true, decide_false, noL, noLf, isLst, hfO, hf, List.all_cons, List.all_nil, Bool.and_self, Bool.and_true, Bool.true_and, $t:term])
theorem str_app (a b : PySem.Str) : (a ++ b).length = a.length + b.length := by
  show (a.cps ++ b.cps).size = _
  exact Array.size_append
theorem len_sep : (Str.ofString ", ").length = 2 := by decide +kernel
theorem len_no : (Str.ofString "").length = 0 := by decide +kernel
theorem len_b1 : (Str.ofString "[").length = 1 := by decide +kernel
theorem len_b2 : (Str.ofString "]").length = 1 := by decide +kernel
theorem textFrom_le (c : Nat) : ∀ (ts : List PySem.Str) (n : Nat) (s : PySem.Str), (∀ t ∈ ts, t.length ≤ c) → (textFrom n s ts).length ≤ s.length + ts.length * (c + 2)
  | [], n, s, h => by rw [textFrom]; exact Nat.le_add_right ..
  | t :: ts, n, s, h => by
    rw [textFrom]
    refine Nat.le_trans (textFrom_le c ts _ _ fun t ht => h t (List.mem_cons_of_mem _ ht)) ?_
    have h1 := h t (List.mem_cons_self ..)
    have h2 : (Str.ofString (if n > 0 then ", " else "")).length ≤ 2 := by
      split
      · rw [len_sep]; exact Nat.le_refl _
      · rw [len_no]; exact Nat.zero_le _
    rw [str_app, str_app, List.length_cons, Nat.add_mul]
    omega
theorem listText_le {c : Nat} {ts : List PySem.Str} (h : ∀ t ∈ ts, t.length ≤ c) : (listText ts).length ≤ 2 + ts.length * (c + 2) := by
  unfold listText
  rw [str_app, len_b2]
  have := textFrom_le c ts 0 (Str.ofString "[") h
  rw [len_b1] at this
  omega
theorem shownAll_map : ∀ l : List PyData, PyData.shownAll l = l.map PyData.shown
  | [] => rfl
  | x :: l => by rw [PyData.shownAll, shownAll_map l]; rfl
theorem dl : ∀ (f n : Nat) (ds : List Char), (Nat.toDigitsCore 10 f n ds).length ≤ ds.length + f := by
  intro f
  induction f with
  | zero => intro n ds; unfold Nat.toDigitsCore; exact Nat.le_refl _
  | succ f ih =>
    intro n ds
    unfold Nat.toDigitsCore
    simp only
    split
    · rw [List.length_cons]; omega
    · exact Nat.le_trans (ih _ _) (by rw [List.length_cons]; omega)
theorem dl2 : ∀ (e f n : Nat) (ds : List Char), n < 10 ^ e → 0 < e → (Nat.toDigitsCore 10 f n ds).length ≤ ds.length + e := by
  intro e
  induction e with
  | zero => intro f n ds h h0; omega
  | succ e ih =>
    intro f n ds h _
    cases f with
    | zero => unfold Nat.toDigitsCore; omega
    | succ f =>
      unfold Nat.toDigitsCore
      simp only
      split
      · rw [List.length_cons]; omega
      · rename_i hq
        by_cases e0 : e = 0
        · subst e0
          have : n / 10 = 0 := Nat.div_eq_of_lt h
          exact absurd this hq
        · refine Nat.le_trans (ih _ _ _ (by rw [Nat.pow_succ] at h; exact Nat.div_lt_of_lt_mul (by omega)) (by omega)) (by rw [List.length_cons]; omega)
theorem ofs_len (s : String) : (Str.ofString s).length = s.toList.length := by
  rw [Str.ofString_eq_toList]
  show (s.toList.map Char.toNat).toArray.size = _
  rw [List.size_toArray, List.length_map]
theorem nat_len {e n : Nat} (h : n < 10 ^ e) (h0 : 0 < e) : n.repr.toList.length ≤ e := by
  have d := dl2 e (n + 1) n [] h h0
  unfold Nat.repr
  rw [String.toList_ofList]
  rw [List.length_nil, Nat.zero_add] at d
  exact d
theorem int_len {e : Nat} {i : Int} (h : i.natAbs < 10 ^ e) (h0 : 0 < e) : (Str.ofString (toString i)).length ≤ e + 1 := by
  rw [ofs_len]
  cases i with
  | ofNat n =>
    have := nat_len (n := n) h h0
    show n.repr.toList.length ≤ e + 1
    omega
  | negSucc n =>
    have := nat_len (n := n.succ) h h0
    show ("-" ++ n.succ.repr).toList.length ≤ e + 1
    rw [String.toList_append, List.length_append]
    have : "-".toList.length = 1 := rfl
    omega

/-- what may be shown -/
def Sh (a : MP.D) : Prop := ∃ p, toP a = some p ∧ p.showable = true ∧ p.hasDict = false ∧ p.depth ≤ 1 ∧ p.shown.length ≤ 100
theorem sh_int {i : Int} (h : i.natAbs < 10 ^ 31) : Sh (.int i) := by
  refine ⟨.int i, rfl, ?_, rfl, Nat.zero_le _, ?_⟩
  · show decide (i.natAbs.log2 < 1920) = true
    refine decide_eq_true (Nat.lt_of_lt_of_le (m := 104) ?_ (by decide))
    by_cases z : i.natAbs = 0
    · rw [z]; decide
    · exact (Nat.log2_lt z).mpr (Nat.lt_of_lt_of_le h (by decide +kernel))
  · have := int_len h (by decide)
    rw [PyData.shown]
    omega
theorem sh_non : Sh .non := ⟨.none, rfl, rfl, rfl, by decide +kernel, by decide +kernel⟩
theorem sh_true : Sh (.bl true) := ⟨.bool true, rfl, rfl, rfl, by decide +kernel, by decide +kernel⟩
theorem sh_prime : Sh (.str "prime") := ⟨.str "prime", rfl, rfl, rfl, by decide +kernel, by decide +kernel⟩
theorem sh_tup : Sh (.tup [.int 1, .int 2]) := ⟨.tuple [.int 1, .int 2], by rw [toP, toPs, toPs, toPs]; rfl, by decide +kernel, by decide +kernel, by decide +kernel, by decide +kernel⟩
theorem repr_of {ds : List MP.D} {ps : List PyData} (e : toP (.lst ds) = some (.list ps)) (s : PyData.showableAll ps = true) (h : PyData.hasDictAll ps = false) (d : PyData.depthAll ps ≤ 30) (l : ∀ t ∈ PyData.shownAll ps, t.length ≤ 100) (n : ps.length ≤ 2) : ∃ s, fRepr (.lst ds) = some (.str s) := by
  refine ⟨(PyData.list ps).shown, ?_⟩
  unfold fRepr
  rw [e]
  have e1 : (PyData.list ps).showable = true := by rw [PyData.showable, s]
  have e2 : (PyData.list ps).hasDict = false := by rw [PyData.hasDict, h]
  have e3 : (PyData.list ps).depth ≤ 40 := by rw [PyData.depth]; omega
  have e4 : (PyData.list ps).shown.length < 2 ^ 20 := by
    have := listText_le l
    rw [PyData.shown]
    rw [shownAll_map, List.length_map] at this
    rw [shownAll_map]
    have : ps.length * (100 + 2) ≤ 2 * 102 := Nat.mul_le_mul_right _ n
    omega
  simp only [e1, e2, e3, szB_of e4, Bool.not_false, Bool.true_and, decide_true, show isSeqD (.lst ds) = true from rfl, if_true]
theorem repr_at {a b : MP.D} (ha : Sh a) (hb : Sh b) (fl : List PySem.Str) : ∃ s, fRepr (.lst (atOf fl a b)) = some (.str s) := by
  obtain ⟨p, a1, a2, a3, a4, a5⟩ := ha
  obtain ⟨q, b1, b2, b3, b4, b5⟩ := hb
  match fl with
  | [] => exact @repr_of [] [] (by rw [toP, toPs]; rfl) (by rw [PyData.showableAll]) (by rw [PyData.hasDictAll]) (by rw [PyData.depthAll]; omega) (fun t ht => by rw [shownAll_map] at ht; cases ht) (by decide)
  | [_] => exact @repr_of [a] [p] (by rw [toP, toPs, toPs, a1]; rfl) (by rw [PyData.showableAll, PyData.showableAll, a2]; rfl) (by rw [PyData.hasDictAll, PyData.hasDictAll, a3]; rfl) (by rw [PyData.depthAll, PyData.depthAll]; omega) (fun t ht => by
      rw [shownAll_map] at ht
      rcases List.mem_cons.mp ht with rfl | ht
      · exact a5
      · cases ht) (by show 1 ≤ 2; decide)
  | _ :: _ :: _ => exact @repr_of [a, b] [p, q] (by rw [toP, toPs, toPs, toPs, a1, b1]; rfl) (by rw [PyData.showableAll, PyData.showableAll, PyData.showableAll, a2, b2]; rfl) (by rw [PyData.hasDictAll, PyData.hasDictAll, PyData.hasDictAll, a3, b3]; rfl) (by rw [PyData.depthAll, PyData.depthAll, PyData.depthAll]; omega) (fun t ht => by
      rw [shownAll_map] at ht
      rcases List.mem_cons.mp ht with rfl | ht
      · exact a5
      · rcases List.mem_cons.mp ht with rfl | ht
        · exact b5
        · cases ht) (by show 2 ≤ 2; decide)
end HK75

set_option maxRecDepth 100000
set_option maxHeartbeats 4000000
namespace HK75
open PySem L2 MP
local macro_rules | `(tactic| open_k with $t:term) => `(tactic| try simp only [↓rE_var, ↓rE_c, ↓rE_op, ↓rE_un, ↓rE_only, ↓rE_not, ↓rE_tru, ↓rE_and, ↓rE_or, ↓rE_if, ↓rE_chain, ↓rA_nil, ↓rA_cons, ↓rE_args, ↓rE_call, ↓rE_pf, ↓rE_part, ↓rE_slF, ↓rA_items, ↓rA_via, ↓rA_rev, ↓rE_hix, ↓rE_xf, ↓rE_pure, ↓rS_seq, ↓rS_set, ↓rS_asg2, ↓rS_unp, ↓rS_ret, ↓rS_drop, ↓rS_retN, ↓rS_pass, ↓rS_brk, ↓rS_cnt, ↓rS_raise0, ↓rS_if, ↓rS_app, ↓rS_setIx, ↓rS_aug, ↓rS_par, ↓rS_raise1, ↓rS_try, ↓rS_hset, ↓rF_fn, ↓cS_, ↓cSb_, ↓cSs_, ↓cSA_, ↓cSAr_, ↓cSN_, ↓cOp2_, ↓cOp2_x, ↓cOp_, ↓cOp_x, ↓cUn_, ↓cUn_x, ↓cOnly_, ↓cOnly_x, ↓cNot_, ↓cNot_x, ↓cTru_, ↓cTru_x, ↓cIfE_, ↓cIfE_x, ↓cCh3_, ↓cCh2_, ↓cCh2_x, ↓cCh_, ↓cCh_x, ↓cCons2_, ↓cCons2_x, ↓cCons_, ↓cCons_x, ↓cArgs_, ↓cArgs_x, ↓cCall_, ↓cCall_x, ↓cPart_, ↓cPart_x, ↓cSl5_, ↓cSl4_, ↓cSl3_, ↓cSl3_x, ↓cSl2_, ↓cSl2_x, ↓cSl_, ↓cSl_x, ↓cItems_, ↓cItems_x, ↓cVia_, ↓cVia_x, ↓cRev_, ↓cRev_x, ↓cPure_, ↓cPure_x, ↓cSeq_, ↓cSeq_r, ↓cSeq_b, ↓cSeq_c, ↓cSeq_x, ↓cSet_, ↓cSet_x, ↓cAsg2_, ↓cAsg2_x, ↓cUnp_, ↓cUnp_x, ↓cRet_, ↓cRet_x, ↓cDrop_, ↓cDrop_x, ↓cIfS_, ↓cIfS_x, ↓cApp2_, ↓cApp2_x, ↓cApp_, ↓cSetIx3_, ↓cSetIx2_, ↓cSetIx2_x, ↓cSetIx1_, ↓cSetIx1_x, ↓cSetIx_, ↓cAug2_, ↓cAug_, ↓cPar_, ↓cPar_x, ↓cRaise1_, ↓cRaise1_x, ↓cHset2_, ↓cHset_, ↓cHset_x, ↓kF_nx, ↓kF_ret, ↓kF_x, ↓kT_nx, ↓kT_ret, ↓kT_brk, ↓kT_cnt, ↓kT_x, ↓kFor_nx, ↓kFor_cnt, ↓kForR_nx, ↓kForR_cnt, ↓kForR_brk, ↓kForR_ret, ↓kForR_x, ↓kIt_, ↓kIt_x, ↓kItE_, ↓kItE_x, ↓rE_meth, ↓rE_make, ↓cMeth3_, ↓cMeth3_x, ↓cMeth2_, ↓cMeth_, ↓cMeth_x, ↓cObj_, ↓cObj_x, ↓cMake_, ↓cMake_x, ↓rP_some, ↓cIf_tt, ↓cIf_ff, ↓so_some, ↓so_none, ↓cTurn_t, ↓cTurn_f, ↓cTurn_x, ↓kW_nx, ↓kW_cnt, ↓kW_brk, ↓kW_ret, ↓kW_x, ↓kU_nx, ↓kU_ret, ↓kU_brk, ↓kU_cnt, ↓tryGo_nil,
  List.length_cons, List.length_nil, List.map_cons, List.map_nil, List.cons_append, List.nil_append, List.append_nil, List.replicate_succ, List.replicate_zero, List.getElem?_cons_zero, List.getElem?_cons_succ, List.set_cons_zero, List.set_cons_succ, Nat.reduceAdd, Nat.reduceSub, Nat.zero_add, Nat.sub_self, true_and, and_true, if_true, if_false, Bool.false_eq_true, eq_self, reduceIte, fAdd, fMul, fI0, fB0, fI, gVar, gTupD, gsCons, gsNil, wipeD, dI_snoc, isN_non, isN_str, notN_non, notN_str, notN_int, isN_int, truth_bl, truth_int, truth_lst, truth_tup, fTup_0, fTup_1, fTup_2, fTup_3, fTup_4, fLst_0, fLst_1, fLst_2, fLst_3, fLst_4, isPart_int, partOf_int, partOf_non, isi_int_int, isi_int_bl, isi_int_non, isi_int_str, isi_int_lst, isi_int_tup, isi_bool_int, isi_bool_bl, isi_tuple_tup, isi_tuple_lst, isi2_lst, isi2_tup, isi2_int, isi2_bl, isi2_non, isi2_str, fEq_int, fNe_int, fEq_str, fLen_lst, fLen_tup, fInt_int, fTuple_lst, fTuple_tup, fList_lst, fList_tup, itemsI_lst, itemsI_tup, fIx_l0, fIx_t0, fIx_l1, fIx_t1, fIx_l2, fIx_l3,
  Bool.not_true, Bool.not_false, wipe1_none, wipe1_some, tryGo_yes, tryGo_no, lookup_one, str_self, decide_true, decide_false, noL, noLf, isLst, hfO, hf, List.all_cons, List.all_nil, Bool.and_self, Bool.and_true, Bool.true_and, $t:term])
def sl4 : SS := (sSeq (sFor (aVia fRng1 (aCons (eUn fLen (eVar 5)) aNil)) (gVar 6) (sSeq (sUnp (gTupD (gsCons (gVar 8) (gsCons (gVar 9) gsNil))) (eOp fIx (eVar 5) (eVar 6))) (sSeq (sSet 7 (eCall m__law_kinds [] (aCons (eVar 8) aNil))) (sSeq (sIf (eOr (onlyB (eOp fNe (eComp [10] (aVia fRng1 (aCons (eUn fLen (eVar 7)) aNil)) (gVar 10) (eTru (eOp fIx (eVar 7) (eVar 10))) (eVar 10)) (eArgs (pf fLst) (aCons (eVar 6) aNil)))) (eNot (eAnd (eTru (eUn (fXv xfl isl (.own "RankError")) (eVar 8))) (eTru (eUn (fXv xfl isl (.ty "ValueError")) (eVar 8)))))) (sRet (eC (.bl false))) sPass) (sIf (onlyB (eOp fNe (eUn fRepr (eCall m__law_attributes [] (aCons (eVar 6) (aCons (eVar 8) aNil)))) (eUn fRepr (eVar 9)))) (sRet (eC (.bl false))) sPass))))) (sRet (eC (.bl true))))
def sl3 : SS := (sSeq (sSet 5 (eOp fAdd (eCall m__law_first [] (aCons (eVar 3) (aCons (eVar 4) aNil))) (eCall m__law_second [] (aCons (eVar 3) (aCons (eVar 4) aNil))))) sl4)
def sl1 : SS := (sSeq (sSet 3 (eOp fIx (eVar 2) (eCall m__law_take [] (aCons (eVar 1) (aCons (eC (.int 7)) aNil))))) (sSeq (sSet 4 (eOp fIx (eVar 2) (eCall m__law_take [] (aCons (eVar 1) (aCons (eC (.int 7)) aNil))))) sl3))
theorem cut_s_law : s_law = (sSeq (sSet 2 (eArgs (pf fTup) (aCons (eC .non) (aCons (eC (.str "prime")) (aCons (eUn fNeg (eC (.int 1))) (aCons (eC (.bl true)) (aCons (eArgs (pf fTup) (aCons (eC (.int 1)) (aCons (eC (.int 2)) aNil))) (aCons (eCall m__law_take [] (aCons (eVar 1) (aCons (eOp (fI cPow fun i j => i ^ j.toNat) (eC (.int 10)) (eC (.int 30))) aNil))) (aCons (eOp (fI0 fun i j => i - j) (eCall m__law_take [] (aCons (eVar 1) (aCons (eC (.int 99)) aNil))) (eC (.int 50))) aNil))))))))) sl1) := rfl
theorem nm_at {i : Nat} (h : i < 42) : (cl.getD i ("", [])).1 ∈ exn ∧ exn[i]? = some (cl.getD i ("", [])).1 ∧ cl[i]? = some (cl.getD i ("", [])) := by
  have hl : i < cl.length := by rw [cl_len]; exact h
  have e : cl.getD i ("", []) = cl[i] := by rw [List.getD_eq_getElem?_getD, List.getElem?_eq_getElem hl]; rfl
  have m : exn[i]? = some (cl[i]).1 := by rw [← cl_exn, List.getElem?_map, List.getElem?_eq_getElem hl]; rfl
  rw [e]
  exact ⟨List.mem_of_getElem? m, m, List.getElem?_eq_getElem hl⟩
theorem both_at (a b : MP.D) {i : Nat} (h : i < 42) : fIx (.lst (cl0.map (rowD a b) ++ cl1.map (rowD a b))) (.int (i : Nat)) = some (.tup [.exv (cl.getD i ("", [])).1 (fsOf (cl.getD i ("", [])).2 a b), .lst (atOf (cl.getD i ("", [])).2 a b)]) := by
  refine at_lst ?_
  rw [← List.map_append]
  show (cl.map (rowD a b))[i]? = _
  rw [List.getElem?_map, (nm_at h).2.2]
  rfl
theorem filt42 : ∀ k, k < 42 → (List.range 42).filter (fun j => decide (j = k)) = [k] := by decide +kernel
theorem ne1 (k : Int) : fNe (.lst [.int k]) (.lst [.int k]) = some (.bl false) := by
  have h : toP (.lst [.int k]) = some (.list [.int k]) := by rw [toP, toPs, toPs]; rfl
  have sh : SeqAt.shaped (.list [.int k]) = true := by simp [SeqAt.shaped, PyData.canLay0, PyData.canLayAll0, PyData.depth, PyData.depthAll]
  show (fEqD (.lst [.int k]) (.lst [.int k])).map (fun b => MP.D.bl (!b)) = _
  unfold fEqD
  rw [h]
  simp [sh, PyData.eqv, PyData.eqvAll]
theorem ne_str (s : PySem.Str) : fNe (.str s) (.str s) = some (.bl false) := by
  show some (MP.D.bl (!decide (s = s))) = _
  rw [decide_eq_true rfl]
  rfl
theorem sl4_ok {x0 x2 x3 x4 : Option MP.D} {a b : MP.D} (ha : Sh a) (hb : Sh b) {g : G} : rP (sl4 [x0, some .hand, x2, x3, x4, some (.lst (cl0.map (rowD a b) ++ cl1.map (rowD a b))), none, none, none, none, none] g) (fun o _ => o = .ret (.bl true)) := by
  have ln : fLen (.lst (cl0.map (rowD a b) ++ cl1.map (rowD a b))) = some (.int 42) := by
    show some (MP.D.int ((cl0.map (rowD a b) ++ cl1.map (rowD a b)).length : Nat)) = _
    rw [← List.map_append, List.length_map]
    show some (MP.D.int (cl.length : Nat)) = _
    rw [cl_len]
    rfl
  have rg : fRng1 [.int 42] = some (rng 0 42) := by
    show (if small62 (42 : Int) = true then some (rng 0 (42 : Int).toNat) else none) = _
    rw [if_pos (by decide +kernel)]
    rfl
  unfold sl4
  open_k with True
  refine rS_forR (fun k ρ g' => ∃ x6 x7 x8 x9 x10, ρ = [x0, some .hand, x2, x3, x4, some (.lst (cl0.map (rowD a b) ++ cl1.map (rowD a b))), x6, x7, x8, x9, x10] ∧ g' = g) ?_
  open_k with (And.intro ln rg)
  refine ⟨⟨_, _, _, _, _, rfl⟩, fun k d ρ g' hd hi => ?_, fun ρ g' hi => ?_⟩
  · obtain ⟨x6, x7, x8, x9, x10, rfl, rfl⟩ := hi
    obtain ⟨hk, rfl⟩ := MP.rng_at hd
    rw [Int.zero_add]
    have hk : k < 42 := hk
    obtain ⟨hn, hx, _⟩ := nm_at hk
    have bt := both_at a b hk
    have at_ := at_all hk a b g'
    obtain ⟨s, hs⟩ := repr_at ha hb (cl.getD k ("", [])).2
    obtain ⟨n, hnn⟩ : ∃ n, n = (cl.getD k ("", [])).1 := ⟨_, rfl⟩
    rw [← hnn] at bt at_ hn hx
    have ks := kinds_ok hn (fsOf (cl.getD k ("", [])).2 a b) g'
    have lk : fLen (.lst (exn.map fun m => MP.D.bl (n == m))) = some (.int 42) := by
      show some (MP.D.int ((exn.map fun m => MP.D.bl (n == m)).length : Nat)) = _
      rw [List.length_map, exn_len]
      rfl
    have xr := @xv_rank n (fsOf (cl.getD k ("", [])).2 a b) hn
    have xv := @xv_val n (fsOf (cl.getD k ("", [])).2 a b) hn
    have fl1 : fLst [.int (k : Nat)] = some (.lst [.int (k : Nat)]) := by unfold fLst; exact if_pos (show szB 1 = true by decide)
    open_k with (And.intro bt ks)
    refine rE_filt (fun j => decide (j = k)) (fun j => .int (j : Nat)) ?_
    open_k with (And.intro lk rg)
    refine ⟨by rw [rng_len]; decide, fun j d hd => ?_, ?_⟩
    · obtain ⟨hj, rfl⟩ := MP.rng_at hd
      rw [Int.zero_add]
      have hj : j < exn.length := by rw [exn_len]; exact hj
      have hk2 : k < exn.length := by rw [exn_len]; exact hk
      have e : (n == exn[j]) = decide (j = k) := by
        rw [List.getElem?_eq_getElem hk2] at hx
        have hx := Option.some.inj hx
        by_cases q : j = k
        · subst q
          rw [hx, beq_self_eq_true, decide_eq_true rfl]
        · rw [decide_eq_false q]
          refine beq_false_of_ne fun z => q ?_
          have pw := List.pairwise_iff_getElem.mp exn_nd
          have eq : exn[j] = exn[k] := z.symm.trans hx.symm
          rcases Nat.lt_trichotomy j k with h | h | h
          · exact absurd eq (pw j k hj hk2 h)
          · exact h
          · exact absurd eq.symm (pw k j hk2 hj h)
      have ix : fIx (.lst (exn.map fun m => MP.D.bl (n == m))) (.int (j : Nat)) = some (.bl (decide (j = k))) := at_lst (by rw [List.getElem?_map, List.getElem?_eq_getElem hj, ← e]; rfl)
      open_k with ix
    · have f : (List.range (rng 0 42).length).filter (fun j => decide (j = k)) = [k] := by rw [rng_len]; exact filt42 k hk
      rw [f, List.map_cons, List.map_nil]
      open_k with (And.intro fl1 (And.intro (ne1 (k : Nat)) (And.intro xr (And.intro xv (And.intro at_ (And.intro hs (ne_str s)))))))
      exact ⟨_, _, _, _, _, rfl⟩
  · obtain ⟨x6, x7, x8, x9, x10, rfl, rfl⟩ := hi
    open_k with True
theorem sl3_ok {x0 x2 : Option MP.D} {a b : MP.D} (ha : Sh a) (hb : Sh b) {g : G} : rP (sl3 [x0, some .hand, x2, some a, some b, none, none, none, none, none, none] g) (fun o _ => o = .ret (.bl true)) := by
  have f1 := first_ok a b g
  have f2 := second_ok a b g
  have sz : szB ((cl0.map (rowD a b)).length + (cl1.map (rowD a b)).length) = true := by rw [List.length_map, List.length_map]; decide +kernel
  unfold sl3
  open_k with (And.intro f1 (And.intro f2 sz))
  exact sl4_ok ha hb
/-! the odd values -/
def OddL (v z : Int) : List MP.D := [.non, .str "prime", .int (-1), .bl true, .tup [.int 1, .int 2], .int v, .int z]
theorem odd_at {v z : Int} (hv : v.natAbs < 10 ^ 31) (hz : z.natAbs < 10 ^ 31) (k : Nat) (hk : k < 7) : ∃ d, fIx (.tup (OddL v z)) (.int (k : Nat)) = some d ∧ Sh d := by
  have h : ∀ (k : Nat) d, (OddL v z)[k]? = some d → Sh d → ∃ d, fIx (.tup (OddL v z)) (.int (k : Nat)) = some d ∧ Sh d := fun k d e q => ⟨d, at_tup e, q⟩
  match k, hk with
  | 0, _ => exact h 0 _ rfl sh_non
  | 1, _ => exact h 1 _ rfl sh_prime
  | 2, _ => exact h 2 _ rfl (sh_int (by decide))
  | 3, _ => exact h 3 _ rfl sh_true
  | 4, _ => exact h 4 _ rfl sh_tup
  | 5, _ => exact h 5 _ rfl (sh_int hv)
  | 6, _ => exact h 6 _ rfl (sh_int hz)
  | k + 7, hk => omega
theorem sl1_ok {x0 : Option MP.D} {v z : Int} (hv : v.natAbs < 10 ^ 31) (hz : z.natAbs < 10 ^ 31) {g : G} (hg : HandOk g) : rP (sl1 [x0, some .hand, some (.tup (OddL v z)), none, none, none, none, none, none, none, none] g) (fun o _ => o = .ret (.bl true)) := by
  unfold sl1
  open_k with True
  refine rP_draw hg (by decide) (by decide) fun i g1 hi h1 => ?_
  obtain ⟨a, ia, sa⟩ := odd_at hv hz i (by omega)
  open_k with ia
  refine rP_draw h1 (by decide) (by decide) fun j g2 hj h2 => ?_
  obtain ⟨b, ib, sb⟩ := odd_at hv hz j (by omega)
  open_k with ib
  exact sl3_ok sa sb
def e30 : SE := (eOp (fI cPow fun i j => i ^ j.toNat) (eC (.int 10)) (eC (.int 30)))
theorem law_e : (sSet 2 (eArgs (pf fTup) (aCons (eC .non) (aCons (eC (.str "prime")) (aCons (eUn fNeg (eC (.int 1))) (aCons (eC (.bl true)) (aCons (eArgs (pf fTup) (aCons (eC (.int 1)) (aCons (eC (.int 2)) aNil))) (aCons (eCall m__law_take [] (aCons (eVar 1) (aCons (eOp (fI cPow fun i j => i ^ j.toNat) (eC (.int 10)) (eC (.int 30))) aNil))) (aCons (eOp (fI0 fun i j => i - j) (eCall m__law_take [] (aCons (eVar 1) (aCons (eC (.int 99)) aNil))) (eC (.int 50))) aNil))))))))) = (sSet 2 (eArgs (pf fTup) (aCons (eC .non) (aCons (eC (.str "prime")) (aCons (eUn fNeg (eC (.int 1))) (aCons (eC (.bl true)) (aCons (eArgs (pf fTup) (aCons (eC (.int 1)) (aCons (eC (.int 2)) aNil))) (aCons (eCall m__law_take [] (aCons (eVar 1) (aCons e30 aNil))) (aCons (eOp (fI0 fun i j => i - j) (eCall m__law_take [] (aCons (eVar 1) (aCons (eC (.int 99)) aNil))) (eC (.int 50))) aNil))))))))) := rfl
theorem law_true : LawTrue := fun ns hl => by
  obtain ⟨cells, t, e, hc⟩ := hand_ok ns hl
  have hg : HandOk (handG cells t) := handG_ok hc
  suffices h : rP (s_law ((List.replicate 11 none).set 1 (some .hand)) (handG cells t)) (fun o _ => o = .ret (.bl true)) by
    obtain ⟨o, g', e2, rfl⟩ := rP_get h
    exact ⟨cells, t, g', e, e2⟩
  rw [cut_s_law]
  show rP (sSeq _ _ [none, some .hand, none, none, none, none, none, none, none, none, none] (handG cells t)) _
  rw [law_e]
  have p1 : cPow 10 30 = true := by decide
  obtain ⟨T, r30, dr⟩ : ∃ T : Int, (∀ (ρ : MP.Env) (g : G) (Q : QE), rP (e30 ρ g) Q = Q (.ok (.int T)) g) ∧ ∀ {g : G} {Q : QE}, HandOk g → (∀ (v : Nat) g', v < 10 ^ 31 → HandOk g' → Q (.ok (.int (v : Int))) g') → rP (m__law_take [.hand, .int T] g) Q := ⟨10 ^ (30 : Int).toNat, fun ρ g Q => by unfold e30; open_k with p1, fun hg k => by
    obtain ⟨v, g', e, hv, h⟩ := tk (many := 10 ^ (30 : Int).toNat) (by decide +kernel) (by decide +kernel) hg
    rw [e]
    have e2 : (10 : Int) ^ (30 : Int).toNat = ((10 ^ 30 : Nat) : Int) := by decide +kernel
    rw [e2] at hv
    exact k v g' (Nat.lt_of_lt_of_le (Int.ofNat_lt.mp hv) (by decide +kernel)) h⟩
  have ft := @fTup_2 (.int 1) (.int 2)
  have f7 : ∀ v z : Int, fTup [.non, .str "prime", .int (-1), .bl true, .tup [.int 1, .int 2], .int v, .int z] = some (.tup (OddL v z)) := fun v z => by unfold fTup; exact if_pos (show szB 7 = true by decide)
  have fn1 : fNeg (.int 1) = some (.int (-1)) := rfl
  open_k with (And.intro fn1 (And.intro ft r30))
  refine dr hg fun v g1 hv h1 => ?_
  open_k with True
  refine rP_draw h1 (by decide) (by decide) fun u g2 hu h2 => ?_
  have f7 := f7 (v : Int) ((u : Int) - 50)
  open_k with f7
  exact sl1_ok (by show v < 10 ^ 31; exact hv) (Nat.lt_of_lt_of_le (show ((u : Int) - 50).natAbs < 100 by omega) (by decide +kernel)) h2
end HK75

set_option maxRecDepth 100000
set_option maxHeartbeats 0
open PySem PySem.W PySem.Calls PyProof.Rows
theorem PySem.Challenge.cw_rankwords_k75_errors_stand_side_by_side_holds : PySem.Challenge.rw_rankwords_k75_errors_stand_side_by_side.Holds := by
  w_on; o_law
  refine HandSHeadRun.head_any (r := OpenLaw.row PySem.Challenge.rw_rankwords_k75_errors_stand_side_by_side) (q := view (OpenLaw.row PySem.Challenge.rw_rankwords_k75_errors_stand_side_by_side).prog [52]) (H := HK75.hk) (ob := HK75.ob) (M := 20000) (loose := HK75.loose) (d := HandSHeadRun.topDef (OpenLaw.row PySem.Challenge.rw_rankwords_k75_errors_stand_side_by_side).prog 52) (kwd := []) HK75.ob_eq
    (by kernel_rfl) (fun s => by kernel_rfl) HK75.run (by kernel_rfl) (by kernel_rfl) (by kernel_rfl) (by rfl) (by first | assumption | decide +kernel) (by decide +kernel) ⟨rfl, rfl, rfl, rfl, rfl, by decide +kernel⟩ ?hw ?hc
  case hw => w_witness2
  case hc =>
    refine MP.walkG (l := PySem.Challenge.rw_rankwords_k75_errors_stand_side_by_side) (n := 63) (k := 5) (x := "_law_script") (CX := L2.CX0) rfl (by decide) (by kernel_rfl) ⟨⟨rfl, by decide, by decide⟩, rfl⟩ ?F (fun _ _ _ _ z => z)
    intro w mg fa h Y G hmg0
    obtain ⟨K, KX, c⟩ := Y
    have hmg : mg ("law" : PySem.Str) = some (.ref fa) := by
      have e : (HandSHeadRun.topDef (OpenLaw.row PySem.Challenge.rw_rankwords_k75_errors_stand_side_by_side).prog 52).name = ("law" : PySem.Str) := by kernel_rfl
      rw [← e]
      exact hmg0
    have Z : ∀ mg' : PySem.Str → Option PySem.Value, ∀ h' : PySem.Heap, K.In h' → h'.Ns mainGlobals mg' → MP.Pk HK75.fa HK75.fn K mg' := fun mg' h' a b => ⟨c.d.1, h', a, b⟩
    have ef : fa = He.ga K "law" := by
      have := (Z mg h KX G).glo 30 (x := "law") rfl
      rw [hmg] at this
      cases this
      rfl
    subst ef
    obtain ⟨fd, F⟩ := c.d.1.def_ 30 (d := HK75.d30) rfl
    refine ⟨K, fd, MP.spLaw K, KX, fun s u => L2.FunD.bindsA (ps := ["_law_script"]) F (fun _ _ _ _ _ _ us hl => match us, hl with | [_], _ => rfl) s [u] rfl, fun H a ns hl _ hS => ⟨a, ns, rfl, hS, hl, fun _ => rfl⟩, fun base kb nb => ?_⟩
    exact HK75.ok_lawF (Z mg base kb nb) c.d.2 HK75.law_true F
