import PyProof.Rows.All
import Wide.All
import OpenK.AllK
import Wide.FinOn
import KE.KStateDown
import HandS.Base
import HandS.Call
import HandS.Ends
import HandS.More
import HandS.Words
import HandS.WordsExc
import HandS.Defaults
import HandS.Head0
import HandS.Head1
import HandS.Head2
import HandS.HeadEnd
import HandS.HeadHook1
import HandS.HeadHook2
import HandS.List
import HandS.Comp
import HandS.Wide
import HandS.IsInst
import HandS.Iter
import HandS.WordsList
import HandS.Steps
import HandS.Walk
import HandS.ExcOwn
import HandS.ExcInit
import HandS.TryOnly
import HandS.SuiteRaise
import HandS.Evl
import HandS.Flow
import PySem.Challenge.RW_rankwords_k74_whole_numbers_of_spaces_an
set_option Elab.async false
set_option linter.all false
set_option maxRecDepth 100000
set_option maxHeartbeats 0
namespace HK74
open PySem PySem.Spec PyProof.Rows L2
def top (i : Nat) : Stmt := PySem.Challenge.pw_rankwords_k74_whole_numbers_of_spaces_an.main.body.getD i (.Pass ⟨0, 0, 0, 0⟩)
abbrev s0 : Stmt := (top 1)
def d0 : He.DefD := ⟨("power_of", none), "power_of", "power_of", defArgs s0, defBody s0, defScope s0, [], []⟩
abbrev s1 : Stmt := (top 2)
def d1 : He.DefD := ⟨("space_count", none), "space_count", "space_count", defArgs s1, defBody s1, defScope s1, [], []⟩
abbrev s2 : Stmt := (top 3)
def d2 : He.DefD := ⟨("table_count", none), "table_count", "table_count", defArgs s2, defBody s2, defScope s2, [], []⟩
abbrev s3 : Stmt := (top 5)
def d3 : He.DefD := ⟨("_law_hand", none), "_law_hand", "_law_hand", defArgs s3, defBody s3, defScope s3, [], []⟩
abbrev s4 : Stmt := (top 6)
def d4 : He.DefD := ⟨("_law_mixed", none), "_law_mixed", "_law_mixed", defArgs s4, defBody s4, defScope s4, [], []⟩
abbrev s5 : Stmt := (top 7)
def d5 : He.DefD := ⟨("_law_take", none), "_law_take", "_law_take", defArgs s5, defBody s5, defScope s5, [], []⟩
abbrev s6 : Stmt := (top 8)
def d6 : He.DefD := ⟨("_law_whole", none), "_law_whole", "_law_whole", defArgs s6, defBody s6, defScope s6, [], []⟩
abbrev s7 : Stmt := (top 9)
def d7 : He.DefD := ⟨("_law_power", none), "_law_power", "_law_power", defArgs s7, defBody s7, defScope s7, [], []⟩
abbrev s8 : Stmt := (top 10)
def d8 : He.DefD := ⟨("_law_is", none), "_law_is", "_law_is", defArgs s8, defBody s8, defScope s8, [], []⟩
abbrev s9 : Stmt := (top 11)
def d9 : He.DefD := ⟨("_law_rows", none), "_law_rows", "_law_rows", defArgs s9, defBody s9, defScope s9, [], []⟩
abbrev s10 : Stmt := (top 12)
def d10 : He.DefD := ⟨("_law_spaces", none), "_law_spaces", "_law_spaces", defArgs s10, defBody s10, defScope s10, [], []⟩
abbrev s11 : Stmt := (top 13)
def d11 : He.DefD := ⟨("_law_tables", none), "_law_tables", "_law_tables", defArgs s11, defBody s11, defScope s11, [], []⟩
abbrev s12 : Stmt := (top 14)
def d12 : He.DefD := ⟨("_law_number", none), "_law_number", "_law_number", defArgs s12, defBody s12, defScope s12, [], []⟩
abbrev s13 : Stmt := (top 15)
def d13 : He.DefD := ⟨("_law_part", none), "_law_part", "_law_part", defArgs s13, defBody s13, defScope s13, [], []⟩
abbrev s14 : Stmt := (top 16)
def d14 : He.DefD := ⟨("law", none), "law", "law", defArgs s14, defBody s14, defScope s14, [], []⟩
def fn : List He.DefD := [d0, d1, d2, d3, d4, d5, d6, d7, d8, d9, d10, d11, d12, d13, d14]
def fa : List He.Fa := [.glo "power_of", .glo "space_count", .glo "table_count", .glo "_law_hand", .glo "_law_mixed", .glo "_law_take", .glo "_law_whole", .glo "_law_power", .glo "_law_is", .glo "_law_rows", .glo "_law_spaces", .glo "_law_tables", .glo "_law_number", .glo "_law_part", .glo "law", .free "abs", .free "bool", .free "int", .free "isinstance", .free "len", .free "range", .free "sum"]
def loose0 : List PySem.Str := ["_law_hand", "_law_is", "_law_mixed", "_law_number", "_law_part", "_law_power", "_law_rows", "_law_spaces", "_law_tables", "_law_take", "_law_whole", "power_of", "space_count", "table_count"]
def loose : List PySem.Str := loose0
abbrev R : PySem.W.OpenRow := PySem.W.OpenLaw.row PySem.Challenge.rw_rankwords_k74_whole_numbers_of_spaces_an
abbrev hk : PySem.W.Hook := He.hookD 5 fa fn
def ob (s : PySem.W.SharedT) : He.AlD := He.obsDG 5 fa fn (HandSHeadRun.getT s)
theorem ob_eq (s : PySem.W.SharedT) : ob s = hk.obs s.abs := He.obsDG_eq (HandSHeadRun.getT_eq s)
theorem run (w : World) : HandSHeadRun.RunEq R (PySem.W.view R.prog [16]) hk ob 2000 loose w := by
  intro os
  kernel_rfl
end HK74

set_option maxRecDepth 100000
set_option maxHeartbeats 1000000
namespace Evl
open PySem L2
theorem Ex.both {F H : Hp} {p : Addr} {o : HO} (e : Ex F H) (h : H p = none) : Ex (upd F p o) (upd H p o) := fun a u ha => by
  by_cases q : a = p
  · subst q
    rw [upd_same] at ha ⊢
    exact ha
  · rw [upd_ne q] at ha ⊢
    exact e a u ha
theorem Ex.frz {F H : Hp} {p : Addr} {o : HO} (e : Ex F H) (h : H p = some o) : Ex (upd F p o) H := fun a u ha => by
  by_cases q : a = p
  · subst q
    rw [upd_same] at ha
    rw [h]
    exact ha
  · rw [upd_ne q] at ha
    exact e a u ha
end Evl
namespace MP
open PySem L2
open Evl (Ex ex_rd ex_l ex_t)
/-! ### data -/
inductive D where
  | non | bl (b : Bool) | int (i : Int) | str (x : Str) | tup (ds : List D) | lst (ds : List D) | obj (c : Str) (fs : List (Str × D)) | hand
abbrev G := List D
inductive Out where
  | ok (d : D) | exc (c : Str) (fs : List (Str × D))
abbrev Env := List (Option D)
abbrev R := Option (Out × G)
abbrev SE := Env → G → R
/-- what is around: the written part, a class's address, the hand's -/
structure Ct where
  K : PySem.W.Frag
  ca : Str → Addr
  hd : Option Addr
mutual
def Rep (c : Ct) (F : Hp) : D → V → Prop
  | .non, v => v = .non
  | .bl b, v => v = .bl b
  | .int i, v => v = .int i
  | .str x, v => v = .str x
  | .tup ds, v => ∃ a vs, v = .ref a ∧ SqT c.K F a vs ∧ Reps c F ds vs
  | .lst ds, v => ∃ a vs, v = .ref a ∧ F a = some (.lst vs) ∧ Reps c F ds vs
  | .obj n fs, v => ∃ a dx vs, v = .ref a ∧ F a = some (.ins (c.ca n) dx vs) ∧ RepF c F fs vs
  | .hand, v => ∃ a, c.hd = some a ∧ v = .ref a
def Reps (c : Ct) (F : Hp) : List D → List V → Prop
  | [], vs => vs = []
  | d :: ds, vs => ∃ v r, vs = v :: r ∧ Rep c F d v ∧ Reps c F ds r
def RepF (c : Ct) (F : Hp) : List (Str × D) → List (Str × V) → Prop
  | [], vs => vs = []
  | (n, d) :: ds, vs => ∃ v r, vs = (n, v) :: r ∧ Rep c F d v ∧ RepF c F ds r
end
theorem ex_none {F H : Hp} {p : Addr} (e : Ex F H) (h : H p = none) : F p = none := by
  cases q : F p with
  | none => rfl
  | some o =>
    rw [e p o q] at h
    cases h
section
variable {c : Ct} {F F' : Hp}
mutual
theorem Rep.mono (e : Ex F F') : ∀ (d : D) (v : V), Rep c F d v → Rep c F' d v
  | .non, _, h => h
  | .bl _, _, h => h
  | .int _, _, h => h
  | .str _, _, h => h
  | .tup ds, _, ⟨a, vs, h1, h2, h3⟩ => ⟨a, vs, h1, ex_t e h2, Reps.mono e ds vs h3⟩
  | .lst ds, _, ⟨a, vs, h1, h2, h3⟩ => ⟨a, vs, h1, e _ _ h2, Reps.mono e ds vs h3⟩
  | .obj n fs, _, ⟨a, dx, vs, h1, h2, h3⟩ => ⟨a, dx, vs, h1, e _ _ h2, RepF.mono e fs vs h3⟩
  | .hand, _, h => h
theorem Reps.mono (e : Ex F F') : ∀ (ds : List D) (vs : List V), Reps c F ds vs → Reps c F' ds vs
  | [], _, h => h
  | d :: ds, _, ⟨v, r, h1, h2, h3⟩ => ⟨v, r, h1, Rep.mono e d v h2, Reps.mono e ds r h3⟩
theorem RepF.mono (e : Ex F F') : ∀ (ds : List (Str × D)) (vs : List (Str × V)), RepF c F ds vs → RepF c F' ds vs
  | [], _, h => h
  | (n, d) :: ds, _, ⟨v, r, h1, h2, h3⟩ => ⟨v, r, h1, Rep.mono e d v h2, RepF.mono e ds r h3⟩
end
theorem Reps.len : ∀ {ds : List D} {vs : List V}, Reps c F ds vs → vs.length = ds.length
  | [], _, h => by cases h; rfl
  | d :: ds, _, ⟨v, r, h1, h2, h3⟩ => by rw [h1, List.length_cons, List.length_cons, Reps.len h3]
theorem Reps.get : ∀ {ds : List D} {vs : List V} {i : Nat} {d : D}, Reps c F ds vs → ds[i]? = some d → ∃ v, vs[i]? = some v ∧ Rep c F d v
  | [], _, _, _, _, h => by simp at h
  | d :: ds, _, 0, _, ⟨v, r, h1, h2, h3⟩, h => by
    rw [List.getElem?_cons_zero] at h
    cases h
    exact ⟨v, by rw [h1]; rfl, h2⟩
  | d :: ds, _, i + 1, _, ⟨v, r, h1, h2, h3⟩, h => by
    rw [List.getElem?_cons_succ] at h
    obtain ⟨w, e1, e2⟩ := Reps.get h3 h
    exact ⟨w, by rw [h1, List.getElem?_cons_succ]; exact e1, e2⟩
theorem Reps.get' : ∀ {ds : List D} {vs : List V} {i : Nat} {v : V}, Reps c F ds vs → vs[i]? = some v → ∃ d, ds[i]? = some d ∧ Rep c F d v
  | [], _, _, _, h0, h => by cases h0; simp at h
  | d :: ds, _, 0, _, ⟨v, r, h1, h2, h3⟩, h => by
    rw [h1, List.getElem?_cons_zero] at h
    cases h
    exact ⟨d, rfl, h2⟩
  | d :: ds, _, i + 1, _, ⟨v, r, h1, h2, h3⟩, h => by
    rw [h1, List.getElem?_cons_succ] at h
    obtain ⟨w, e1, e2⟩ := Reps.get' h3 h
    exact ⟨w, by rw [List.getElem?_cons_succ]; exact e1, e2⟩
theorem Reps.append : ∀ {ds es : List D} {vs ws : List V}, Reps c F ds vs → Reps c F es ws → Reps c F (ds ++ es) (vs ++ ws)
  | [], _, _, _, h, k => by cases h; exact k
  | d :: ds, _, _, _, ⟨v, r, h1, h2, h3⟩, k => ⟨v, _, by rw [h1, List.cons_append], h2, Reps.append h3 k⟩
theorem Reps.one {d : D} {v : V} (h : Rep c F d v) : Reps c F [d] [v] := ⟨v, [], rfl, h, rfl⟩
theorem Reps.set : ∀ {ds : List D} {vs : List V} {i : Nat} {d : D} {v : V}, Reps c F ds vs → Rep c F d v → Reps c F (ds.set i d) (vs.set i v)
  | [], _, _, _, _, h, _ => by cases h; exact rfl
  | d :: ds, _, 0, _, _, ⟨v, r, h1, h2, h3⟩, h => ⟨_, _, by rw [h1, List.set_cons_zero], h, h3⟩
  | d :: ds, _, i + 1, _, _, ⟨v, r, h1, h2, h3⟩, h => ⟨_, _, by rw [h1, List.set_cons_succ], h2, Reps.set h3 h⟩
theorem Reps.take : ∀ {ds : List D} {vs : List V} (i : Nat), Reps c F ds vs → Reps c F (ds.take i) (vs.take i)
  | [], _, i, h => by cases h; simp; exact rfl
  | d :: ds, _, 0, h => by simp; exact rfl
  | d :: ds, _, i + 1, ⟨v, r, h1, h2, h3⟩ => ⟨v, r.take i, by rw [h1, List.take_succ_cons], h2, Reps.take i h3⟩
theorem Reps.drop : ∀ {ds : List D} {vs : List V} (i : Nat), Reps c F ds vs → Reps c F (ds.drop i) (vs.drop i)
  | [], _, i, h => by cases h; simp; exact rfl
  | d :: ds, _, 0, h => by simpa using h
  | d :: ds, _, i + 1, ⟨v, r, h1, h2, h3⟩ => by rw [h1, List.drop_succ_cons, List.drop_succ_cons]; exact Reps.drop i h3
theorem Reps.dropLast {ds : List D} {vs : List V} (h : Reps c F ds vs) : Reps c F ds.dropLast vs.dropLast := by
  rw [List.dropLast_eq_take, List.dropLast_eq_take, h.len]
  exact h.take _
theorem Reps.reverse : ∀ {ds : List D} {vs : List V}, Reps c F ds vs → Reps c F ds.reverse vs.reverse
  | [], _, h => by cases h; exact rfl
  | d :: ds, _, ⟨v, r, h1, h2, h3⟩ => by
    rw [h1, List.reverse_cons, List.reverse_cons]
    exact (Reps.reverse h3).append (.one h2)
theorem RepF.look {f : Str} {d : D} : ∀ {fs : List (Str × D)} {vs : List (Str × V)}, RepF c F fs vs → fs.lookup f = some d → ∃ v, vs.lookup f = some v ∧ Rep c F d v
  | [], _, _, h => by simp at h
  | (n, e) :: fs, _, ⟨v, r, h1, h2, h3⟩, h => by
    rw [h1]
    rw [List.lookup_cons] at h ⊢
    cases q : (f == n) with
    | true =>
      rw [q] at h
      cases h
      exact ⟨v, rfl, h2⟩
    | false =>
      rw [q] at h
      exact RepF.look h3 h
theorem RepF.len : ∀ {ds : List (Str × D)} {vs : List (Str × V)}, RepF c F ds vs → vs.length = ds.length
  | [], _, h => by cases h; rfl
  | (n, d) :: ds, _, ⟨v, r, h1, h2, h3⟩ => by rw [h1, List.length_cons, List.length_cons, RepF.len h3]
end
/-! ### states -/
/-- from (F0, H0) to (F, H): what is frozen stays, what stood stands (but the hand), what is newly frozen is new -/
structure Gr (c : Ct) (F0 H0 F H : Hp) : Prop where
  ex : Ex F0 F
  keep : ∀ a o, H0 a = some o → c.hd ≠ some a → H a = some o
  new : ∀ a, F0 a = none → F a ≠ none → H0 a = none
  dom : ∀ a, H a = none → H0 a = none
theorem Gr.refl (c : Ct) (F H : Hp) : Gr c F H F H := ⟨.refl F, fun _ _ h _ => h, fun _ h k => absurd h k, fun _ h => h⟩
theorem Gr.trans {c : Ct} {F0 H0 F1 H1 F2 H2 : Hp} (a : Gr c F0 H0 F1 H1) (b : Gr c F1 H1 F2 H2) : Gr c F0 H0 F2 H2 where
  ex := a.ex.trans b.ex
  keep := fun x o h k => b.keep x o (a.keep x o h k) k
  new := fun x h k => by
    cases q : F1 x with
    | none => exact a.dom x (b.new x q k)
    | some o => exact a.new x h (by rw [q]; exact Option.some_ne_none o)
  dom := fun x h => a.dom x (b.dom x h)
/-- the hand stands in H -/
def HandAt (c : Ct) (F H : Hp) (g : G) : Prop := match c.hd with
  | none => True
  | some h => F h = none ∧ ∃ vs, H h = some (.lst vs) ∧ Reps c F g vs
/-- what slot i owns -/
def Own (c : Ct) (F0 H0 F H : Hp) (d : D) (v : V) : Prop := ∃ p ds vs, d = .lst ds ∧ v = .ref p ∧ H0 p = none ∧ F p = none ∧ c.hd ≠ some p ∧ H p = some (.lst vs) ∧ Reps c F ds vs
structure SR (c : Ct) (F0 H0 F H : Hp) (σ : St) (ρ : Env) (O : List Nat) (g : G) : Prop where
  ex : Ex F H
  gr : Gr c F0 H0 F H
  len : σ.length = ρ.length
  val : ∀ i d, ρ[i]? = some (some d) → i ∉ O → ∃ v, σ[i]? = some (some v) ∧ Rep c F d v
  own : ∀ i d, ρ[i]? = some (some d) → i ∈ O → ∃ v, σ[i]? = some (some v) ∧ Own c F0 H0 F H d v
  dis : ∀ i j d e, i ∈ O → j ∈ O → i ≠ j → ρ[i]? = some (some d) → ρ[j]? = some (some e) → σ[i]? ≠ σ[j]?
  hand : HandAt c F H g
section
variable {c : Ct} {F0 H0 F H F' H' : Hp} {σ : St} {ρ : Env} {O : List Nat} {g g' : G}
theorem SR.next (S : SR c F0 H0 F H σ ρ O g) (G : Gr c F H F' H') (ex : Ex F' H') (hh : HandAt c F' H' g') : SR c F0 H0 F' H' σ ρ O g' where
  ex := ex
  gr := S.gr.trans G
  len := S.len
  val := fun i d h k => by
    obtain ⟨v, h1, h2⟩ := S.val i d h k
    exact ⟨v, h1, h2.mono G.ex⟩
  own := fun i d h k => by
    obtain ⟨v, h1, p, ds, vs, h2, h3, h4, h5, h6, h7, h8⟩ := S.own i d h k
    refine ⟨v, h1, p, ds, vs, h2, h3, h4, ?_, h6, G.keep _ _ h7 h6, h8.mono G.ex⟩
    cases q : F' p with
    | none => rfl
    | some o =>
      have z := G.new p h5 (by rw [q]; exact Option.some_ne_none o)
      rw [h7] at z
      cases z
  dis := S.dis
  hand := hh
/-- pure: nothing that stands changes -/
structure Gp (F H F' H' : Hp) : Prop where
  ex : Ex F F'
  keep : Ex H H'
  new : ∀ a, F a = none → F' a ≠ none → H a = none
  exx : Ex F' H'
theorem Gp.refl (e : Ex F H) : Gp F H F H := ⟨.refl F, .refl H, fun _ h k => absurd h k, e⟩
theorem Gp.trans {F2 H2 : Hp} (a : Gp F H F' H') (b : Gp F' H' F2 H2) : Gp F H F2 H2 where
  ex := a.ex.trans b.ex
  keep := a.keep.trans b.keep
  new := fun x h k => by
    cases q : F' x with
    | none =>
      have z := b.new x q k
      exact ex_none a.keep z
    | some o => exact a.new x h (by rw [q]; exact Option.some_ne_none o)
  exx := b.exx
theorem Gp.gr (a : Gp F H F' H') : Gr c F H F' H' := ⟨a.ex, fun x o h _ => a.keep x o h, a.new, fun x h => ex_none a.keep h⟩
theorem Gp.hand (a : Gp F H F' H') (h : HandAt c F H g) : HandAt c F' H' g := by
  unfold HandAt at h ⊢
  cases q : c.hd with
  | none => trivial
  | some p =>
    rw [q] at h
    obtain ⟨h1, vs, h2, h3⟩ := h
    refine ⟨?_, vs, a.keep _ _ h2, h3.mono a.ex⟩
    cases z : F' p with
    | none => rfl
    | some o =>
      have y := a.new p h1 (by rw [z]; exact Option.some_ne_none o)
      rw [h2] at y
      cases y
theorem SR.pure (S : SR c F0 H0 F H σ ρ O g) (a : Gp F H F' H') : SR c F0 H0 F' H' σ ρ O g := S.next a.gr a.exx (a.hand S.hand)
/-- a new object, frozen at once -/
theorem gp_new {p : Addr} {o : HO} (e : Ex F H) (h : H p = none) : Gp F H (upd F p o) (upd H p o) where
  ex := Ex.new (ex_none e h)
  keep := Ex.new h
  new := fun a z k => by
    by_cases q : a = p
    · subst q
      exact h
    · rw [upd_ne q] at k
      exact absurd z k
  exx := Ex.both e h
/-- a new object that stays open -/
theorem gp_open {p : Addr} {o : HO} (e : Ex F H) (h : H p = none) : Gp F H F (upd H p o) where
  ex := .refl F
  keep := Ex.new h
  new := fun a z k => absurd z k
  exx := e.trans (Ex.new h)
end
end MP

set_option maxRecDepth 100000
set_option maxHeartbeats 1000000
namespace MP
open PySem L2
open Evl (Ex ex_rd ex_l ex_t)
/-- a raised exception of the class n with the fields fs -/
def ExcAt (c : Ct) (F H : Hp) (n : Str) (fs : List (Str × D)) (cls : Value) (dd : Option Addr) : Prop :=
  cls = .ref (c.ca n) ∧ (fs = [] ∨ ∃ d vs, dd = some d ∧ H d = some (.xd vs) ∧ RepF c F fs vs)
section
variable (c : Ct) (F0 H0 : Hp) (σ : St) (ρ : Env) (O : List Nat) (W : WX)
def PostX (F H : Hp) (n : Str) (fs : List (Str × D)) (g' : G) : Prop :=
  ∀ cls dd F' H', Gr c F H F' H' → SR c F0 H0 F' H' σ ρ O g' → ExcAt c F' H' n fs cls dd → W cls dd σ H'
def PostE (F H : Hp) (r : Out) (g' : G) (Q : VK) : Prop := match r with
  | .ok d => ∀ v F' H', Gr c F H F' H' → SR c F0 H0 F' H' σ ρ O g' → Rep c F' d v → Q v H'
  | .exc n fs => PostX c F0 H0 σ ρ O W F H n fs g'
end
/-- te evaluates as e says -/
def SndE (c : Ct) (O : List Nat) (W : WX) (te : TE) (e : SE) : Prop := ∀ F0 H0 F H σ ρ g r g', SR c F0 H0 F H σ ρ O g → e ρ g = some (r, g') → ∀ Q, PostE c F0 H0 σ ρ O W F H r g' Q → te σ H Q
section
variable {c : Ct} {F0 H0 F H F' H' : Hp} {σ : St} {ρ : Env} {O : List Nat} {W : WX} {g g' : G} {te ta tb tc : TE} {e a b : SE}
theorem PostX.gr {n fs} (G : Gr c F H F' H') (p : PostX c F0 H0 σ ρ O W F H n fs g) : PostX c F0 H0 σ ρ O W F' H' n fs g := fun cls dd F2 H2 G2 S x => p cls dd F2 H2 (G.trans G2) S x
theorem PostE.gr {r Q} (G : Gr c F H F' H') (p : PostE c F0 H0 σ ρ O W F H r g Q) : PostE c F0 H0 σ ρ O W F' H' r g Q := by
  cases r with
  | ok d => exact fun v F2 H2 G2 S x => p v F2 H2 (G.trans G2) S x
  | exc n fs => exact PostX.gr G p
/-! ### sequencing -/
def bE (x : R) (k : D → G → R) : R := match x with
  | some (.ok d, g) => k d g
  | some (.exc n f, g) => some (.exc n f, g)
  | none => none
@[simp] theorem bE_ok (d : D) (g : G) (k : D → G → R) : bE (some (.ok d, g)) k = k d g := rfl
@[simp] theorem bE_exc (n f) (g : G) (k : D → G → R) : bE (some (.exc n f, g)) k = some (.exc n f, g) := rfl
@[simp] theorem bE_none (k : D → G → R) : bE none k = none := rfl
/-- the first part of a sequence: its value, or its exception is the whole's -/
theorem SndE.bind (h : SndE c O W te e) {k : D → G → R} {r : Out} (S : SR c F0 H0 F H σ ρ O g) (q : bE (e ρ g) k = some (r, g')) {Q Q' : VK} (p : PostE c F0 H0 σ ρ O W F H r g' Q)
    (n : ∀ d g1 v F1 H1, k d g1 = some (r, g') → Gr c F H F1 H1 → SR c F0 H0 F1 H1 σ ρ O g1 → Rep c F1 d v → Q' v H1) : te σ H Q' := by
  cases z : e ρ g with
  | none =>
    rw [z] at q
    cases q
  | some y =>
    obtain ⟨o, g1⟩ := y
    rw [z] at q
    cases o with
    | ok d => exact h _ _ _ _ _ _ _ _ _ S z _ fun v F1 H1 G1 S1 x => n d g1 v F1 H1 q G1 S1 x
    | exc m fs =>
      cases q
      exact h _ _ _ _ _ _ _ _ _ S z _ p
/-! ### names, constants -/
def eVar (i : Nat) : SE := fun ρ g => match ρ[i]? with
  | some (some d) => some (.ok d, g)
  | _ => none
def eC (d : D) : SE := fun _ g => some (.ok d, g)
theorem snd_var {i : Nat} (hi : i ∉ O) : SndE c O W (tVar i) (eVar i) := fun F0 H0 F H σ ρ g r g' S q Q p => by
  unfold eVar at q
  split at q
  · rename_i d h
    cases q
    obtain ⟨v, h1, h2⟩ := S.val i d h hi
    exact ⟨v, h1, p v F H (Gr.refl ..) S h2⟩
  · cases q
theorem snd_c {d : D} {v : V} (h : ∀ F, Rep c F d v) : SndE c O W (tC v) (eC d) := fun F0 H0 F H σ ρ g r g' S q Q p => by
  cases q
  exact p v F H (Gr.refl ..) S (h F)
theorem snd_int {i : Int} : SndE c O W (tC (.int i)) (eC (.int i)) := snd_c fun _ => rfl
theorem snd_bl {i : Bool} : SndE c O W (tC (.bl i)) (eC (.bl i)) := snd_c fun _ => rfl
theorem snd_str {i : Str} : SndE c O W (tC (.str i)) (eC (.str i)) := snd_c fun _ => rfl
theorem snd_non : SndE c O W (tC .non) (eC .non) := snd_c fun _ => rfl
/-! ### operations of two values -/
def eOp (f : D → D → Option D) (a b : SE) : SE := fun ρ g => bE (a ρ g) fun x g => bE (b ρ g) fun y g => match f x y with
  | some z => some (.ok z, g)
  | none => none
/-- an operation on values does what f says -/
def RV (c : Ct) (r : R2) (f : D → D → Option D) : Prop := ∀ F H x y z vx vy, Ex F H → f x y = some z → Rep c F x vx → Rep c F y vy → ∀ Q : VK, (∀ v F' H', Gp F H F' H' → Rep c F' z v → Q v H') → r vx vy H Q
theorem snd_op {r : R2} {f : D → D → Option D} (ha : SndE c O W ta a) (hb : SndE c O W tb b) (hr : RV c r f) : SndE c O W (tOp r ta tb) (eOp f a b) := fun F0 H0 F H σ ρ g ro g' S q Q p => by
  refine ha.bind S q p fun x g1 vx F1 H1 q1 G1 S1 rx => ?_
  refine hb.bind S1 q1 (p.gr G1) fun y g2 vy F2 H2 q2 G2 S2 ry => ?_
  cases z : f x y with
  | none =>
    simp only [z] at q2
    cases q2
  | some d =>
    simp only [z] at q2
    cases q2
    exact hr F2 H2 x y d vx vy S2.ex z (rx.mono G2.ex) ry Q fun v F' H' P rz => p v F' H' ((G1.trans G2).trans P.gr) (S2.pure P) rz
def eUn (f : D → Option D) (a : SE) : SE := fun ρ g => bE (a ρ g) fun x g => match f x with
  | some z => some (.ok z, g)
  | none => none
def RU (c : Ct) (r : V → Hp → VK → Prop) (f : D → Option D) : Prop := ∀ F H x z vx, Ex F H → f x = some z → Rep c F x vx → ∀ Q : VK, (∀ v F' H', Gp F H F' H' → Rep c F' z v → Q v H') → r vx H Q
theorem snd_un {r : V → Hp → VK → Prop} {f : D → Option D} (ha : SndE c O W ta a) (hr : RU c r f) : SndE c O W (tUn r ta) (eUn f a) := fun F0 H0 F H σ ρ g ro g' S q Q p => by
  refine ha.bind S q p fun x g1 vx F1 H1 q1 G1 S1 rx => ?_
  cases z : f x with
  | none =>
    simp only [z] at q1
    cases q1
  | some d =>
    simp only [z] at q1
    cases q1
    exact hr F1 H1 x d vx S1.ex z rx Q fun v F' H' P rz => p v F' H' (G1.trans P.gr) (S1.pure P) rz
/-! the operations -/
def fI (C : Int → Int → Bool) (h : Int → Int → Int) : D → D → Option D
  | .int i, .int j => if C i j = true then some (.int (h i j)) else none
  | _, _ => none
def fI0 (h : Int → Int → Int) : D → D → Option D
  | .int i, .int j => some (.int (h i j))
  | _, _ => none
def fB0 (h : Int → Int → Bool) : D → D → Option D
  | .int i, .int j => some (.bl (h i j))
  | _, _ => none
theorem rv_I {C : Int → Int → Prop} {C' : Int → Int → Bool} {h : Int → Int → Int} (k : ∀ i j, C' i j = true → C i j) : RV c (rI C fun i j => .int (h i j)) (fI C' h) := fun F H x y z vx vy ex q rx ry Q p => by
  unfold fI at q
  split at q
  · rename_i i j
    split at q
    · rename_i hc
      cases q
      cases rx
      cases ry
      exact ⟨i, j, rfl, rfl, k i j hc, p _ F H (.refl ex) rfl⟩
    · cases q
  · cases q
theorem rv_I0 {h : Int → Int → Int} : RV c (rI0 fun i j => .int (h i j)) (fI0 h) := fun F H x y z vx vy ex q rx ry Q p => by
  unfold fI0 at q
  split at q
  · rename_i i j
    cases q
    cases rx
    cases ry
    exact ⟨i, j, rfl, rfl, p _ F H (.refl ex) rfl⟩
  · cases q
theorem rv_B0 {h : Int → Int → Bool} : RV c (rI0 fun i j => .bl (h i j)) (fB0 h) := fun F H x y z vx vy ex q rx ry Q p => by
  unfold fB0 at q
  split at q
  · rename_i i j
    cases q
    cases rx
    cases ry
    exact ⟨i, j, rfl, rfl, p _ F H (.refl ex) rfl⟩
  · cases q
def cMod (_ j : Int) : Bool := decide (0 < j)
def cDiv (_ j : Int) : Bool := decide (0 < j) && decide (j.natAbs.log2 < 9000)
def lt64 (i : Int) : Bool := decide (i.natAbs.log2 < 64)
theorem lt64_ok {i : Int} (h : lt64 i = true) : i.natAbs < 2 ^ 64 := by
  have h := of_decide_eq_true h
  by_cases z : i.natAbs = 0
  · rw [z]; decide
  · exact (Nat.log2_lt z).mp h
theorem lt64_of {i : Int} (h : i.natAbs < 2 ^ 64) : lt64 i = true := by
  refine decide_eq_true ?_
  by_cases z : i.natAbs = 0
  · rw [z]; decide
  · exact (Nat.log2_lt z).mpr h
def cMul (i j : Int) : Bool := lt64 i || lt64 j || decide (i.natAbs.log2 + j.natAbs.log2 < 20000)
def cPow (i j : Int) : Bool := decide (0 ≤ j) && (decide (j ≤ 1000) && lt64 i)
end
def CMulX (i j : Int) : Prop := IntMulOk i j
section
open PyProof.Rows
theorem intBits_le (x : Int) : Builtin.Int.intBits x ≤ x.natAbs.log2 + 1 := by
  unfold Builtin.Int.intBits
  split <;> omega
theorem intBits_64 {x : Int} (h : x.natAbs < 2 ^ 64) : Builtin.Int.intBits x ≤ 64 := by
  have b := intBits_le x
  by_cases z : x.natAbs = 0
  · unfold Builtin.Int.intBits
    split <;> simp_all
  · have : x.natAbs.log2 < 64 := (Nat.log2_lt z).mpr h
    omega
theorem mulOk_swap {i j : Int} (h : IntMulOk i j) : IntMulOk j i := by
  unfold IntMulOk at h ⊢
  intro z
  apply h
  rw [Bool.and_eq_true] at z ⊢
  refine ⟨Bool.and_eq_true_iff.mpr ⟨(Bool.and_eq_true_iff.mp z.1).2, (Bool.and_eq_true_iff.mp z.1).1⟩, ?_⟩
  rw [Int.add_comm]
  exact z.2
theorem cMul_ok {i j : Int} (h : cMul i j = true) : CMulX i j := by
  unfold cMul at h
  rw [Bool.or_eq_true, Bool.or_eq_true] at h
  rcases h with (h | h) | h
  · exact (show IntMulOk i j from IntMulOk.of_left (intBits_64 (lt64_ok h)))
  · exact (show IntMulOk i j from mulOk_swap (IntMulOk.of_left (intBits_64 (lt64_ok h))))
  · exact CMulW.ok (show i.natAbs.log2 + j.natAbs.log2 < 1000000 from Nat.lt_trans (of_decide_eq_true h) (by decide))
theorem op_mulX {X : Cx} : OpR X (binaryOp .Mult) (rI CMulX fun i j => .int (i * j)) := opI fun _ _ _ _ _ _ _ hc q => mul_int q (show IntMulOk _ _ from hc)
end

section
variable {c : Ct} {X : Cx} {O : List Nat} {W : WX} {te ta tb tc : TE} {e a b : SE}
theorem snd_add (ha : SndE c O W ta a) (hb : SndE c O W tb b) : SndE c O W (tOp (rI0 fun i j => .int (i + j)) ta tb) (eOp (fI0 fun i j => i + j) a b) := snd_op ha hb rv_I0
theorem snd_sub (ha : SndE c O W ta a) (hb : SndE c O W tb b) : SndE c O W (tOp (rI0 fun i j => .int (i - j)) ta tb) (eOp (fI0 fun i j => i - j) a b) := snd_op ha hb rv_I0
theorem snd_mul (ha : SndE c O W ta a) (hb : SndE c O W tb b) : SndE c O W (tOp (rI CMulX fun i j => .int (i * j)) ta tb) (eOp (fI cMul fun i j => i * j) a b) := snd_op ha hb (rv_I fun _ _ h => cMul_ok h)
theorem snd_mod (ha : SndE c O W ta a) (hb : SndE c O W tb b) : SndE c O W (tOp (rI (fun _ j => 0 < j) fun i j => .int (i % j)) ta tb) (eOp (fI cMod fun i j => i % j) a b) := snd_op ha hb (rv_I fun _ _ h => of_decide_eq_true h)
theorem snd_fdiv (ha : SndE c O W ta a) (hb : SndE c O W tb b) : SndE c O W (tOp (rI CDivW fun i j => .int (i / j)) ta tb) (eOp (fI cDiv fun i j => i / j) a b) := snd_op ha hb (rv_I fun _ _ h => by
  obtain ⟨h1, h2⟩ := Bool.and_eq_true_iff.mp h
  exact ⟨of_decide_eq_true h1, of_decide_eq_true h2⟩)
theorem snd_pow (ha : SndE c O W ta a) (hb : SndE c O W tb b) : SndE c O W (tOp (rI CPow fun i j => .int (i ^ j.toNat)) ta tb) (eOp (fI cPow fun i j => i ^ j.toNat) a b) := snd_op ha hb (rv_I fun _ _ h => by
  obtain ⟨h1, h2⟩ := Bool.and_eq_true_iff.mp h
  obtain ⟨h2, h3⟩ := Bool.and_eq_true_iff.mp h2
  exact ⟨of_decide_eq_true h1, Int.le_trans (of_decide_eq_true h2) (by decide), lt64_ok h3⟩)
theorem snd_lt (ha : SndE c O W ta a) (hb : SndE c O W tb b) : SndE c O W (tOp (rI0 fun i j => .bl (decide (i < j))) ta tb) (eOp (fB0 fun i j => decide (i < j)) a b) := snd_op ha hb rv_B0
theorem snd_le (ha : SndE c O W ta a) (hb : SndE c O W tb b) : SndE c O W (tOp (rI0 fun i j => .bl (decide (i ≤ j))) ta tb) (eOp (fB0 fun i j => decide (i ≤ j)) a b) := snd_op ha hb rv_B0
theorem snd_gt (ha : SndE c O W ta a) (hb : SndE c O W tb b) : SndE c O W (tOp (rI0 fun i j => .bl (decide (j < i))) ta tb) (eOp (fB0 fun i j => decide (j < i)) a b) := snd_op ha hb rv_B0
theorem snd_ge (ha : SndE c O W ta a) (hb : SndE c O W tb b) : SndE c O W (tOp (rI0 fun i j => .bl (decide (j ≤ i))) ta tb) (eOp (fB0 fun i j => decide (j ≤ i)) a b) := snd_op ha hb rv_B0
def fNeg : D → Option D
  | .int i => some (.int (-i))
  | _ => none
theorem snd_neg (ha : SndE c O W ta a) : SndE c O W (tUn (rU fun i => .int (-i)) ta) (eUn fNeg a) := snd_un ha fun F H x z vx ex q rx Q p => by
  unfold fNeg at q
  split at q
  · rename_i i
    cases q
    cases rx
    exact ⟨i, rfl, p _ F H (.refl ex) rfl⟩
  · cases q
end
/-! ### equality -/
mutual
def toP : D → Option PyData
  | .non => some .none
  | .bl b => some (.bool b)
  | .int i => some (.int i)
  | .str x => some (.str x)
  | .tup ds => (toPs ds).map .tuple
  | .lst ds => (toPs ds).map .list
  | .obj _ _ => none
  | .hand => none
def toPs : List D → Option (List PyData)
  | [] => some []
  | d :: ds => match toP d, toPs ds with
    | some p, some ps => some (p :: ps)
    | _, _ => none
end
def fEqD (x y : D) : Option Bool := match toP x, toP y with
  | some p, some q => if (SeqAt.shaped p && SeqAt.shaped q) = true then some (PyData.eqv p q) else none
  | _, _ => none
def eqB : D → D → Option Bool
  | .int i, .int j => some (i == j)
  | .bl i, .bl j => some (i == j)
  | .str i, .str j => some (decide (i = j))
  | .non, .non => some true
  | .non, .int _ => some false
  | .int _, .non => some false
  | x, y => fEqD x y
def fEq (x y : D) : Option D := (eqB x y).map .bl
def fNe (x y : D) : Option D := (eqB x y).map fun b => .bl (!b)
section
variable {c : Ct} {F F' H : Hp}
mutual
theorem dp_of (e : Ex F H) : ∀ (d : D) (v : V) (p : PyData), Rep c F d v → toP d = some p → Dp c.K H v p
  | .non, _, _, h, q => by cases q; cases h; exact .non
  | .bl _, _, _, h, q => by cases q; cases h; exact .bl _
  | .int _, _, _, h, q => by cases q; cases h; exact .int _
  | .str _, _, _, h, q => by cases q; cases h; exact .str _
  | .tup ds, _, p, ⟨a, vs, h1, h2, h3⟩, q => by
    unfold toP at q
    cases z : toPs ds with
    | none => rw [z] at q; cases q
    | some ps =>
      rw [z] at q
      cases q
      rw [h1]
      exact .tup (ex_t e h2) (dps_of e ds vs ps h3 z)
  | .lst ds, _, p, ⟨a, vs, h1, h2, h3⟩, q => by
    unfold toP at q
    cases z : toPs ds with
    | none => rw [z] at q; cases q
    | some ps =>
      rw [z] at q
      cases q
      rw [h1]
      exact .lst (SqL.of (e _ _ h2)) (dps_of e ds vs ps h3 z)
  | .obj _ _, _, _, _, q => by cases q
  | .hand, _, _, _, q => by cases q
theorem dps_of (e : Ex F H) : ∀ (ds : List D) (vs : List V) (ps : List PyData), Reps c F ds vs → toPs ds = some ps → DpAll c.K H vs ps
  | [], _, _, h, q => by cases q; cases h; exact .nil
  | d :: ds, _, _, ⟨v, r, h1, h2, h3⟩, q => by
    unfold toPs at q
    cases z : toP d with
    | none => rw [z] at q; cases q
    | some p =>
      cases z2 : toPs ds with
      | none => rw [z, z2] at q; cases q
      | some ps =>
        rw [z, z2] at q
        cases q
        rw [h1]
        exact .cons (dp_of e d v p h2 z) (dps_of e ds r ps h3 z2)
end
end
def rEqX (K : PySem.W.Frag) : R2 := fun x y H Q => rEq x y H Q ∨ rEqD K x y H Q
def rNeX (K : PySem.W.Frag) : R2 := fun x y H Q => rNe x y H Q ∨ rNeD K x y H Q
theorem op_eqX {X : Cx} (hu : X.A.units + 64 < cLine) : OpR X (compareOp .Eq) (rEqX X.K) := fun pins s σ H x y v u Q I rx ry h => by
  rcases h with h | h
  · exact op_eq pins s σ H x y v u Q I rx ry h
  · exact op_eqD hu pins s σ H x y v u Q I rx ry h
theorem op_neX {X : Cx} (hu : X.A.units + 64 < cLine) : OpR X (compareOp .NotEq) (rNeX X.K) := fun pins s σ H x y v u Q I rx ry h => by
  rcases h with h | h
  · exact op_ne pins s σ H x y v u Q I rx ry h
  · exact op_neD hu pins s σ H x y v u Q I rx ry h
theorem scal_case {c : Ct} {F : Hp} {x y : D} {b : Bool} {vx vy : V} (q : eqB x y = some b) (rx : Rep c F x vx) (ry : Rep c F y vy) : (scal vx vy = true ∧ b = decide (vx = vy)) ∨ fEqD x y = some b := by
  unfold eqB at q
  split at q
  · cases rx; cases ry; cases q
    exact .inl ⟨rfl, dec_int.symm⟩
  · cases rx; cases ry; cases q
    refine .inl ⟨rfl, ?_⟩
    rename_i i j
    cases i <;> cases j <;> rfl
  · cases rx; cases ry; cases q
    refine .inl ⟨rfl, ?_⟩
    simp
  · cases rx; cases ry; cases q; exact .inl ⟨rfl, rfl⟩
  · cases rx; cases ry; cases q; exact .inl ⟨rfl, rfl⟩
  · cases rx; cases ry; cases q; exact .inl ⟨rfl, rfl⟩
  · exact .inr q
theorem fEqD_ok {x y : D} {b : Bool} (q : fEqD x y = some b) : ∃ p r, toP x = some p ∧ toP y = some r ∧ SeqAt.shaped p = true ∧ SeqAt.shaped r = true ∧ b = PyData.eqv p r := by
  unfold fEqD at q
  cases z : toP x with
  | none => rw [z] at q; cases q
  | some p =>
    cases z2 : toP y with
    | none => rw [z, z2] at q; cases q
    | some r =>
      rw [z, z2] at q
      simp only at q
      split at q
      · rename_i h
        obtain ⟨h1, h2⟩ := Bool.and_eq_true_iff.mp h
        cases q
        exact ⟨p, r, rfl, rfl, h1, h2, rfl⟩
      · cases q
theorem rv_eq {c : Ct} : RV c (rEqX c.K) fEq := fun F H x y z vx vy ex q rx ry Q p => by
  unfold fEq at q
  cases k : eqB x y with
  | none => rw [k] at q; cases q
  | some b =>
    rw [k] at q
    cases q
    rcases scal_case k rx ry with ⟨h1, h2⟩ | h
    · exact .inl ⟨h1, p _ F H (.refl ex) (by rw [h2]; rfl)⟩
    · obtain ⟨d, e, h1, h2, h3, h4, h5⟩ := fEqD_ok h
      exact .inr ⟨d, e, dp_of ex x vx d rx h1, dp_of ex y vy e ry h2, h3, h4, p _ F H (.refl ex) (by rw [h5]; rfl)⟩
theorem rv_ne {c : Ct} : RV c (rNeX c.K) fNe := fun F H x y z vx vy ex q rx ry Q p => by
  unfold fNe at q
  cases k : eqB x y with
  | none => rw [k] at q; cases q
  | some b =>
    rw [k] at q
    cases q
    rcases scal_case k rx ry with ⟨h1, h2⟩ | h
    · exact .inl ⟨h1, p _ F H (.refl ex) (by rw [h2]; rfl)⟩
    · obtain ⟨d, e, h1, h2, h3, h4, h5⟩ := fEqD_ok h
      exact .inr ⟨d, e, dp_of ex x vx d rx h1, dp_of ex y vy e ry h2, h3, h4, p _ F H (.refl ex) (by rw [h5]; rfl)⟩
section
variable {c : Ct} {O : List Nat} {W : WX} {ta tb : TE} {a b : SE}
theorem snd_eq (ha : SndE c O W ta a) (hb : SndE c O W tb b) : SndE c O W (tOp (rEqX c.K) ta tb) (eOp fEq a b) := snd_op ha hb rv_eq
theorem snd_ne (ha : SndE c O W ta a) (hb : SndE c O W tb b) : SndE c O W (tOp (rNeX c.K) ta tb) (eOp fNe a b) := snd_op ha hb rv_ne
/-- is None -/
def fIsN (x y : D) : Option D := match x, y with
  | .non, .non => some (.bl true)
  | .hand, _ => none
  | _, .non => some (.bl false)
  | _, _ => none
def fNotN (x y : D) : Option D := match x, y with
  | .non, .non => some (.bl false)
  | .hand, _ => none
  | _, .non => some (.bl true)
  | _, _ => none
theorem rep_non {c : Ct} {F : Hp} {x : D} {v : V} (h : Rep c F x v) (k : x ≠ .non) : v ≠ .non := by
  intro e
  subst e
  cases x with
  | non => exact k rfl
  | bl b => cases h
  | int i => cases h
  | str i => cases h
  | tup ds => obtain ⟨a, vs, z, _⟩ := h; cases z
  | lst ds => obtain ⟨a, vs, z, _⟩ := h; cases z
  | obj n fs => obtain ⟨a, dx, vs, z, _⟩ := h; cases z
  | hand => obtain ⟨a, _, z⟩ := h; cases z
theorem rv_isN : RV c rIsN fIsN := fun F H x y z vx vy ex q rx ry Q p => by
  unfold fIsN at q
  split at q
  · cases q; cases rx; cases ry
    exact ⟨rfl, p _ F H (.refl ex) rfl⟩
  · cases q
  · rename_i h1 h2
    cases q; cases ry
    refine ⟨rfl, p _ F H (.refl ex) ?_⟩
    rw [decide_eq_false (rep_non rx (fun e => h1 e))]
    rfl
  · cases q
theorem rv_notN : RV c rNotN fNotN := fun F H x y z vx vy ex q rx ry Q p => by
  unfold fNotN at q
  split at q
  · cases q; cases rx; cases ry
    exact ⟨rfl, p _ F H (.refl ex) rfl⟩
  · cases q
  · rename_i h1 h2
    cases q; cases ry
    refine ⟨rfl, p _ F H (.refl ex) ?_⟩
    rw [decide_eq_false (rep_non rx (fun e => h1 e))]
    rfl
  · cases q
theorem snd_isN (ha : SndE c O W ta a) : SndE c O W (tOp rIsN ta (tC .non)) (eOp fIsN a (eC .non)) := snd_op ha snd_non rv_isN
theorem snd_notN (ha : SndE c O W ta a) : SndE c O W (tOp rNotN ta (tC .non)) (eOp fNotN a (eC .non)) := snd_op ha snd_non rv_notN
end
end MP

set_option maxRecDepth 100000
set_option maxHeartbeats 1000000
namespace MP
open PySem L2
open Evl (Ex ex_rd ex_l ex_t)
/-! ### tests: a meaning is an SE whose value is a bool -/
def SndT (c : Ct) (O : List Nat) (W : WX) (tt : TT) (e : SE) : Prop := ∀ F0 H0 F H σ ρ g r g', SR c F0 H0 F H σ ρ O g → e ρ g = some (r, g') → ∀ Q : Bool → Hp → Prop,
  (match r with
  | .ok (.bl b) => ∀ F' H', Gr c F H F' H' → SR c F0 H0 F' H' σ ρ O g' → Q b H'
  | .ok _ => True
  | .exc n fs => PostX c F0 H0 σ ρ O W F H n fs g') → (match r with
  | .ok (.bl _) => True
  | .ok _ => False
  | .exc _ _ => True) → tt σ H Q
/-- the bool of a meaning, none if it gives anything else -/
def onlyB (e : SE) : SE := fun ρ g => match e ρ g with
  | some (.ok (.bl b), g') => some (.ok (.bl b), g')
  | some (.exc n f, g') => some (.exc n f, g')
  | _ => none
def PostT (c : Ct) (F0 H0 : Hp) (σ : St) (ρ : Env) (O : List Nat) (W : WX) (F H : Hp) (r : Out) (g' : G) (Q : Bool → Hp → Prop) : Prop := match r with
  | .ok (.bl b) => ∀ F' H', Gr c F H F' H' → SR c F0 H0 F' H' σ ρ O g' → Q b H'
  | .ok _ => True
  | .exc n fs => PostX c F0 H0 σ ρ O W F H n fs g'
/-- tt tests as e says; e gives bools alone -/
def SndB (c : Ct) (O : List Nat) (W : WX) (tt : TT) (e : SE) : Prop := ∀ F0 H0 F H σ ρ g r g', SR c F0 H0 F H σ ρ O g → e ρ g = some (r, g') → ∀ Q : Bool → Hp → Prop, PostT c F0 H0 σ ρ O W F H r g' Q → tt σ H Q
section
variable {c : Ct} {F0 H0 F H F' H' : Hp} {σ : St} {ρ : Env} {O : List Nat} {W : WX} {g g' : G} {te ta tb tc : TE} {tt tu : TT} {e a b : SE}
theorem PostT.gr {r Q} (G : Gr c F H F' H') (p : PostT c F0 H0 σ ρ O W F H r g Q) : PostT c F0 H0 σ ρ O W F' H' r g Q := by
  cases r with
  | ok d =>
    cases d with
    | bl b => exact fun F2 H2 G2 S => p F2 H2 (G.trans G2) S
    | _ => trivial
  | exc n fs => exact PostX.gr G p
theorem onlyB_some {ρ g r g'} (q : onlyB e ρ g = some (r, g')) : e ρ g = some (r, g') ∧ ((∃ b, r = .ok (.bl b)) ∨ ∃ n f, r = .exc n f) := by
  unfold onlyB at q
  split at q
  · rename_i b g2 h
    cases q
    exact ⟨h, .inl ⟨b, rfl⟩⟩
  · rename_i n f g2 h
    cases q
    exact ⟨h, .inr ⟨n, f, rfl⟩⟩
  · cases q
/-- a value that is a bool, as a test -/
theorem snd_test (h : SndE c O W te e) : SndB c O W (tTest te) (onlyB e) := fun F0 H0 F H σ ρ g r g' S q Q p => by
  obtain ⟨q, k⟩ := onlyB_some q
  rcases k with ⟨b, rfl⟩ | ⟨n, f, rfl⟩
  · exact h _ _ _ _ _ _ _ _ _ S q _ fun v F' H' G S' rv => ⟨b, rv, p F' H' G S'⟩
  · exact h _ _ _ _ _ _ _ _ _ S q _ p
theorem snd_tB (h : SndE c O W te e) : SndB c O W (tB te) (onlyB e) := fun F0 H0 F H σ ρ g r g' S q Q p => by
  obtain ⟨q, k⟩ := onlyB_some q
  rcases k with ⟨b, rfl⟩ | ⟨n, f, rfl⟩
  · exact h _ _ _ _ _ _ _ _ _ S q _ fun v F' H' G S' rv => ⟨b, rv, p F' H' G S'⟩
  · exact h _ _ _ _ _ _ _ _ _ S q _ p
/-- truth of a value -/
def truth : D → Option Bool
  | .non => some false
  | .bl b => some b
  | .int i => some (i != 0)
  | .tup ds => some (!ds.isEmpty)
  | .lst ds => some (!ds.isEmpty)
  | _ => none
def eTru (e : SE) : SE := fun ρ g => bE (e ρ g) fun d g => match truth d with
  | some b => some (.ok (.bl b), g)
  | none => none
theorem bE_some {x : R} {k : D → G → R} {r : Out} {g' : G} (q : bE x k = some (r, g')) : (∃ d g1, x = some (.ok d, g1) ∧ k d g1 = some (r, g')) ∨ ∃ n f, x = some (.exc n f, g') ∧ r = .exc n f := by
  unfold bE at q
  split at q
  · exact .inl ⟨_, _, rfl, q⟩
  · cases q
    exact .inr ⟨_, _, rfl, rfl⟩
  · cases q
theorem reps_empty {ds : List D} {vs : List V} {F : Hp} (h : Reps c F ds vs) : vs.isEmpty = ds.isEmpty := by
  have l := h.len
  cases ds <;> cases vs <;> simp_all
theorem truV_of {d : D} {v : V} {b : Bool} (e : Ex F H) (q : truth d = some b) (h : Rep c F d v) : TruV c.K v H b := by
  cases d with
  | non => cases q; cases h; exact rfl
  | bl i => cases q; cases h; exact rfl
  | int i => cases q; cases h; exact rfl
  | tup ds =>
    cases q
    obtain ⟨a, vs, rfl, h2, h3⟩ := h
    exact .inr (.inl ⟨vs, ex_t e h2, by rw [reps_empty h3]⟩)
  | lst ds =>
    cases q
    obtain ⟨a, vs, rfl, h2, h3⟩ := h
    exact .inl ⟨vs, SqL.of (e _ _ h2), by rw [reps_empty h3]⟩
  | str _ => cases q
  | obj _ _ => cases q
  | hand => cases q
theorem snd_tru (h : SndE c O W te e) : SndB c O W (tTru c.K te) (eTru e) := fun F0 H0 F H σ ρ g r g' S q Q p => by
  unfold eTru at q
  rcases bE_some q with ⟨d, g1, q1, q2⟩ | ⟨n, f, q1, rfl⟩
  · cases z : truth d with
    | none => simp only [z] at q2; cases q2
    | some b =>
      simp only [z] at q2
      cases q2
      exact h _ _ _ _ _ _ _ _ _ S q1 _ fun v F' H' G S' rv => ⟨b, truV_of S'.ex z rv, p F' H' G S'⟩
  · exact h _ _ _ _ _ _ _ _ _ S q1 _ p
def eNot (e : SE) : SE := fun ρ g => match e ρ g with
  | some (.ok (.bl b), g') => some (.ok (.bl (!b)), g')
  | some (.exc n f, g') => some (.exc n f, g')
  | _ => none
def eAnd (a b : SE) : SE := fun ρ g => match a ρ g with
  | some (.ok (.bl true), g') => b ρ g'
  | some (.ok (.bl false), g') => some (.ok (.bl false), g')
  | some (.exc n f, g') => some (.exc n f, g')
  | _ => none
def eOr (a b : SE) : SE := fun ρ g => match a ρ g with
  | some (.ok (.bl false), g') => b ρ g'
  | some (.ok (.bl true), g') => some (.ok (.bl true), g')
  | some (.exc n f, g') => some (.exc n f, g')
  | _ => none
theorem snd_not (h : SndB c O W tt e) : SndB c O W (tNot tt) (eNot e) := fun F0 H0 F H σ ρ g r g' S q Q p => by
  unfold eNot at q
  split at q
  · rename_i b g2 z
    cases q
    exact h _ _ _ _ _ _ _ _ _ S z _ fun F' H' G S' => p F' H' G S'
  · rename_i n f g2 z
    cases q
    exact h _ _ _ _ _ _ _ _ _ S z _ p
  · cases q
theorem snd_and (h : SndB c O W tt a) (k : SndB c O W tu b) : SndB c O W (tAnd tt tu) (eAnd a b) := fun F0 H0 F H σ ρ g r g' S q Q p => by
  unfold eAnd at q
  split at q
  · rename_i g2 z
    refine h _ _ _ _ _ _ _ _ _ S z _ fun F' H' G S' => ?_
    show (if true = true then tu σ H' Q else Q false H')
    rw [if_pos rfl]
    exact k _ _ _ _ _ _ _ _ _ S' q _ (p.gr G)
  · rename_i g2 z
    cases q
    refine h _ _ _ _ _ _ _ _ _ S z _ fun F' H' G S' => ?_
    show (if false = true then tu σ H' Q else Q false H')
    rw [if_neg Bool.false_ne_true]
    exact p F' H' G S'
  · rename_i n f g2 z
    cases q
    exact h _ _ _ _ _ _ _ _ _ S z _ p
  · cases q
theorem snd_or (h : SndB c O W tt a) (k : SndB c O W tu b) : SndB c O W (tOr tt tu) (eOr a b) := fun F0 H0 F H σ ρ g r g' S q Q p => by
  unfold eOr at q
  split at q
  · rename_i g2 z
    refine h _ _ _ _ _ _ _ _ _ S z _ fun F' H' G S' => ?_
    show (if false = true then Q true H' else tu σ H' Q)
    rw [if_neg Bool.false_ne_true]
    exact k _ _ _ _ _ _ _ _ _ S' q _ (p.gr G)
  · rename_i g2 z
    cases q
    refine h _ _ _ _ _ _ _ _ _ S z _ fun F' H' G S' => ?_
    show (if true = true then Q true H' else tu σ H' Q)
    rw [if_pos rfl]
    exact p F' H' G S'
  · rename_i n f g2 z
    cases q
    exact h _ _ _ _ _ _ _ _ _ S z _ p
  · cases q
/-- not, and, or as values -/
theorem snd_notV (h : SndE c O W te e) : SndE c O W (tNotV te) (eNot e) := fun F0 H0 F H σ ρ g r g' S q Q p => by
  unfold eNot at q
  split at q
  · rename_i b g2 z
    cases q
    exact h _ _ _ _ _ _ _ _ _ S z _ fun v F' H' G S' rv => ⟨b, rv, p _ F' H' G S' rfl⟩
  · rename_i n f g2 z
    cases q
    exact h _ _ _ _ _ _ _ _ _ S z _ p
  · cases q
theorem snd_andV (h : SndE c O W ta a) (k : SndE c O W tb b) : SndE c O W (tAndV ta tb) (eAnd a b) := fun F0 H0 F H σ ρ g r g' S q Q p => by
  unfold eAnd at q
  split at q
  · rename_i g2 z
    refine h _ _ _ _ _ _ _ _ _ S z _ fun v F' H' G S' rv => ⟨true, rv, ?_⟩
    rw [if_pos rfl]
    exact k _ _ _ _ _ _ _ _ _ S' q _ (p.gr G)
  · rename_i g2 z
    cases q
    refine h _ _ _ _ _ _ _ _ _ S z _ fun v F' H' G S' rv => ⟨false, rv, ?_⟩
    rw [if_neg Bool.false_ne_true]
    exact p _ F' H' G S' rfl
  · rename_i n f g2 z
    cases q
    exact h _ _ _ _ _ _ _ _ _ S z _ p
  · cases q
theorem snd_orV (h : SndE c O W ta a) (k : SndE c O W tb b) : SndE c O W (tOrV ta tb) (eOr a b) := fun F0 H0 F H σ ρ g r g' S q Q p => by
  unfold eOr at q
  split at q
  · rename_i g2 z
    refine h _ _ _ _ _ _ _ _ _ S z _ fun v F' H' G S' rv => ⟨false, rv, ?_⟩
    rw [if_neg Bool.false_ne_true]
    exact k _ _ _ _ _ _ _ _ _ S' q _ (p.gr G)
  · rename_i g2 z
    cases q
    refine h _ _ _ _ _ _ _ _ _ S z _ fun v F' H' G S' rv => ⟨true, rv, ?_⟩
    rw [if_pos rfl]
    exact p _ F' H' G S' rfl
  · rename_i n f g2 z
    cases q
    exact h _ _ _ _ _ _ _ _ _ S z _ p
  · cases q
/-- a if t else b -/
def eIf (t a b : SE) : SE := fun ρ g => match t ρ g with
  | some (.ok (.bl true), g') => a ρ g'
  | some (.ok (.bl false), g') => b ρ g'
  | some (.exc n f, g') => some (.exc n f, g')
  | _ => none
theorem snd_if {t : SE} (h : SndB c O W tt t) (ka : SndE c O W ta a) (kb : SndE c O W tb b) : SndE c O W (tIf tt ta tb) (eIf t a b) := fun F0 H0 F H σ ρ g r g' S q Q p => by
  unfold eIf at q
  split at q
  · rename_i g2 z
    refine h _ _ _ _ _ _ _ _ _ S z _ fun F' H' G S' => ?_
    rw [if_pos rfl]
    exact ka _ _ _ _ _ _ _ _ _ S' q _ (p.gr G)
  · rename_i g2 z
    refine h _ _ _ _ _ _ _ _ _ S z _ fun F' H' G S' => ?_
    rw [if_neg Bool.false_ne_true]
    exact kb _ _ _ _ _ _ _ _ _ S' q _ (p.gr G)
  · rename_i n f g2 z
    cases q
    exact h _ _ _ _ _ _ _ _ _ S z _ p
  · cases q
/-! ### arguments -/
inductive OutA where
  | ok (ds : List D) | exc (n : Str) (fs : List (Str × D))
abbrev SA := Env → G → Option (OutA × G)
def PostA (c : Ct) (F0 H0 : Hp) (σ : St) (ρ : Env) (O : List Nat) (W : WX) (F H : Hp) (r : OutA) (g' : G) (Q : List V → Hp → Prop) : Prop := match r with
  | .ok ds => ∀ vs F' H', Gr c F H F' H' → SR c F0 H0 F' H' σ ρ O g' → Reps c F' ds vs → Q vs H'
  | .exc n fs => PostX c F0 H0 σ ρ O W F H n fs g'
def SndA (c : Ct) (O : List Nat) (W : WX) (ta : TA) (e : SA) : Prop := ∀ F0 H0 F H σ ρ g r g', SR c F0 H0 F H σ ρ O g → e ρ g = some (r, g') → ∀ Q, PostA c F0 H0 σ ρ O W F H r g' Q → ta σ H Q
def aNil : SA := fun _ g => some (.ok [], g)
def aCons (a : SE) (r : SA) : SA := fun ρ g => match a ρ g with
  | some (.ok d, g) => (match r ρ g with
    | some (.ok ds, g) => some (.ok (d :: ds), g)
    | some (.exc n f, g) => some (.exc n f, g)
    | none => none)
  | some (.exc n f, g) => some (.exc n f, g)
  | none => none
theorem snd_anil : SndA c O W tNil aNil := fun F0 H0 F H σ ρ g r g' S q Q p => by
  cases q
  exact p [] F H (Gr.refl ..) S rfl
theorem snd_acons {tr : TA} {r : SA} (h : SndE c O W ta a) (k : SndA c O W tr r) : SndA c O W (tCons ta tr) (aCons a r) := fun F0 H0 F H σ ρ g o g' S q Q p => by
  unfold aCons at q
  cases z : a ρ g with
  | none => rw [z] at q; cases q
  | some y =>
    obtain ⟨oa, g1⟩ := y
    rw [z] at q
    cases oa with
    | exc n f =>
      cases q
      exact h _ _ _ _ _ _ _ _ _ S z _ p
    | ok d =>
      refine h _ _ _ _ _ _ _ _ _ S z _ fun v F1 H1 G1 S1 rv => ?_
      cases z2 : r ρ g1 with
      | none => simp only [z2] at q; cases q
      | some y2 =>
        obtain ⟨or, g2⟩ := y2
        simp only [z2] at q
        cases or with
        | exc n f =>
          cases q
          exact k _ _ _ _ _ _ _ _ _ S1 z2 _ (PostX.gr G1 p)
        | ok ds =>
          cases q
          exact k _ _ _ _ _ _ _ _ _ S1 z2 _ fun vs F2 H2 G2 S2 rs => p _ F2 H2 (G1.trans G2) S2 ⟨v, vs, rfl, rv.mono G2.ex, rs⟩
/-- a meaning of the arguments' values -/
def eArgs (f : List D → G → R) (r : SA) : SE := fun ρ g => match r ρ g with
  | some (.ok ds, g) => f ds g
  | some (.exc n fs, g) => some (.exc n fs, g)
  | none => none
theorem SndA.bind {tr : TA} {r : SA} (h : SndA c O W tr r) {f : List D → G → R} {o : Out} (S : SR c F0 H0 F H σ ρ O g) (q : eArgs f r ρ g = some (o, g')) {Q : VK} {Q' : List V → Hp → Prop} (p : PostE c F0 H0 σ ρ O W F H o g' Q)
    (n : ∀ ds g1 vs F1 H1, f ds g1 = some (o, g') → Gr c F H F1 H1 → SR c F0 H0 F1 H1 σ ρ O g1 → Reps c F1 ds vs → Q' vs H1) : tr σ H Q' := by
  unfold eArgs at q
  cases z : r ρ g with
  | none => rw [z] at q; cases q
  | some y =>
    obtain ⟨oa, g1⟩ := y
    rw [z] at q
    cases oa with
    | exc m f =>
      cases q
      exact h _ _ _ _ _ _ _ _ _ S z _ p
    | ok ds => exact h _ _ _ _ _ _ _ _ _ S z _ fun vs F1 H1 G1 S1 rs => n ds g1 vs F1 H1 q G1 S1 rs
/-- a pure operation on the arguments' values -/
def pf (f : List D → Option D) : List D → G → R := fun ds g => match f ds with
  | some d => some (.ok d, g)
  | none => none
def RC (c : Ct) (r : List V → Hp → VK → Prop) (f : List D → Option D) : Prop := ∀ F H ds z vs, Ex F H → f ds = some z → Reps c F ds vs → ∀ Q : VK, (∀ v F' H', Gp F H F' H' → Rep c F' z v → Q v H') → r vs H Q
theorem snd_cb {r : List V → Hp → VK → Prop} {f : List D → Option D} {tr : TA} {ar : SA} (h : SndA c O W tr ar) (hr : RC c r f) : SndE c O W (tCB r tr) (eArgs (pf f) ar) := fun F0 H0 F H σ ρ g o g' S q Q p => by
  refine h.bind S q p fun ds g1 vs F1 H1 q1 G1 S1 rs => ?_
  unfold pf at q1
  cases z : f ds with
  | none => rw [z] at q1; cases q1
  | some d =>
    rw [z] at q1
    cases q1
    exact hr F1 H1 ds d vs S1.ex z rs Q fun v F' H' P rv => p v F' H' (G1.trans P.gr) (S1.pure P) rv
/-! displays -/
def szB (n : Nat) : Bool := decide (n.log2 < 20)
theorem szB_lt {n : Nat} (h : szB n = true) : n < 2 ^ 20 := by
  have h := of_decide_eq_true h
  by_cases z : n = 0
  · rw [z]; decide
  · exact (Nat.log2_lt z).mp h
theorem szB_of {n : Nat} (h : n < 2 ^ 20) : szB n = true := by
  refine decide_eq_true ?_
  by_cases z : n = 0
  · rw [z]; decide
  · exact (Nat.log2_lt z).mpr h
theorem szB_ok {n : Nat} (h : szB n = true) : n ≤ sizeLine := Nat.le_trans (Nat.le_of_lt (szB_lt h)) (by decide)
def fTup (ds : List D) : Option D := if szB ds.length = true then some (.tup ds) else none
def fLst (ds : List D) : Option D := if szB ds.length = true then some (.lst ds) else none
theorem snd_tup {tr : TA} {ar : SA} (h : SndA c O W tr ar) : SndE c O W (tTup tr) (eArgs (pf fTup) ar) := fun F0 H0 F H σ ρ g o g' S q Q p => by
  refine h.bind S q p fun ds g1 vs F1 H1 q1 G1 S1 rs => ?_
  unfold pf fTup at q1
  by_cases z : szB ds.length = true
  · rw [if_pos z] at q1
    cases q1
    refine ⟨by rw [rs.len]; exact szB_ok z, fun a ha => ?_⟩
    have P := gp_new (o := .tup vs) S1.ex ha
    exact p _ _ _ (G1.trans P.gr) (S1.pure P) ⟨a, vs, rfl, SqT.of upd_same, rs.mono P.ex⟩
  · rw [if_neg z] at q1
    cases q1
/-- a new list that is nobody else's -/
def PostL (c : Ct) (F0 H0 : Hp) (σ : St) (ρ : Env) (O : List Nat) (W : WX) (F H : Hp) (r : Out) (g' : G) (Q : VK) : Prop := match r with
  | .ok (.lst ds) => ∀ p vs F' H', Gr c F H F' H' → SR c F0 H0 F' H' σ ρ O g' → H p = none → F' p = none → c.hd ≠ some p → H' p = some (.lst vs) → Reps c F' ds vs → Q (.ref p) H'
  | .ok _ => True
  | .exc n fs => PostX c F0 H0 σ ρ O W F H n fs g'
def SndL (c : Ct) (O : List Nat) (W : WX) (te : TE) (e : SE) : Prop := ∀ F0 H0 F H σ ρ g r g', SR c F0 H0 F H σ ρ O g → e ρ g = some (r, g') → ∀ Q, PostL c F0 H0 σ ρ O W F H r g' Q → te σ H Q
theorem hd_ne {p : Addr} (S : SR c F0 H0 F H σ ρ O g) (h : H p = none) : c.hd ≠ some p := fun e => by
  have z := S.hand
  unfold HandAt at z
  rw [e] at z
  obtain ⟨_, vs, z, _⟩ := z
  rw [h] at z
  cases z
/-- an open list frozen -/
theorem gr_freeze {p : Addr} {o : HO} (G : Gr c F H F' H') (h : H p = none) (hf : F' p = none) : Gr c F H (upd F' p o) H' where
  ex := G.ex.trans (Ex.new hf)
  keep := G.keep
  new := fun a z k => by
    by_cases q : a = p
    · subst q
      exact h
    · rw [upd_ne q] at k
      exact G.new a z k
  dom := G.dom
theorem hand_freeze {p : Addr} {o : HO} (h : HandAt c F' H' g) (hf : F' p = none) (hp : c.hd ≠ some p) : HandAt c (upd F' p o) H' g := by
  unfold HandAt at h ⊢
  cases q : c.hd with
  | none => trivial
  | some a =>
    rw [q] at h
    obtain ⟨h1, vs, h2, h3⟩ := h
    have ne : a ≠ p := fun e => hp (by rw [q, e])
    exact ⟨by rw [upd_ne ne]; exact h1, vs, h2, h3.mono (Ex.new hf)⟩
/-- a new list as a value -/
theorem snd_l (h : SndL c O W te e) : SndE c O W te e := fun F0 H0 F H σ ρ g r g' S q Q p => by
  refine h _ _ _ _ _ _ _ _ _ S q _ ?_
  cases r with
  | exc n fs => exact p
  | ok d =>
    cases d with
    | lst ds =>
      intro a vs F1 H1 G1 S1 h0 hf hd hp rs
      have G2 := gr_freeze (o := .lst vs) G1 h0 hf
      exact p _ _ _ G2 (S.next G2 (S1.ex.frz hp) (hand_freeze S1.hand hf hd)) ⟨a, vs, rfl, upd_same, rs.mono (Ex.new hf)⟩
    | _ => trivial
theorem snd_lst {tr : TA} {ar : SA} (h : SndA c O W tr ar) : SndL c O W (tLst tr) (eArgs (pf fLst) ar) := fun F0 H0 F H σ ρ g o g' S q Q p => by
  unfold eArgs at q
  cases z : ar ρ g with
  | none => rw [z] at q; cases q
  | some y =>
    obtain ⟨oa, g1⟩ := y
    rw [z] at q
    cases oa with
    | exc m f =>
      cases q
      exact h _ _ _ _ _ _ _ _ _ S z _ p
    | ok ds =>
      refine h _ _ _ _ _ _ _ _ _ S z _ fun vs F1 H1 G1 S1 rs => ?_
      simp only [pf, fLst] at q
      by_cases k : szB ds.length = true
      · rw [if_pos k] at q
        cases q
        refine ⟨by rw [rs.len]; exact szB_ok k, fun a ha => ?_⟩
        have P := gp_open (o := .lst vs) S1.ex ha
        exact p a vs _ _ (G1.trans P.gr) (S1.pure P) (G1.dom a ha) (ex_none S1.ex ha) (hd_ne S1 ha) upd_same (rs.mono P.ex)
      · rw [if_neg k] at q
        cases q
/-! ### borrowed values: what may be read just now -/
def BRep (c : Ct) (F H : Hp) (d : D) (v : V) : Prop := Rep c F d v ∨ ∃ p ds vs, d = .lst ds ∧ v = .ref p ∧ c.hd ≠ some p ∧ H p = some (.lst vs) ∧ Reps c F ds vs
theorem BRep.gr {d v} (G : Gr c F H F' H') (h : BRep c F H d v) : BRep c F' H' d v := by
  rcases h with h | ⟨p, ds, vs, h1, h2, h3, h4, h5⟩
  · exact .inl (h.mono G.ex)
  · exact .inr ⟨p, ds, vs, h1, h2, h3, G.keep _ _ h4 h3, h5.mono G.ex⟩
theorem BRep.lst {ds : List D} {v} (ex : Ex F H) (h : BRep c F H (.lst ds) v) : ∃ p vs, v = .ref p ∧ H p = some (.lst vs) ∧ Reps c F ds vs := by
  rcases h with ⟨a, vs, h1, h2, h3⟩ | ⟨p, ds', vs, h1, h2, h3, h4, h5⟩
  · exact ⟨a, vs, h1, ex _ _ h2, h3⟩
  · cases h1
    exact ⟨p, vs, h2, h4, h5⟩
theorem BRep.tup {ds : List D} {v} (ex : Ex F H) (h : BRep c F H (.tup ds) v) : ∃ p vs, v = .ref p ∧ SqT c.K H p vs ∧ Reps c F ds vs := by
  rcases h with ⟨a, vs, h1, h2, h3⟩ | ⟨p, ds', vs, h1, _⟩
  · exact ⟨a, vs, h1, ex_t ex h2, h3⟩
  · cases h1
def PostR (c : Ct) (F0 H0 : Hp) (σ : St) (ρ : Env) (O : List Nat) (W : WX) (F H : Hp) (r : Out) (g' : G) (Q : VK) : Prop := match r with
  | .ok d => ∀ v F' H', Gr c F H F' H' → SR c F0 H0 F' H' σ ρ O g' → BRep c F' H' d v → Q v H'
  | .exc n fs => PostX c F0 H0 σ ρ O W F H n fs g'
def SndR (c : Ct) (O : List Nat) (W : WX) (te : TE) (e : SE) : Prop := ∀ F0 H0 F H σ ρ g r g', SR c F0 H0 F H σ ρ O g → e ρ g = some (r, g') → ∀ Q, PostR c F0 H0 σ ρ O W F H r g' Q → te σ H Q
theorem snd_r (h : SndE c O W te e) : SndR c O W te e := fun F0 H0 F H σ ρ g r g' S q Q p => by
  refine h _ _ _ _ _ _ _ _ _ S q _ ?_
  cases r with
  | ok d => exact fun v F' H' G S' rv => p v F' H' G S' (.inl rv)
  | exc n fs => exact p
/-- a name that may own its list -/
theorem snd_rvar {i : Nat} : SndR c O W (tVar i) (eVar i) := fun F0 H0 F H σ ρ g r g' S q Q p => by
  unfold eVar at q
  split at q
  · rename_i d h
    cases q
    by_cases k : i ∈ O
    · obtain ⟨v, h1, a, ds, vs, h2, h3, h4, h5, h6, h7, h8⟩ := S.own i d h k
      exact ⟨v, h1, p v F H (Gr.refl ..) S (.inr ⟨a, ds, vs, h2, h3, h6, h7, h8⟩)⟩
    · obtain ⟨v, h1, h2⟩ := S.val i d h k
      exact ⟨v, h1, p v F H (Gr.refl ..) S (.inl h2)⟩
  · cases q
theorem SndR.bind (h : SndR c O W te e) {k : D → G → R} {r : Out} (S : SR c F0 H0 F H σ ρ O g) (q : bE (e ρ g) k = some (r, g')) {Q' : VK} (p : ∀ n fs, r = .exc n fs → PostX c F0 H0 σ ρ O W F H n fs g')
    (n : ∀ d g1 v F1 H1, k d g1 = some (r, g') → Gr c F H F1 H1 → SR c F0 H0 F1 H1 σ ρ O g1 → BRep c F1 H1 d v → Q' v H1) : te σ H Q' := by
  rcases bE_some q with ⟨d, g1, q1, q2⟩ | ⟨m, f, q1, rfl⟩
  · exact h _ _ _ _ _ _ _ _ _ S q1 _ fun v F1 H1 G1 S1 x => n d g1 v F1 H1 q2 G1 S1 x
  · exact h _ _ _ _ _ _ _ _ _ S q1 _ (p m f rfl)
theorem PostE.x {r : Out} {Q} (p : PostE c F0 H0 σ ρ O W F H r g' Q) : ∀ n fs, r = .exc n fs → PostX c F0 H0 σ ρ O W F H n fs g' := fun n fs e => by
  subst e
  exact p
/-! an item -/
def fIx : D → D → Option D
  | .lst ds, .int i => atI ds i
  | .tup ds, .int i => atI ds i
  | _, _ => none
theorem atI_reps {ds : List D} {vs : List V} {i : Int} {d : D} (h : Reps c F ds vs) (q : atI ds i = some d) : ∃ v, atI vs i = some v ∧ Rep c F d v := by
  unfold atI at q ⊢
  rw [h.len]
  cases z : ixN ds.length i with
  | none => rw [z] at q; cases q
  | some j =>
    rw [z] at q
    exact h.get q
theorem snd_ix (ha : SndR c O W ta a) (hb : SndE c O W tb b) : SndE c O W (tOp (rIx c.K) ta tb) (eOp fIx a b) := fun F0 H0 F H σ ρ g ro g' S q Q p => by
  refine ha.bind S q p.x fun x g1 vx F1 H1 q1 G1 S1 rx => ?_
  refine hb.bind S1 q1 (p.gr G1) fun y g2 vy F2 H2 q2 G2 S2 ry => ?_
  have rx2 := rx.gr G2
  cases z : fIx x y with
  | none => simp only [z] at q2; cases q2
  | some d =>
    simp only [z] at q2
    cases q2
    have G3 := G1.trans G2
    unfold fIx at z
    split at z
    · rename_i ds i
      cases ry
      obtain ⟨a, vs, h1, h2, h3⟩ := rx2.lst S2.ex
      obtain ⟨v, e1, e2⟩ := atI_reps h3 z
      exact .inl ⟨a, vs, i, v, h1, rfl, SqL.of h2, e1, p v F2 H2 G3 S2 e2⟩
    · rename_i ds i
      cases ry
      obtain ⟨a, vs, h1, h2, h3⟩ := rx2.tup S2.ex
      obtain ⟨v, e1, e2⟩ := atI_reps h3 z
      exact .inr (.inl ⟨a, vs, i, v, h1, rfl, h2, e1, p v F2 H2 G3 S2 e2⟩)
    · cases z
/-! a built-in of one borrowed argument -/
def RB (c : Ct) (r : List V → Hp → VK → Prop) (f : D → Option D) : Prop := ∀ F H d z v, Ex F H → f d = some z → BRep c F H d v → ∀ Q : VK, (∀ v F' H', Gp F H F' H' → Rep c F' z v → Q v H') → r [v] H Q
theorem snd_b1 {r : List V → Hp → VK → Prop} {f : D → Option D} (h : SndR c O W ta a) (hr : RB c r f) : SndE c O W (tCB r (tCons ta tNil)) (eUn f a) := fun F0 H0 F H σ ρ g o g' S q Q p => by
  refine h.bind S q p.x fun x g1 vx F1 H1 q1 G1 S1 rx => ?_
  cases z : f x with
  | none => simp only [z] at q1; cases q1
  | some d =>
    simp only [z] at q1
    cases q1
    exact hr F1 H1 x d vx S1.ex z rx Q fun v F' H' P rv => p v F' H' (G1.trans P.gr) (S1.pure P) rv
def rLenX (K : PySem.W.Frag) : List V → Hp → VK → Prop := fun xs H Q => ∃ p ys, xs = [.ref p] ∧ (SqL K H p ys ∨ SqT K H p ys) ∧ Q (.int ys.length) H
def fLen : D → Option D
  | .lst ds => some (.int ds.length)
  | .tup ds => some (.int ds.length)
  | _ => none
theorem rb_len : RB c (rLenX c.K) fLen := fun F H d z v ex q rx Q p => by
  unfold fLen at q
  split at q
  · cases q
    obtain ⟨a, vs, h1, h2, h3⟩ := rx.lst ex
    exact ⟨a, vs, by rw [h1], .inl (SqL.of h2), p _ F H (.refl ex) (by rw [h3.len]; rfl)⟩
  · cases q
    obtain ⟨a, vs, h1, h2, h3⟩ := rx.tup ex
    exact ⟨a, vs, by rw [h1], .inr h2, p _ F H (.refl ex) (by rw [h3.len]; rfl)⟩
  · cases q
def rTupX (K : PySem.W.Frag) : List V → Hp → VK → Prop := fun xs H Q => ∃ p ys, xs = [.ref p] ∧ ((SqL K H p ys ∧ ∀ l, H l = none → Q (.ref l) (upd H l (.tup ys))) ∨ (SqT K H p ys ∧ Q (.ref p) H))
def fTuple : D → Option D
  | .lst ds => some (.tup ds)
  | .tup ds => some (.tup ds)
  | _ => none
theorem rb_tuple : RB c (rTupX c.K) fTuple := fun F H d z v ex q rx Q p => by
  unfold fTuple at q
  split at q
  · cases q
    obtain ⟨a, vs, h1, h2, h3⟩ := rx.lst ex
    refine ⟨a, vs, by rw [h1], .inl ⟨SqL.of h2, fun l hl => ?_⟩⟩
    have P := gp_new (o := .tup vs) ex hl
    exact p _ _ _ P ⟨l, vs, rfl, SqT.of upd_same, h3.mono P.ex⟩
  · cases q
    rcases rx with rx | ⟨p, ds, vs, h1, _⟩
    · obtain ⟨a, vs, h1, h2, h3⟩ := id rx
      exact ⟨a, vs, by rw [h1], .inr ⟨ex_t ex h2, p _ F H (.refl ex) ⟨a, vs, rfl, h2, h3⟩⟩⟩
    · cases h1
  · cases q
/-- list(x): a new list -/
def rListX (K : PySem.W.Frag) : List V → Hp → VK → Prop := fun xs H Q => ∃ p ys, xs = [.ref p] ∧ (SqL K H p ys ∨ SqT K H p ys) ∧ ∀ l, H l = none → Q (.ref l) (upd H l (.lst ys))
def fList : D → Option D
  | .lst ds => some (.lst ds)
  | .tup ds => some (.lst ds)
  | _ => none
theorem snd_list (h : SndR c O W ta a) : SndL c O W (tCB (rListX c.K) (tCons ta tNil)) (eUn fList a) := fun F0 H0 F H σ ρ g o g' S q Q p => by
  refine h.bind S q (fun n fs e => by subst e; exact p) fun x g1 vx F1 H1 q1 G1 S1 rx => ?_
  have done : ∀ ds vs a, fList x = some (.lst ds) → vx = .ref a → (SqL c.K H1 a vs ∨ SqT c.K H1 a vs) → Reps c F1 ds vs → tNil σ H1 fun xs H2 => rListX c.K (vx :: xs) H2 Q := fun ds vs a z h1 h2 h3 => by
    simp only [z] at q1
    cases q1
    refine ⟨a, vs, by rw [h1], h2, fun l hl => ?_⟩
    have P := gp_open (o := .lst vs) S1.ex hl
    exact p l vs _ _ (G1.trans P.gr) (S1.pure P) (G1.dom l hl) (ex_none S1.ex hl) (hd_ne S1 hl) upd_same (h3.mono P.ex)
  cases x with
  | lst ds =>
    obtain ⟨a, vs, h1, h2, h3⟩ := rx.lst S1.ex
    exact done ds vs a rfl h1 (.inl (SqL.of h2)) h3
  | tup ds =>
    obtain ⟨a, vs, h1, h2, h3⟩ := rx.tup S1.ex
    exact done ds vs a rfl h1 (.inr h2) h3
  | _ => cases q1
/-! int(x), abs(x) -/
def rIntX : List V → Hp → VK → Prop := fun xs H Q => (∃ i, xs = [.int i] ∧ Q (.int i) H) ∨ ∃ k, xs = [.bl k] ∧ Q (.int (if k then 1 else 0)) H
def fInt : D → Option D
  | .int i => some (.int i)
  | .bl b => some (.int (if b then 1 else 0))
  | _ => none
theorem brep_int {i : Int} {v} (h : BRep c F H (.int i) v) : v = .int i := by
  rcases h with h | ⟨p, ds, vs, h1, _⟩
  · exact h
  · cases h1
theorem brep_bl {i : Bool} {v} (h : BRep c F H (.bl i) v) : v = .bl i := by
  rcases h with h | ⟨p, ds, vs, h1, _⟩
  · exact h
  · cases h1
theorem rb_int : RB c rIntX fInt := fun F H d z v ex q rx Q p => by
  unfold fInt at q
  split at q
  · cases q
    exact .inl ⟨_, by rw [brep_int rx], p _ F H (.refl ex) rfl⟩
  · cases q
    exact .inr ⟨_, by rw [brep_bl rx], p _ F H (.refl ex) rfl⟩
  · cases q
def rAbsX : List V → Hp → VK → Prop := fun xs H Q => ∃ i, xs = [.int i] ∧ Q (.int (if i < 0 then -i else i)) H
def fAbs : D → Option D
  | .int i => some (.int (if i < 0 then -i else i))
  | _ => none
theorem rb_abs : RB c rAbsX fAbs := fun F H d z v ex q rx Q p => by
  unfold fAbs at q
  split at q
  · cases q
    exact ⟨_, by rw [brep_int rx], p _ F H (.refl ex) rfl⟩
  · cases q
def onlyI : List D → Option (List Int)
  | [] => some []
  | .int i :: r => (onlyI r).map (i :: ·)
  | _ => none
theorem onlyI_ok : ∀ {ds : List D} {vs : List V} {ns : List Int}, onlyI ds = some ns → Reps c F ds vs → vs = ns.map V.int
  | [], _, _, q, h => by cases q; cases h; rfl
  | .int i :: r, _, ns, q, ⟨v, r', h1, h2, h3⟩ => by
    unfold onlyI at q
    cases z : onlyI r with
    | none => rw [z] at q; cases q
    | some ms =>
      rw [z] at q
      cases q
      cases h2
      rw [h1, List.map_cons, ← onlyI_ok z h3]
  | .non :: _, _, _, q, _ => by cases q
  | .bl _ :: _, _, _, q, _ => by cases q
  | .str _ :: _, _, _, q, _ => by cases q
  | .tup _ :: _, _, _, q, _ => by cases q
  | .lst _ :: _, _, _, q, _ => by cases q
  | .obj _ _ :: _, _, _, q, _ => by cases q
  | .hand :: _, _, _, q, _ => by cases q
def rSumX (K : PySem.W.Frag) : List V → Hp → VK → Prop := fun vs H Q => ∃ (a : Addr) (ns : List Int), vs = [V.ref a] ∧ SqL K H a (ns.map V.int) ∧ Q (.int ns.sum) H
def fSum : D → Option D
  | .lst ds => (onlyI ds).map fun ns => .int ns.sum
  | _ => none
theorem rb_sum : RB c (rSumX c.K) fSum := fun F H d z v ex q rx Q p => by
  unfold fSum at q
  split at q
  · rename_i ds
    cases z : onlyI ds with
    | none => rw [z] at q; cases q
    | some ns =>
      rw [z] at q
      cases q
      obtain ⟨a, vs, h1, h2, h3⟩ := rx.lst ex
      exact ⟨a, ns, by rw [h1], by rw [← onlyI_ok z h3]; exact SqL.of h2, p _ F H (.refl ex) rfl⟩
  · cases q
/-! isinstance(x, T), T a built-in class -/
def tyOf : D → Option String
  | .non => some "NoneType"
  | .bl _ => some "bool"
  | .int _ => some "int"
  | .str _ => some "str"
  | .tup _ => some "tuple"
  | .lst _ => some "list"
  | _ => none
def fIsi (T : String) (d : D) : Option D := match tyOf d with
  | some t => (kitB t T).map .bl
  | none => none
theorem tyX_of {d : D} {v : V} {t : String} (ex : Ex F H) (q : tyOf d = some t) (h : BRep c F H d v) : TyX c.K H v (.type t) := by
  have nb : ∀ (k : ∀ ds, d ≠ .lst ds), Rep c F d v := fun k => by
    rcases h with h | ⟨p, ds, vs, h1, _⟩
    · exact h
    · exact absurd h1 (k ds)
  cases d with
  | non => cases q; cases nb (fun _ e => nomatch e); exact .base .non
  | bl i => cases q; cases nb (fun _ e => nomatch e); exact .base (.bl _)
  | int i => cases q; cases nb (fun _ e => nomatch e); exact .base (.int _)
  | str i => cases q; cases nb (fun _ e => nomatch e); exact .base (.str _)
  | tup ds =>
    cases q
    obtain ⟨a, vs, h1, h2, h3⟩ := h.tup ex
    rw [h1]
    rcases h2 with (h2 | ⟨o, h2⟩) | ⟨o, its, n, k1, k2, _⟩
    · exact .base (.tup h2)
    · exact .fTuple h2
    · exact .kTuple k1 k2
  | lst ds =>
    cases q
    obtain ⟨a, vs, h1, h2, h3⟩ := h.lst ex
    rw [h1]
    exact .base (.lst h2)
  | obj _ _ => cases q
  | hand => cases q
theorem snd_isi {T : String} (h : SndR c O W ta a) : SndE c O W (tCB (rIsi c.K) (tCons ta (tCons (tC (.ty T)) tNil))) (eUn (fIsi T) a) := fun F0 H0 F H σ ρ g o g' S q Q p => by
  refine h.bind S q p.x fun x g1 vx F1 H1 q1 G1 S1 rx => ?_
  unfold fIsi at q1
  cases z : tyOf x with
  | none => simp only [z] at q1; cases q1
  | some t =>
    cases z2 : kitB t T with
    | none => simp only [z, z2] at q1; cases q1
    | some b =>
      simp only [z, z2] at q1
      cases q1
      exact ⟨vx, .ty T, .type t, .type T, b, rfl, .ty T, tyX_of S1.ex z rx, kit_ty z2, p _ F1 H1 G1 S1 rfl⟩
/-- isinstance(x, (T, U)), the tuple made on the way -/
def fIsi2 (T U : String) (d : D) : Option D := match tyOf d with
  | some t => (match kitB t T, kitB t U with
    | some x, some y => some (.bl (x || y))
    | _, _ => none)
  | none => none
end
end MP

set_option maxRecDepth 100000
set_option maxHeartbeats 1000000
namespace MP
open PySem L2
open Evl (Ex ex_rd ex_l ex_t)
/-! ### a def's promise, by its meaning m -/
abbrev FM := List D → G → R
def specOf (c : Ct) (m : FM) : Sp := fun vs H Q E => ∃ F ds g r g', Ex F H ∧ HandAt c F H g ∧ Reps c F ds vs ∧ m ds g = some (r, g') ∧ (match r with
  | .ok d => ∀ v F' H', Gr c F H F' H' → Ex F' H' → HandAt c F' H' g' → Rep c F' d v → Q v H'
  | .exc n fs => ∀ cls dd F' H', Gr c F H F' H' → Ex F' H' → HandAt c F' H' g' → ExcAt c F' H' n fs cls dd → E cls dd H')
/-! ### statements -/
inductive SOut where
  | nx (ρ : Env) | ret (d : D) | brk (ρ : Env) | cnt (ρ : Env) | exc (n : Str) (fs : List (Str × D)) (ρ : Env)
abbrev SS := Env → G → Option (SOut × G)
/-- what is wanted: O behind, OL at a break or continue -/
def SPost (c : Ct) (F0 H0 F : Hp) (O OL : List Nat) (W : WX) (D : Ends) (r : SOut) (g' : G) : Prop := match r with
  | .nx ρ => ∀ σ F' H', Ex F F' → SR c F0 H0 F' H' σ ρ O g' → D.nx σ H'
  | .brk ρ => ∀ σ F' H', Ex F F' → SR c F0 H0 F' H' σ ρ OL g' → D.bk σ H'
  | .cnt ρ => ∀ σ F' H', Ex F F' → SR c F0 H0 F' H' σ ρ OL g' → D.ct σ H'
  | .ret d => ∀ v F H, Gr c F0 H0 F H → Ex F H → HandAt c F H g' → Rep c F d v → D.rt v H
  | .exc n fs ρ => ∀ cls dd σ F H, SR c F0 H0 F H σ ρ [] g' → ExcAt c F H n fs cls dd → W cls dd σ H
def SndS (c : Ct) (O O' OL : List Nat) (W : WX) (ts : TS) (s : SS) : Prop := ∀ F0 H0 F H σ ρ g r g', SR c F0 H0 F H σ ρ O g → s ρ g = some (r, g') → ∀ D : Ends, SPost c F0 H0 F O' OL W D r g' → ts D σ H
section
variable {c : Ct} {F0 H0 F H F' H' : Hp} {σ : St} {ρ : Env} {O O1 O' OL : List Nat} {W : WX} {g g' : G} {te ta tb tc : TE} {tt tu : TT} {e a b : SE} {ts ts1 ts2 : TS} {s s1 s2 : SS} {En : Ends}
/-! owned lists frozen -/
/-- one owned slot frozen -/
theorem SR.freeze1 (S : SR c F0 H0 F H σ ρ O g) (i : Nat) : ∃ F', Ex F F' ∧ SR c F0 H0 F' H σ ρ (O.filter (· != i)) g := by
  by_cases hi : i ∈ O
  · cases z : ρ[i]? with
    | none =>
      refine ⟨F, .refl F, S.ex, S.gr, S.len, fun j d h k => ?_, fun j d h k => S.own j d h (List.mem_filter.mp k).1, fun j k d e hj hk ne h1 h2 => S.dis j k d e (List.mem_filter.mp hj).1 (List.mem_filter.mp hk).1 ne h1 h2, S.hand⟩
      by_cases q : j = i
      · subst q; rw [z] at h; cases h
      · exact S.val j d h (fun m => k (List.mem_filter.mpr ⟨m, by simpa using q⟩))
    | some od =>
      cases od with
      | none =>
        refine ⟨F, .refl F, S.ex, S.gr, S.len, fun j d h k => ?_, fun j d h k => S.own j d h (List.mem_filter.mp k).1, fun j k d e hj hk ne h1 h2 => S.dis j k d e (List.mem_filter.mp hj).1 (List.mem_filter.mp hk).1 ne h1 h2, S.hand⟩
        by_cases q : j = i
        · subst q; rw [z] at h; cases h
        · exact S.val j d h (fun m => k (List.mem_filter.mpr ⟨m, by simpa using q⟩))
      | some d0 =>
        obtain ⟨v, h1, p, ds, vs, h2, h3, h4, h5, h6, h7, h8⟩ := S.own i d0 z hi
        have eF : Ex F (upd F p (.lst vs)) := Ex.new h5
        refine ⟨upd F p (.lst vs), eF, S.ex.frz h7, ⟨S.gr.ex.trans eF, S.gr.keep, fun a z k => ?_, S.gr.dom⟩, S.len, fun j d h k => ?_, fun j d h k => ?_, fun j k d e hj hk ne h1 h2 => S.dis j k d e (List.mem_filter.mp hj).1 (List.mem_filter.mp hk).1 ne h1 h2, hand_freeze S.hand h5 h6⟩
        · by_cases q : a = p
          · subst q; exact h4
          · rw [upd_ne q] at k; exact S.gr.new a z k
        · by_cases q : j = i
          · subst q
            rw [z] at h
            cases h
            exact ⟨v, h1, by rw [h2]; exact ⟨p, vs, h3, upd_same, h8.mono eF⟩⟩
          · obtain ⟨w, k1, k2⟩ := S.val j d h (fun m => k (List.mem_filter.mpr ⟨m, by simpa using q⟩))
            exact ⟨w, k1, k2.mono eF⟩
        · obtain ⟨hj, hne⟩ := List.mem_filter.mp k
          have hne : j ≠ i := by simpa using hne
          obtain ⟨w, k1, p2, ds2, vs2, k2, k3, k4, k5, k6, k7, k8⟩ := S.own j d h hj
          have pp : p2 ≠ p := fun e => S.dis j i d d0 hj hi hne h z (by rw [k1, h1, k3, h3, e])
          exact ⟨w, k1, p2, ds2, vs2, k2, k3, k4, by rw [upd_ne pp]; exact k5, k6, k7, k8.mono eF⟩
  · refine ⟨F, .refl F, ?_⟩
    have e : O.filter (· != i) = O := List.filter_eq_self.mpr fun a ha => by
      have : a ≠ i := fun e => hi (e ▸ ha)
      simpa using this
    rw [e]
    exact S
theorem SR.drop (S : SR c F0 H0 F H σ ρ O g) (O2 : List Nat) (h : ∀ i, i ∈ O2 ↔ i ∈ O) : SR c F0 H0 F H σ ρ O2 g :=
  ⟨S.ex, S.gr, S.len, fun i d k n => S.val i d k (fun m => n ((h i).mpr m)), fun i d k m => S.own i d k ((h i).mp m), fun i j d e hi hj ne k1 k2 => S.dis i j d e ((h i).mp hi) ((h j).mp hj) ne k1 k2, S.hand⟩
/-- all but those of O2 frozen -/
theorem SR.weaken : ∀ (L : List Nat) {F : Hp} {O : List Nat}, SR c F0 H0 F H σ ρ O g → ∃ F', Ex F F' ∧ SR c F0 H0 F' H σ ρ (O.filter fun i => !L.contains i) g
  | [], F, O, S => ⟨F, .refl F, S.drop _ fun i => by simp⟩
  | i :: L, F, O, S => by
    obtain ⟨F1, e1, S1⟩ := S.freeze1 i
    obtain ⟨F2, e2, S2⟩ := SR.weaken L S1
    exact ⟨F2, e1.trans e2, S2.drop _ fun j => by simp [and_comm, and_assoc, and_left_comm]⟩
theorem SR.bare (S : SR c F0 H0 F H σ ρ O g) : ∃ F', Ex F F' ∧ SR c F0 H0 F' H σ ρ [] g := by
  obtain ⟨F1, e1, S1⟩ := SR.weaken O S
  exact ⟨F1, e1, S1.drop _ fun i => by simp⟩
theorem SR.sub (S : SR c F0 H0 F H σ ρ O g) (h : ∀ i, i ∈ O' → i ∈ O) : ∃ F', Ex F F' ∧ SR c F0 H0 F' H σ ρ O' g := by
  obtain ⟨F1, e1, S1⟩ := SR.weaken (O.filter fun i => !O'.contains i) S
  exact ⟨F1, e1, S1.drop _ fun i => by
    simp only [List.mem_filter, List.contains_eq_mem, Bool.not_eq_true', decide_eq_false_iff_not, decide_eq_true_eq]
    constructor
    · intro k; exact ⟨h i k, fun z => z.2 k⟩
    · rintro ⟨k, z⟩
      by_cases q : i ∈ O'
      · exact q
      · exact absurd ⟨k, q⟩ z⟩
theorem SPost.gr {D : Ends} {r : SOut} (e : Ex F F') (p : SPost c F0 H0 F O OL W D r g) : SPost c F0 H0 F' O OL W D r g := by
  cases r with
  | nx ρ => exact fun σ F2 H2 e2 S => p σ F2 H2 (e.trans e2) S
  | brk ρ => exact fun σ F2 H2 e2 S => p σ F2 H2 (e.trans e2) S
  | cnt ρ => exact fun σ F2 H2 e2 S => p σ F2 H2 (e.trans e2) S
  | ret d => exact p
  | exc n fs ρ => exact p
/-- ahead of a statement owned lists may be frozen -/
theorem snd_less (h : SndS c O1 O' OL W ts s) (k : ∀ i, i ∈ O1 → i ∈ O) : SndS c O O' OL W ts s := fun F0 H0 F H σ ρ g r g' S q D p => by
  obtain ⟨F1, e1, S1⟩ := S.sub k
  exact h _ _ _ _ _ _ _ _ _ S1 q D (p.gr e1)
/-- behind it too -/
theorem snd_more (h : SndS c O O1 OL W ts s) (k : ∀ i, i ∈ O' → i ∈ O1) : SndS c O O' OL W ts s := fun F0 H0 F H σ ρ g r g' S q D p => by
  refine h _ _ _ _ _ _ _ _ _ S q D ?_
  cases r with
  | nx ρ =>
    intro σ' F1 H1 e1 S1
    obtain ⟨F2, e2, S2⟩ := S1.sub k
    exact p σ' F2 H1 (e1.trans e2) S2
  | _ => exact p
theorem ExcAt.mono {n fs cls dd} (e : Ex F F') (h : ExcAt c F H n fs cls dd) : ExcAt c F' H n fs cls dd := by
  obtain ⟨h1, h2⟩ := h
  refine ⟨h1, ?_⟩
  rcases h2 with h2 | ⟨d, vs, k1, k2, k3⟩
  · exact .inl h2
  · exact .inr ⟨d, vs, k1, k2, k3.mono e⟩
/-- an expression's exception is the statement's -/
theorem postX_of {n fs} (S : SR c F0 H0 F H σ ρ O g) (p : SPost c F0 H0 F O' OL W En (.exc n fs ρ) g') : PostX c F0 H0 σ ρ O W F H n fs g' := fun cls dd F1 H1 G1 S1 x => by
  obtain ⟨F2, e2, S2⟩ := S1.bare
  exact p cls dd σ F2 H1 S2 (x.mono e2)
/-! sequences -/
def bS (x : Option (SOut × G)) (k : Env → G → Option (SOut × G)) : Option (SOut × G) := match x with
  | some (.nx ρ, g) => k ρ g
  | y => y
def sSeq (s1 s2 : SS) : SS := fun ρ g => bS (s1 ρ g) s2
def sPass : SS := fun ρ g => some (.nx ρ, g)
def sBrk : SS := fun ρ g => some (.brk ρ, g)
def sCnt : SS := fun ρ g => some (.cnt ρ, g)
theorem snd_pass : SndS c O O OL W tNext sPass := fun F0 H0 F H σ ρ g r g' S q D p => by
  cases q
  exact p σ F H (.refl F) S
theorem snd_brk (k : ∀ i, i ∈ OL → i ∈ O) : SndS c O O' OL W tBreak sBrk := fun F0 H0 F H σ ρ g r g' S q D p => by
  cases q
  obtain ⟨F1, e1, S1⟩ := S.sub k
  exact p σ F1 H e1 S1
theorem snd_cnt (k : ∀ i, i ∈ OL → i ∈ O) : SndS c O O' OL W tCont sCnt := fun F0 H0 F H σ ρ g r g' S q D p => by
  cases q
  obtain ⟨F1, e1, S1⟩ := S.sub k
  exact p σ F1 H e1 S1
theorem snd_seq (h1 : SndS c O O1 OL W ts1 s1) (h2 : SndS c O1 O' OL W ts2 s2) : SndS c O O' OL W (tSeq ts1 ts2) (sSeq s1 s2) := fun F0 H0 F H σ ρ g r g' S q D p => by
  unfold sSeq bS at q
  cases z : s1 ρ g with
  | none => rw [z] at q; cases q
  | some y =>
    obtain ⟨o, g1⟩ := y
    rw [z] at q
    cases o with
    | nx ρ1 => exact h1 _ _ _ _ _ _ _ _ _ S z _ fun σ1 F1 H1 e1 S1 => h2 _ _ _ _ _ _ _ _ _ S1 q D (p.gr e1)
    | ret d =>
      cases q
      exact h1 _ _ _ _ _ _ _ _ _ S z _ p
    | brk ρ1 =>
      cases q
      exact h1 _ _ _ _ _ _ _ _ _ S z _ p
    | cnt ρ1 =>
      cases q
      exact h1 _ _ _ _ _ _ _ _ _ S z _ p
    | exc n fs ρ1 =>
      cases q
      exact h1 _ _ _ _ _ _ _ _ _ S z _ p
/-- a statement that ends in an expression's value -/
def bV (x : R) (ρ : Env) (k : D → G → Option (SOut × G)) : Option (SOut × G) := match x with
  | some (.ok d, g) => k d g
  | some (.exc n f, g) => some (.exc n f ρ, g)
  | none => none
theorem bV_some {x : R} {k : D → G → Option (SOut × G)} {r : SOut} {g' : G} (q : bV x ρ k = some (r, g')) : (∃ d g1, x = some (.ok d, g1) ∧ k d g1 = some (r, g')) ∨ ∃ n f, x = some (.exc n f, g') ∧ r = .exc n f ρ := by
  unfold bV at q
  split at q
  · exact .inl ⟨_, _, rfl, q⟩
  · cases q
    exact .inr ⟨_, _, rfl, rfl⟩
  · cases q
/-! x = e -/
def sSet (i : Nat) (e : SE) : SS := fun ρ g => bV (e ρ g) ρ fun d g => some (.nx (ρ.set i (some d)), g)
theorem SR.set {i : Nat} {d : L2.V → Prop} (S : SR c F0 H0 F H σ ρ O g) {x : MP.D} {v : V} (h : Rep c F x v) : SR c F0 H0 F H (σ.set i (some v)) (ρ.set i (some x)) (O.filter (· != i)) g where
  ex := S.ex
  gr := S.gr
  len := by rw [List.length_set, List.length_set]; exact S.len
  val := fun j y k n => by
    by_cases q : i = j
    · subst q
      have hl : i < ρ.length := by
        by_cases l : i < ρ.length
        · exact l
        · rw [List.getElem?_eq_none (by rw [List.length_set]; omega)] at k
          cases k
      rw [List.getElem?_set_self hl] at k
      cases k
      exact ⟨v, List.getElem?_set_self (by rw [S.len]; exact hl), h⟩
    · rw [List.getElem?_set_ne q] at k ⊢
      exact S.val j y k (fun m => n (List.mem_filter.mpr ⟨m, by simpa using fun e : j = i => q e.symm⟩))
  own := fun j y k m => by
    obtain ⟨m1, m2⟩ := List.mem_filter.mp m
    have q : i ≠ j := fun e => by simp [e] at m2
    rw [List.getElem?_set_ne q] at k ⊢
    exact S.own j y k m1
  dis := fun j k y z hj hk ne h1 h2 => by
    obtain ⟨m1, m2⟩ := List.mem_filter.mp hj
    obtain ⟨m3, m4⟩ := List.mem_filter.mp hk
    have q1 : i ≠ j := fun e => by simp [e] at m2
    have q2 : i ≠ k := fun e => by simp [e] at m4
    rw [List.getElem?_set_ne q1] at h1 ⊢
    rw [List.getElem?_set_ne q2] at h2 ⊢
    exact S.dis j k y z m1 m3 ne h1 h2
  hand := S.hand
theorem snd_set {i : Nat} (h : SndE c O W te e) : SndS c O (O.filter (· != i)) OL W (tAsg te (gName i)) (sSet i e) := fun F0 H0 F H σ ρ g r g' S q D p => by
  unfold sSet at q
  rcases bV_some q with ⟨d, g1, q1, q2⟩ | ⟨n, f, q1, rfl⟩
  · cases q2
    exact h _ _ _ _ _ _ _ _ _ S q1 _ fun v F1 H1 G1 S1 rv => p _ F1 H1 G1.ex (S1.set (d := fun _ => True) rv)
  · exact h _ _ _ _ _ _ _ _ _ S q1 _ (postX_of S p)
/-- x = a new list: x owns it -/
theorem SR.setOwn {i : Nat} (S : SR c F0 H0 F H σ ρ O g) {ds : List MP.D} {a : Addr} {vs : List V} (hi : i < ρ.length) (h0 : H0 a = none) (hf : F a = none) (hd : c.hd ≠ some a) (hp : H a = some (.lst vs)) (hr : Reps c F ds vs)
    (hn : ∀ j y, j ∈ O → j ≠ i → ρ[j]? = some (some y) → σ[j]? ≠ some (some (.ref a))) : SR c F0 H0 F H (σ.set i (some (.ref a))) (ρ.set i (some (.lst ds))) (i :: O) g where
  ex := S.ex
  gr := S.gr
  len := by rw [List.length_set, List.length_set]; exact S.len
  val := fun j y k n => by
    have q : i ≠ j := fun e => n (by simp [e])
    rw [List.getElem?_set_ne q] at k ⊢
    exact S.val j y k (fun m => n (List.mem_cons_of_mem _ m))
  own := fun j y k m => by
    by_cases q : i = j
    · subst q
      rw [List.getElem?_set_self hi] at k
      cases k
      exact ⟨_, List.getElem?_set_self (by rw [S.len]; exact hi), a, ds, vs, rfl, rfl, h0, hf, hd, hp, hr⟩
    · rw [List.getElem?_set_ne q] at k ⊢
      rcases List.mem_cons.mp m with m | m
      · exact absurd m.symm q
      · exact S.own j y k m
  dis := fun j k y z hj hk ne h1 h2 => by
    have hσ : i < σ.length := by rw [S.len]; exact hi
    by_cases q1 : i = j
    · subst q1
      have q2 : i ≠ k := ne
      rw [List.getElem?_set_self hσ, List.getElem?_set_ne q2]
      rw [List.getElem?_set_ne q2] at h2
      rcases List.mem_cons.mp hk with m | m
      · exact absurd m.symm q2
      · exact fun e => hn k z m (fun e => q2 e.symm) h2 e.symm
    · rw [List.getElem?_set_ne q1] at h1 ⊢
      rcases List.mem_cons.mp hj with m | mj
      · exact absurd m.symm q1
      by_cases q2 : i = k
      · subst q2
        rw [List.getElem?_set_self hσ]
        exact hn j y mj (fun e => q1 e.symm) h1
      · rw [List.getElem?_set_ne q2] at h2 ⊢
        rcases List.mem_cons.mp hk with m | mk
        · exact absurd m.symm q2
        exact S.dis j k y z mj mk ne h1 h2
  hand := S.hand
theorem snd_setL {i : Nat} (h : SndL c O W te e) (k : ∀ ρ g d g', e ρ g = some (.ok d, g') → ∃ ds, d = .lst ds) : SndS c O (i :: O) OL W (tAsg te (gName i)) (sSet i e) := fun F0 H0 F H σ ρ g r g' S q D p => by
  unfold sSet at q
  rcases bV_some q with ⟨d, g1, q1, q2⟩ | ⟨n, f, q1, rfl⟩
  · cases q2
    obtain ⟨ds, rfl⟩ := k _ _ _ _ q1
    refine h _ _ _ _ _ _ _ _ _ S q1 _ fun a vs F1 H1 G1 S1 h0 hf hd hp hr => ?_
    by_cases hi : i < ρ.length
    · exact p _ F1 H1 G1.ex (S1.setOwn hi (S.gr.dom a h0) hf hd hp hr fun j y hj ne hy e => by
        obtain ⟨v, k1, b, es, ws, k2, k3, k4, k5, k6, k7, k8⟩ := S.own j y hy hj
        rw [k1] at e
        have ev : v = .ref a := Option.some.inj (Option.some.inj e)
        rw [k3] at ev
        cases ev
        rw [k7] at h0
        cases h0)
    · refine p _ F1 H1 G1.ex ?_
      rw [List.set_eq_of_length_le (by rw [S.len]; omega), List.set_eq_of_length_le (by omega)]
      refine ⟨S1.ex, S1.gr, S1.len, fun j y k1 n => S1.val j y k1 (fun m => n (List.mem_cons_of_mem _ m)), fun j y k1 m => ?_, fun j k2 y z hj hk ne h1 h2 => ?_, S1.hand⟩
      · rcases List.mem_cons.mp m with m | m
        · subst m; rw [List.getElem?_eq_none (by omega)] at k1; cases k1
        · exact S1.own j y k1 m
      · have a1 : j ∈ O := by
          rcases List.mem_cons.mp hj with m | m
          · subst m; rw [List.getElem?_eq_none (by omega)] at h1; cases h1
          · exact m
        have a2 : k2 ∈ O := by
          rcases List.mem_cons.mp hk with m | m
          · subst m; rw [List.getElem?_eq_none (by omega)] at h2; cases h2
          · exact m
        exact S1.dis j k2 y z a1 a2 ne h1 h2
  · exact h _ _ _ _ _ _ _ _ _ S q1 _ (postX_of S p)
/-! return e -/
def sRet (e : SE) : SS := fun ρ g => bV (e ρ g) ρ fun d g => some (.ret d, g)
theorem snd_ret (h : SndE c O W te e) : SndS c O O' OL W (tRet te) (sRet e) := fun F0 H0 F H σ ρ g r g' S q D p => by
  unfold sRet at q
  rcases bV_some q with ⟨d, g1, q1, q2⟩ | ⟨n, f, q1, rfl⟩
  · cases q2
    exact h _ _ _ _ _ _ _ _ _ S q1 _ fun v F1 H1 G1 S1 rv => p v F1 H1 S1.gr S1.ex S1.hand rv
  · exact h _ _ _ _ _ _ _ _ _ S q1 _ (postX_of S p)
def sRetN : SS := fun _ g => some (.ret .non, g)
theorem snd_retN : SndS c O O' OL W tRetN sRetN := fun F0 H0 F H σ ρ g r g' S q D p => by
  cases q
  exact p .non F H S.gr S.ex S.hand rfl
/-! an expression alone -/
def sDrop (e : SE) : SS := fun ρ g => bV (e ρ g) ρ fun _ g => some (.nx ρ, g)
theorem snd_drop (h : SndE c O W te e) : SndS c O O OL W (tDrop te) (sDrop e) := fun F0 H0 F H σ ρ g r g' S q D p => by
  unfold sDrop at q
  rcases bV_some q with ⟨d, g1, q1, q2⟩ | ⟨n, f, q1, rfl⟩
  · cases q2
    exact h _ _ _ _ _ _ _ _ _ S q1 _ fun v F1 H1 G1 S1 rv => p σ F1 H1 G1.ex S1
  · exact h _ _ _ _ _ _ _ _ _ S q1 _ (postX_of S p)
/-! if -/
def sIf (t : SE) (s1 s2 : SS) : SS := fun ρ g => match t ρ g with
  | some (.ok (.bl true), g) => s1 ρ g
  | some (.ok (.bl false), g) => s2 ρ g
  | some (.exc n f, g) => some (.exc n f ρ, g)
  | _ => none
theorem snd_ifS {t : SE} (h : SndB c O W tt t) (h1 : SndS c O O' OL W ts1 s1) (h2 : SndS c O O' OL W ts2 s2) : SndS c O O' OL W (tIfS tt ts1 ts2) (sIf t s1 s2) := fun F0 H0 F H σ ρ g r g' S q D p => by
  unfold sIf at q
  split at q
  · rename_i g2 z
    refine h _ _ _ _ _ _ _ _ _ S z _ fun F' H' G S' => ?_
    rw [if_pos rfl]
    exact h1 _ _ _ _ _ _ _ _ _ S' q D (p.gr G.ex)
  · rename_i g2 z
    refine h _ _ _ _ _ _ _ _ _ S z _ fun F' H' G S' => ?_
    rw [if_neg Bool.false_ne_true]
    exact h2 _ _ _ _ _ _ _ _ _ S' q D (p.gr G.ex)
  · rename_i n f g2 z
    cases q
    exact h _ _ _ _ _ _ _ _ _ S z _ (postX_of S p)
  · cases q
end
end MP

set_option maxRecDepth 100000
set_option maxHeartbeats 1000000
namespace MP
open PySem L2
open Evl (Ex ex_rd ex_l ex_t)
/-! ### what is walked -/
structure ItOk (c : Ct) (F1 : Hp) (J : It) (ds : List D) : Prop where
  goes : ∀ i F' H', i < ds.length → Ex F1 F' → Ex F' H' → J.go i H'
  stops : ∀ F' H', Ex F1 F' → Ex F' H' → J.stop ds.length H'
  yields : ∀ i d F' H' x H'', ds[i]? = some d → Ex F1 F' → Ex F' H' → J.yld i H' x H'' → ∃ F'', Gp F' H' F'' H'' ∧ Rep c F'' d x
def PostI (c : Ct) (F0 H0 : Hp) (σ : St) (ρ : Env) (O : List Nat) (W : WX) (F H : Hp) (r : OutA) (g' : G) (R : It → Hp → Prop) : Prop := match r with
  | .ok ds => ∀ J F' H', Gr c F H F' H' → SR c F0 H0 F' H' σ ρ O g' → ItOk c F' J ds → R J H'
  | .exc n fs => PostX c F0 H0 σ ρ O W F H n fs g'
def SndI (c : Ct) (O : List Nat) (W : WX) (wi : TI) (e : SA) : Prop := ∀ F0 H0 F H σ ρ g r g', SR c F0 H0 F H σ ρ O g → e ρ g = some (r, g') → ∀ R, PostI c F0 H0 σ ρ O W F H r g' R → wi σ H R
section
variable {c : Ct} {F0 H0 F H F' H' F1 : Hp} {σ : St} {ρ : Env} {O O1 O' OL : List Nat} {W : WX} {g g' : G} {te ta tb tc : TE} {tt tu : TT} {e a b : SE} {ts ts1 ts2 : TS} {s s1 s2 : SS}
theorem itok_list {a : Addr} {vs : List V} {ds : List MP.D} (h : F1 a = some (.lst vs)) (r : Reps c F1 ds vs) : ItOk c F1 (Itl c.K a) ds where
  goes := fun i F' H' hi e1 e2 => ⟨vs, vs[i]'(by rw [r.len]; exact hi), SqL.of (e2 _ _ (e1 _ _ h)), by simp [r.len, hi]⟩
  stops := fun F' H' e1 e2 => ⟨vs, SqL.of (e2 _ _ (e1 _ _ h)), by rw [r.len]; exact Nat.le_refl _⟩
  yields := fun i d F' H' x H'' hd e1 e2 y => by
    obtain ⟨rfl, y⟩ := y
    obtain ⟨v, k1, k2⟩ := r.get hd
    have := y vs (SqL.of (e2 _ _ (e1 _ _ h)))
    rw [k1] at this
    cases this
    exact ⟨F', .refl e2, k2.mono e1⟩
theorem itok_tup {a : Addr} {vs : List V} {ds : List MP.D} (h : SqT c.K F1 a vs) (r : Reps c F1 ds vs) : ItOk c F1 (Itt c.K a) ds where
  goes := fun i F' H' hi e1 e2 => ⟨vs, vs[i]'(by rw [r.len]; exact hi), ex_t (e1.trans e2) h, by simp [r.len, hi]⟩
  stops := fun F' H' e1 e2 => ⟨vs, ex_t (e1.trans e2) h, by rw [r.len]; exact Nat.le_refl _⟩
  yields := fun i d F' H' x H'' hd e1 e2 y => by
    obtain ⟨rfl, y⟩ := y
    obtain ⟨v, k1, k2⟩ := r.get hd
    have := y vs (ex_t (e1.trans e2) h)
    rw [k1] at this
    cases this
    exact ⟨F', .refl e2, k2.mono e1⟩
/-- the numbers lo, lo + 1, .. -/
def rng (lo : Int) (n : Nat) : List MP.D := (List.range n).map fun i => .int (lo + (i : Nat))
theorem rng_get {lo : Int} {n i : Nat} {d : MP.D} (h : (rng lo n)[i]? = some d) : d = .int (lo + (i : Nat)) := by
  unfold rng at h
  rw [List.getElem?_map] at h
  by_cases q : i < n
  · rw [List.getElem?_range q] at h
    cases h
    rfl
  · rw [List.getElem?_eq_none (by simpa using q)] at h
    cases h
theorem itok_range {lo : Int} {n : Nat} : ItOk c F1 (Itr lo n) (rng lo n) where
  goes := fun i F' H' hi _ _ => by show i < n; simpa [rng] using hi
  stops := fun F' H' _ _ => by show n ≤ (rng lo n).length; simp [rng]
  yields := fun i d F' H' x H'' hd e1 e2 y => by
    obtain ⟨rfl, rfl⟩ := y
    rw [rng_get hd]
    exact ⟨F', .refl e2, rfl⟩
end
/-! a list or a tuple walked -/
def iSeq (K : PySem.W.Frag) (tl : TE) : TI := fun σ H R => tl σ H fun x H1 => ∃ a, x = .ref a ∧ (((∃ xs, SqL K H1 a xs) ∧ R (Itl K a) H1) ∨ ((∃ xs, SqT K H1 a xs) ∧ R (Itt K a) H1))
theorem pi_seq {X : Cx} {tg l : Expr} {tl : TE} (hl : PE X l tl) : PI X tg l (iSeq X.K tl) := ⟨fun ps st0 τ Ha R Ia h0 =>
  thn (hl.run ps st0 τ Ha _ Ia h0) fun v sb ⟨y, Hb, Ib, ry, adr, ey, q⟩ => by
  subst ey
  cases ry
  have fp : ∀ z ∈ [sb.heap.objs.size], FpOk X ps Hb z := fun z hz => by
    rw [List.mem_singleton.mp hz]
    exact Ib.fpOk (Nat.le_refl sb.heap.objs.size) (Ib.hok.fresh (Nat.le_refl sb.heap.objs.size))
  rcases q with ⟨⟨ys, hq⟩, q⟩ | ⟨⟨ys, hq⟩, q⟩
  · obtain ⟨vals, _, isl, _⟩ := Ib.list hq
    exact wpAny_pyIter_list isl.isList ⟨_, [sb.heap.objs.size], _, _, Hb, rfl, Ib.kept (t' := sb.toks) (fun _ _ k => Heap.get?_push_of_some _ k), turn_list adr _, ⟨_, Heap.get?_push_size _ rfl, rfl, rfl⟩, fp, q⟩
  · obtain ⟨vals, _, ist, _⟩ := Ib.tuple hq
    exact wpAny_pyIter_tuple (items := vals.toArray) ist ⟨_, [sb.heap.objs.size], _, _, Hb, rfl, Ib.kept (t' := sb.toks) (fun _ _ k => Heap.get?_push_of_some _ k), turn_tuple adr _, ⟨_, Heap.get?_push_size _ rfl, rfl, rfl⟩, fp, q⟩⟩
def items : D → Option (List D)
  | .lst ds => some ds
  | .tup ds => some ds
  | _ => none
/-- a meaning of one value's items -/
def aItems (e : SE) : SA := fun ρ g => match e ρ g with
  | some (.ok d, g) => (items d).map fun ds => (.ok ds, g)
  | some (.exc n f, g) => some (.exc n f, g)
  | none => none
section
variable {c : Ct} {F0 H0 F H F' H' F1 : Hp} {σ : St} {ρ : Env} {O O1 O' OL : List Nat} {W : WX} {g g' : G} {te ta tb tc : TE} {tt tu : TT} {e a b : SE} {ts ts1 ts2 : TS} {s s1 s2 : SS}
theorem snd_iseq (h : SndE c O W te e) : SndI c O W (iSeq c.K te) (aItems e) := fun F0 H0 F H σ ρ g r g' S q R p => by
  unfold aItems at q
  cases z : e ρ g with
  | none => rw [z] at q; cases q
  | some y =>
    obtain ⟨o, g1⟩ := y
    rw [z] at q
    cases o with
    | exc n f => cases q; exact h _ _ _ _ _ _ _ _ _ S z _ p
    | ok d =>
      refine h _ _ _ _ _ _ _ _ _ S z _ fun v F1 H1 G1 S1 rv => ?_
      cases d with
      | lst ds =>
        cases q
        obtain ⟨a, vs, h1, h2, h3⟩ := rv
        exact ⟨a, h1, .inl ⟨⟨vs, SqL.of (S1.ex _ _ h2)⟩, p _ F1 H1 G1 S1 (itok_list h2 h3)⟩⟩
      | tup ds =>
        cases q
        obtain ⟨a, vs, h1, h2, h3⟩ := rv
        exact ⟨a, h1, .inr ⟨⟨vs, ex_t S1.ex h2⟩, p _ F1 H1 G1 S1 (itok_tup h2 h3)⟩⟩
      | _ => cases q
/-- range(n), range(a, b) -/
def small62 (i : Int) : Bool := decide (i.natAbs.log2 < 60)
theorem small62_lt {i : Int} (h : small62 i = true) : i.natAbs < 2 ^ 60 := by
  have h := of_decide_eq_true h
  by_cases z : i.natAbs = 0
  · rw [z]; decide
  · exact (Nat.log2_lt z).mp h
theorem small62_of {i : Int} (h : i.natAbs < 2 ^ 60) : small62 i = true := by
  refine decide_eq_true ?_
  by_cases z : i.natAbs = 0
  · rw [z]; decide
  · exact (Nat.log2_lt z).mpr h
theorem small62_ok {i : Int} (h : small62 i = true) : -(2 ^ 62) ≤ i ∧ i < 2 ^ 62 := by
  have h := small62_lt h
  omega
def fRng1 : List MP.D → Option (List MP.D)
  | [.int n] => if small62 n = true then some (rng 0 n.toNat) else none
  | _ => none
def fRng2 : List MP.D → Option (List MP.D)
  | [.int a, .int b] => if (small62 a && small62 b) = true then some (rng a (b - a).toNat) else none
  | _ => none
def aVia (f : List MP.D → Option (List MP.D)) (r : SA) : SA := fun ρ g => match r ρ g with
  | some (.ok ds, g) => (f ds).map fun xs => (.ok xs, g)
  | some (.exc n f, g) => some (.exc n f, g)
  | none => none
theorem snd_via {f : List MP.D → Option (List MP.D)} {ar : SA} {ta : TA} {wi : TI} {rr : List V → Hp → (It → Hp → Prop) → Prop} (hw : wi = fun σ H R => ta σ H fun vs H1 => rr vs H1 R) (h : SndA c O W ta ar)
    (k : ∀ F H ds xs vs, Ex F H → f ds = some xs → Reps c F ds vs → ∀ R, (∀ J, ItOk c F J xs → R J H) → rr vs H R) : SndI c O W wi (aVia f ar) := fun F0 H0 F H σ ρ g r g' S q R p => by
  subst hw
  unfold aVia at q
  cases z : ar ρ g with
  | none => rw [z] at q; cases q
  | some y =>
    obtain ⟨o, g1⟩ := y
    rw [z] at q
    cases o with
    | exc n f => cases q; exact h _ _ _ _ _ _ _ _ _ S z _ p
    | ok ds =>
      cases z2 : f ds with
      | none => simp only [z2] at q; cases q
      | some xs =>
        simp only [z2] at q
        cases q
        exact h _ _ _ _ _ _ _ _ _ S z _ fun vs F1 H1 G1 S1 rs => k F1 H1 ds xs vs S1.ex z2 rs R fun J i => p J F1 H1 G1 S1 i
theorem snd_rng1 {ar : SA} {tr : TA} (h : SndA c O W tr ar) : SndI c O W (iRng1 tr) (aVia fRng1 ar) := snd_via rfl h fun F H ds xs vs ex q rs R p => by
  unfold fRng1 at q
  split at q
  · rename_i n
    split at q
    · rename_i hn
      cases q
      obtain ⟨v, r, h1, h2, h3⟩ := rs
      cases h2
      cases h3
      obtain ⟨k1, k2⟩ := small62_ok hn
      exact ⟨n, h1, k1, k2, p _ itok_range⟩
    · cases q
  · cases q
theorem snd_rng2 {ar : SA} {tr : TA} (h : SndA c O W tr ar) : SndI c O W (iRng2 tr) (aVia fRng2 ar) := snd_via rfl h fun F H ds xs vs ex q rs R p => by
  unfold fRng2 at q
  split at q
  · rename_i a b
    split at q
    · rename_i hn
      cases q
      obtain ⟨v, r, h1, h2, v2, r2, h3, h4, h5⟩ := rs
      cases h2
      cases h4
      cases h5
      obtain ⟨n1, n2⟩ := Bool.and_eq_true_iff.mp hn
      obtain ⟨k1, k2⟩ := small62_ok n1
      obtain ⟨k3, k4⟩ := small62_ok n2
      exact ⟨a, b, by rw [h1, h3], ⟨k1, k2, k3, k4⟩, p _ itok_range⟩
    · cases q
  · cases q
/-! ### targets -/
abbrev ST := MP.D → Env → Option Env
def SndG (c : Ct) (O O1 : List Nat) (tv : List Nat) (tg : TG) (f : ST) : Prop := ∀ F0 H0 F H σ ρ g d ρ1 v, SR c F0 H0 F H σ ρ O g → f d ρ = some ρ1 → Rep c F d v → ∀ Q : St → Hp → Prop,
  (∀ σ', SR c F0 H0 F H σ' ρ1 O1 g → (∀ vs : List Nat, (∀ i ∈ tv, i ∈ vs) → wipe σ' vs = wipe σ vs) → Q σ' H) → tg v σ H Q
theorem wipe_set {σ : St} {i : Nat} {x : Option V} : ∀ {vs : List Nat}, i ∈ vs → wipe (σ.set i x) vs = wipe σ vs
  | [], h => by cases h
  | v :: vs, h => by
    unfold wipe
    by_cases e : i ∈ vs
    · rw [wipe_set e]
    · have : i = v := by
        rcases List.mem_cons.mp h with k | k
        · exact k
        · exact absurd k e
      subst this
      have key : ∀ (ws : List Nat) (τ : St), i ∉ ws → (wipe (τ.set i x) ws) = (wipe τ ws).set i x := fun ws => by
        induction ws with
        | nil => intro τ _; rfl
        | cons w ws ih =>
          intro τ hw
          unfold wipe
          rw [ih τ (fun m => hw (List.mem_cons_of_mem _ m))]
          exact List.set_comm _ _ (fun e => hw (by rw [e]; exact List.mem_cons_self))
      rw [key vs σ e, List.set_set]
def gVar (i : Nat) : ST := fun d ρ => some (ρ.set i (some d))
theorem snd_gvar {i : Nat} : SndG c O (O.filter (· != i)) [i] (gName i) (gVar i) := fun F0 H0 F H σ ρ g d ρ1 v S q rv Q p => by
  cases q
  exact p _ (S.set (d := fun _ => True) rv) fun vs h => wipe_set (h i (by simp))
def SndGs (c : Ct) (O O1 : List Nat) (tv : List Nat) (n : Nat) (tg : TGs) (f : List MP.D → Env → Option Env) : Prop := (∀ ds ρ ρ1, f ds ρ = some ρ1 → ds.length = n) ∧ ∀ F0 H0 F H σ ρ g ds ρ1 vs, SR c F0 H0 F H σ ρ O g → f ds ρ = some ρ1 → Reps c F ds vs → ∀ Q : St → Hp → Prop,
  (∀ σ', SR c F0 H0 F H σ' ρ1 O1 g → (∀ vs : List Nat, (∀ i ∈ tv, i ∈ vs) → wipe σ' vs = wipe σ vs) → Q σ' H) → tg vs σ H Q
def gsNil (ds : List MP.D) (ρ : Env) : Option Env := match ds with
  | [] => some ρ
  | _ :: _ => none
def gsCons (t : ST) (u : List MP.D → Env → Option Env) (ds : List MP.D) (ρ : Env) : Option Env := match ds with
  | d :: ds => (match t d ρ with
    | some ρ1 => u ds ρ1
    | none => none)
  | [] => none
theorem snd_gsnil : SndGs c O O [] 0 gNil gsNil := ⟨fun ds ρ ρ1 q => by
  cases ds with
  | nil => rfl
  | cons d ds => (cases q), fun F0 H0 F H σ ρ g ds ρ1 vs S q rs Q p => by
  cases ds with
  | nil =>
    cases q
    cases rs
    exact ⟨rfl, p σ S fun _ _ => rfl⟩
  | cons d ds => cases q⟩
theorem snd_gscons {tv tw : List Nat} {n : Nat} {t : TG} {u : TGs} {f : ST} {fs : List MP.D → Env → Option Env} (h : SndG c O O1 tv t f) (k : SndGs c O1 O' tw n u fs) : SndGs c O O' (tv ++ tw) (n + 1) (gCons t u) (gsCons f fs) := ⟨fun ds ρ ρ1 q => by
  cases ds with
  | nil => cases q
  | cons d ds =>
    simp only [gsCons] at q
    cases z : f d ρ with
    | none => rw [z] at q; cases q
    | some ρ2 =>
      rw [z] at q
      rw [List.length_cons, k.1 _ _ _ q], fun F0 H0 F H σ ρ g ds ρ1 vs S q rs Q p => by
  cases ds with
  | nil => cases q
  | cons d ds =>
    obtain ⟨v, r, h1, h2, h3⟩ := rs
    subst h1
    simp only [gsCons] at q
    cases z : f d ρ with
    | none => rw [z] at q; cases q
    | some ρ2 =>
      rw [z] at q
      exact ⟨v, r, rfl, h _ _ _ _ _ _ _ _ _ _ S z h2 _ fun σ2 S2 w2 => k.2 _ _ _ _ _ _ _ _ _ _ S2 q h3 Q fun σ3 S3 w3 => p σ3 S3 fun vs hv => by
          rw [w3 vs (fun i hi => hv i (List.mem_append_right _ hi)), w2 vs (fun i hi => hv i (List.mem_append_left _ hi))]⟩⟩
def gTupD (f : List MP.D → Env → Option Env) : ST := fun d ρ => match d with
  | .tup ds => f ds ρ
  | _ => none
theorem snd_gtup {tv : List Nat} {n : Nat} {u : TGs} {fs : List MP.D → Env → Option Env} (k : SndGs c O O' tv n u fs) : SndG c O O' tv (gTup c.K n u) (gTupD fs) := fun F0 H0 F H σ ρ g d ρ1 v S q rv Q p => by
  unfold gTupD at q
  split at q
  · rename_i ds
    obtain ⟨a, vs, h1, h2, h3⟩ := rv
    exact ⟨a, vs, h1, ex_t S.ex h2, by rw [h3.len]; exact k.1 _ _ _ q, k.2 _ _ _ _ _ _ _ _ _ _ S q h3 Q p⟩
  · cases q
/-! x, y = e -/
def sUnp (f : ST) (e : SE) : SS := fun ρ g => bV (e ρ g) ρ fun d g => match f d ρ with
  | some ρ1 => some (.nx ρ1, g)
  | none => none
theorem snd_unp {tv : List Nat} {tg : TG} {f : ST} (h : SndE c O W te e) (k : SndG c O O' tv tg f) : SndS c O O' OL W (tAsg te tg) (sUnp f e) := fun F0 H0 F H σ ρ g r g' S q D p => by
  unfold sUnp at q
  rcases bV_some q with ⟨d, g1, q1, q2⟩ | ⟨n, f, q1, rfl⟩
  · cases z : f d ρ with
    | none => simp only [z] at q2; cases q2
    | some ρ1 =>
      simp only [z] at q2
      cases q2
      exact h _ _ _ _ _ _ _ _ _ S q1 _ fun v F1 H1 G1 S1 rv => k _ _ _ _ _ _ _ _ _ _ S1 z rv _ fun σ' S' _ => p σ' F1 H1 G1.ex S'
  · exact h _ _ _ _ _ _ _ _ _ S q1 _ (postX_of S p)
/-! ### for -/
def forGo (f : ST) (body : SS) : List MP.D → Env → G → Option (SOut × G)
  | [], ρ, g => some (.nx ρ, g)
  | d :: ds, ρ, g => match f d ρ with
    | none => none
    | some ρ1 => match body ρ1 g with
      | some (.nx ρ2, g2) => forGo f body ds ρ2 g2
      | some (.cnt ρ2, g2) => forGo f body ds ρ2 g2
      | some (.brk ρ2, g2) => some (.nx ρ2, g2)
      | some (.ret d, g2) => some (.ret d, g2)
      | some (.exc n fs ρ2, g2) => some (.exc n fs ρ2, g2)
      | none => none
def sFor (it : SA) (f : ST) (body : SS) : SS := fun ρ g => match it ρ g with
  | some (.ok ds, g) => forGo f body ds ρ g
  | some (.exc n fs, g) => some (.exc n fs ρ, g)
  | none => none
theorem Gp.ex2 (P : Gp F H F' H') : Ex F F' := P.ex
theorem snd_for {tv : List Nat} {wi : TI} {it : SA} {tg : TG} {f : ST} {tb : TS} {sb : SS} (hi : SndI c O W wi it) (ht : SndG c O O1 tv tg f) (hb : SndS c O1 O O W tb sb) : SndS c O O OL W (tFor wi tg tb) (sFor it f sb) := fun F0 H0 F H σ ρ g r g' S q D p => by
  unfold sFor at q
  cases z : it ρ g with
  | none => rw [z] at q; cases q
  | some y =>
    obtain ⟨o, g1⟩ := y
    rw [z] at q
    cases o with
    | exc n fs =>
      cases q
      exact hi _ _ _ _ _ _ _ _ _ S z _ (postX_of S p)
    | ok ds =>
      refine hi _ _ _ _ _ _ _ _ _ S z _ fun J F1 H1 G1 S1 ok => ?_
      refine ⟨fun i m σ H => m = ds.length - i ∧ i ≤ ds.length ∧ ∃ F ρ g, Ex F1 F ∧ SR c F0 H0 F H σ ρ O g ∧ forGo f sb (ds.drop i) ρ g = some (r, g'), ⟨ds.length, by simp, Nat.zero_le _, F1, ρ, g1, .refl F1, S1, by simpa using q⟩, ?_⟩
      rintro i m σ2 H2 ⟨rfl, hle, F2, ρ2, g2, e2, S2, q2⟩
      by_cases hlt : i < ds.length
      · refine .inr ⟨ok.goes i F2 H2 hlt e2 S2.ex, fun σ' H' => ∃ F ρ g, Ex F1 F ∧ SR c F0 H0 F H' σ' ρ O g ∧ forGo f sb (ds.drop (i + 1)) ρ g = some (r, g'), fun σ' H' ⟨F3, ρ3, g3, e3, S3, q3⟩ => ⟨ds.length - (i + 1), by omega, rfl, hlt, F3, ρ3, g3, e3, S3, q3⟩, fun x H3 hy => ?_⟩
        have hd : ds[i]? = some ds[i] := by simp [hlt]
        obtain ⟨F3, P3, rx⟩ := ok.yields i _ F2 H2 x H3 hd e2 S2.ex hy
        rw [List.drop_eq_getElem_cons hlt] at q2
        unfold forGo at q2
        cases z2 : f ds[i] ρ2 with
        | none => rw [z2] at q2; cases q2
        | some ρ3 =>
          rw [z2] at q2
          have S3 := S2.pure P3
          refine ht _ _ _ _ _ _ _ _ _ _ S3 z2 rx _ fun σ4 S4 _ => ?_
          have e3 : Ex F1 F3 := e2.trans P3.ex
          cases z3 : sb ρ3 g2 with
          | none => simp only [z3] at q2; cases q2
          | some y3 =>
            obtain ⟨o3, g3⟩ := y3
            simp only [z3] at q2
            refine hb _ _ _ _ _ _ _ _ _ S4 z3 _ ?_
            cases o3 with
            | nx ρ5 => exact fun σ5 F5 H5 e5 S5 => ⟨F5, ρ5, g3, e3.trans e5, S5, q2⟩
            | cnt ρ5 => exact fun σ5 F5 H5 e5 S5 => ⟨F5, ρ5, g3, e3.trans e5, S5, q2⟩
            | brk ρ5 =>
              cases q2
              exact fun σ5 F5 H5 e5 S5 => p σ5 F5 H5 ((G1.ex.trans e3).trans e5) S5
            | ret d =>
              cases q2
              exact p
            | exc n fs ρ5 =>
              cases q2
              exact p
      · have e : i = ds.length := by omega
        subst e
        rw [List.drop_length] at q2
        cases q2
        exact .inl ⟨ok.stops F2 H2 e2 S2.ex, p σ2 F2 H2 (G1.ex.trans e2) S2⟩
end
end MP

set_option maxRecDepth 100000
set_option maxHeartbeats 1000000
namespace MP
open PySem L2
open Evl (Ex ex_rd ex_l ex_t)
/-- nothing is raised -/
abbrev W0 : WX := fun _ _ _ _ => False
section
variable {c : Ct} {F0 H0 F H F' H' F1 : Hp} {σ : St} {ρ : Env} {O O1 O' OL : List Nat} {W : WX} {g g' : G} {te ta tb tc : TE} {tt tu : TT} {e a b : SE} {ts ts1 ts2 : TS} {s s1 s2 : SS}
/-! ### comprehensions -/
def wipeD (ρ : Env) : List Nat → Env
  | [] => ρ
  | v :: vs => (wipeD ρ vs).set v none
theorem SR.unset (S : SR c F0 H0 F H σ ρ O g) (i : Nat) : SR c F0 H0 F H (σ.set i none) (ρ.set i none) O g where
  ex := S.ex
  gr := S.gr
  len := by rw [List.length_set, List.length_set]; exact S.len
  val := fun j y k n => by
    by_cases q : i = j
    · subst q
      by_cases l : i < ρ.length
      · rw [List.getElem?_set_self l] at k; cases k
      · rw [List.getElem?_eq_none (by rw [List.length_set]; omega)] at k; cases k
    · rw [List.getElem?_set_ne q] at k ⊢
      exact S.val j y k n
  own := fun j y k m => by
    by_cases q : i = j
    · subst q
      by_cases l : i < ρ.length
      · rw [List.getElem?_set_self l] at k; cases k
      · rw [List.getElem?_eq_none (by rw [List.length_set]; omega)] at k; cases k
    · rw [List.getElem?_set_ne q] at k ⊢
      exact S.own j y k m
  dis := fun j k y z hj hk ne h1 h2 => by
    have nn : ∀ {j y}, (ρ.set i none)[j]? = some (some y) → i ≠ j := fun {j y} k q => by
      subst q
      by_cases l : i < ρ.length
      · rw [List.getElem?_set_self l] at k; cases k
      · rw [List.getElem?_eq_none (by rw [List.length_set]; omega)] at k; cases k
    have n1 := nn h1
    have n2 := nn h2
    rw [List.getElem?_set_ne n1] at h1 ⊢
    rw [List.getElem?_set_ne n2] at h2 ⊢
    exact S.dis j k y z hj hk ne h1 h2
  hand := S.hand
theorem wipe_wipe {σ : St} : ∀ {vs : List Nat}, L2.wipe (L2.wipe σ vs) vs = L2.wipe σ vs := fun {vs} => by
  have key : ∀ (us : List Nat) (τ : St), (∀ i ∈ us, τ[i]? = some none ∨ τ[i]? = none) → L2.wipe τ us = τ := fun us => by
    induction us with
    | nil => intro τ _; rfl
    | cons u us ih =>
      intro τ h
      unfold L2.wipe
      rw [ih τ (fun i hi => h i (List.mem_cons_of_mem _ hi))]
      apply List.ext_getElem?
      intro i
      by_cases q : u = i
      · subst q
        by_cases l : u < τ.length
        · rw [List.getElem?_set_self l]
          rcases h u List.mem_cons_self with k | k
          · exact k.symm
          · rw [List.getElem?_eq_getElem l] at k; cases k
        · rw [List.getElem?_eq_none (by rw [List.length_set]; omega), List.getElem?_eq_none (by omega)]
      · rw [List.getElem?_set_ne q]
  refine key vs _ fun i hi => ?_
  cases z : (L2.wipe σ vs)[i]? with
  | none => exact .inr rfl
  | some o =>
    cases o with
    | none => exact .inl rfl
    | some x => exact absurd hi (wipe_some z).2
/-- an open list changed -/
theorem gr_mut {p : Addr} {o : HO} (G : Gr c F H F' H') (h : H p = none) : Gr c F H F' (upd H' p o) where
  ex := G.ex
  keep := fun a u e k => by
    rw [upd_ne (ne_of_none e h)]
    exact G.keep a u e k
  new := G.new
  dom := fun a e => by
    by_cases q : a = p
    · subst q; exact h
    · rw [upd_ne q] at e; exact G.dom a e
theorem SR.mut {p : Addr} {o : HO} (S : SR c F0 H0 F H σ ρ O g) (h0 : H0 p = none) (hF : F p = none) (hd : c.hd ≠ some p) (hn : ∀ i d, i ∈ O → ρ[i]? = some (some d) → σ[i]? ≠ some (some (.ref p))) : SR c F0 H0 F (upd H p o) σ ρ O g where
  ex := S.ex.mut hF
  gr := gr_mut S.gr h0
  len := S.len
  val := S.val
  own := fun i d h k => by
    obtain ⟨v, h1, a, ds, vs, h2, h3, h4, h5, h6, h7, h8⟩ := S.own i d h k
    have ne : a ≠ p := fun e => hn i d k h (by rw [h1, h3, e])
    exact ⟨v, h1, a, ds, vs, h2, h3, h4, h5, h6, by rw [upd_ne ne]; exact h7, h8⟩
  dis := S.dis
  hand := by
    have z := S.hand
    unfold HandAt at z ⊢
    cases q : c.hd with
    | none => trivial
    | some a =>
      rw [q] at z
      obtain ⟨h1, vs, h2, h3⟩ := z
      have ne : a ≠ p := fun e => hd (by rw [q, e])
      exact ⟨h1, vs, by rw [upd_ne ne]; exact h2, h3⟩
theorem SR.wipe (S : SR c F0 H0 F H σ ρ O g) : ∀ vs : List Nat, SR c F0 H0 F H (L2.wipe σ vs) (wipeD ρ vs) O g
  | [] => S
  | v :: vs => (SR.wipe S vs).unset v
def compGo (f : ST) (cond elt : SE) (ρ : Env) : List MP.D → G → List MP.D → Option (List MP.D × G)
  | [], g, acc => some (acc, g)
  | d :: ds, g, acc => match f d ρ with
    | none => none
    | some ρ1 => match cond ρ1 g with
      | some (.ok (.bl true), g2) => (match elt ρ1 g2 with
        | some (.ok y, g3) => if szB (acc.length + 1) = true then compGo f cond elt ρ ds g3 (acc ++ [y]) else none
        | _ => none)
      | some (.ok (.bl false), g2) => compGo f cond elt ρ ds g2 acc
      | _ => none
def eComp (own : List Nat) (it : SA) (f : ST) (cond elt : SE) : SE := fun ρ g => match it ρ g with
  | some (.ok ds, g) => (match compGo f cond elt (wipeD ρ own) ds g [] with
    | some (acc, g) => some (.ok (.lst acc), g)
    | none => none)
  | some (.exc n fs, g) => some (.exc n fs, g)
  | none => none
def eYes : SE := fun _ g => some (.ok (.bl true), g)
theorem snd_yes : SndB c O W tYes eYes := fun F0 H0 F H σ ρ g r g' S q Q p => by
  cases q
  exact p F H (Gr.refl ..) S
theorem snd_comp {tv own : List Nat} {wi : TI} {it : SA} {tg : TG} {f : ST} {cond elt : SE} (hi : SndI c O W wi it) (ht : SndG c O O1 tv tg f) (hc : SndB c O1 W0 tt cond) (he : SndE c O1 W0 te elt) (hv : ∀ i ∈ tv, i ∈ own) (hO : ∀ i ∈ O, i ∈ O1) :
    SndL c O W (tLc wi tg tt te own) (eComp own it f cond elt) := fun F0 H0 F H σ ρ g r g' S q Q p => by
  unfold eComp at q
  cases z : it ρ g with
  | none => rw [z] at q; cases q
  | some y =>
    obtain ⟨o, g1⟩ := y
    rw [z] at q
    cases o with
    | exc n fs =>
      cases q
      exact hi _ _ _ _ _ _ _ _ _ S z _ p
    | ok ds =>
      refine hi _ _ _ _ _ _ _ _ _ S z _ fun J F1 H1 G1 S1 ok D hD => ?_
      cases z1 : compGo f cond elt (wipeD ρ own) ds g1 [] with
      | none => simp only [z1] at q; cases q
      | some y1 =>
        obtain ⟨all, ge⟩ := y1
        simp only [z1] at q
        cases q
        have hDd := hd_ne S1 hD
        have fr : ∀ i d, i ∈ O → ρ[i]? = some (some d) → σ[i]? ≠ some (some (.ref D)) := fun i d hi hd e => by
          obtain ⟨v, h1, a, es, vs, h2, h3, h4, h5, h6, h7, h8⟩ := S1.own i d hd hi
          rw [h1] at e
          have ev : v = .ref D := Option.some.inj (Option.some.inj e)
          rw [h3] at ev
          cases ev
          rw [hD] at h7
          cases h7
        refine ⟨fun i m H => m = ds.length - i ∧ i ≤ ds.length ∧ ∃ F2 g2 acc vs, Ex F1 F2 ∧ Gr c F1 H1 F2 H ∧ SR c F0 H0 F2 H σ ρ O g2 ∧ F2 D = none ∧ H D = some (.lst vs) ∧ Reps c F2 acc vs ∧ compGo f cond elt (wipeD ρ own) (ds.drop i) g2 acc = some (all, g'), ?_, ?_⟩
        · have P := gp_open (o := .lst []) S1.ex hD
          exact ⟨ds.length, by simp, Nat.zero_le _, F1, g1, [], [], .refl F1, P.gr, S1.pure P, ex_none S1.ex hD, upd_same, rfl, by simpa using z1⟩
        · rintro i m H2 ⟨rfl, hle, F2, g2, acc, vs, e2, G2, S2, nD, hl, rs, q2⟩
          by_cases hlt : i < ds.length
          · refine .inr ⟨ok.goes i F2 H2 hlt e2 S2.ex, fun H' => ∃ F2 g2 acc vs, Ex F1 F2 ∧ Gr c F1 H1 F2 H' ∧ SR c F0 H0 F2 H' σ ρ O g2 ∧ F2 D = none ∧ H' D = some (.lst vs) ∧ Reps c F2 acc vs ∧ compGo f cond elt (wipeD ρ own) (ds.drop (i + 1)) g2 acc = some (all, g'), fun H' hh => ⟨ds.length - (i + 1), by omega, rfl, hlt, hh⟩, fun x H3 hy => ?_⟩
            have hd : ds[i]? = some ds[i] := by simp [hlt]
            obtain ⟨F3, P3, rx⟩ := ok.yields i _ F2 H2 x H3 hd e2 S2.ex hy
            rw [List.drop_eq_getElem_cons hlt] at q2
            unfold compGo at q2
            cases z2 : f ds[i] (wipeD ρ own) with
            | none => rw [z2] at q2; cases q2
            | some ρ3 =>
              rw [z2] at q2
              have S3 := S2.pure P3
              have open_ : ∀ {Fa Ha Fb Hb}, Gr c Fa Ha Fb Hb → Fa D = none → (∃ u, Ha D = some u) → Fb D = none := fun {Fa Ha Fb Hb} G n ⟨u, hu⟩ => by
                cases w : Fb D with
                | none => rfl
                | some y =>
                  have := G.new D n (by rw [w]; exact Option.some_ne_none y)
                  rw [hu] at this
                  cases this
              have nD3 : F3 D = none := open_ P3.gr nD ⟨_, hl⟩
              have hl3 : H3 D = some (.lst vs) := P3.keep _ _ hl
              have G3 : Gr c F1 H1 F3 H3 := G2.trans P3.gr
              refine ht _ _ _ _ _ _ _ _ _ _ (S3.wipe own) z2 rx _ fun σ4 S4 w4 => ⟨?_, ?_⟩
              · rw [w4 own hv]
                exact wipe_wipe
              · cases z3 : cond ρ3 g2 with
                | none => simp only [z3] at q2; cases q2
                | some y3 =>
                  obtain ⟨o3, g3⟩ := y3
                  simp only [z3] at q2
                  refine hc _ _ _ _ _ _ _ _ _ S4 z3 _ ?_
                  cases o3 with
                  | exc n fs => simp only at q2; cases q2
                  | ok d3 =>
                    cases d3 with
                    | bl bb =>
                      intro F5 H5 G5 S5
                      have nD5 := open_ G5 nD3 ⟨_, hl3⟩
                      have hl5 : H5 D = some (.lst vs) := G5.keep _ _ hl3 hDd
                      have S5' : SR c F0 H0 F5 H5 σ ρ O g3 := S3.next G5 S5.ex S5.hand
                      cases bb with
                      | false =>
                        simp only at q2
                        rw [if_neg Bool.false_ne_true]
                        exact ⟨F5, g3, acc, vs, (e2.trans P3.ex).trans G5.ex, G3.trans G5, S5', nD5, hl5, rs.mono (P3.ex.trans G5.ex), q2⟩
                      | true =>
                        simp only at q2
                        rw [if_pos rfl]
                        cases z4 : elt ρ3 g3 with
                        | none => simp only [z4] at q2; cases q2
                        | some y4 =>
                          obtain ⟨o4, g4⟩ := y4
                          simp only [z4] at q2
                          cases o4 with
                          | exc n fs => simp only at q2; cases q2
                          | ok y =>
                            simp only at q2
                            by_cases hz : szB (acc.length + 1) = true
                            · rw [if_pos hz] at q2
                              refine he _ _ _ _ _ _ _ _ _ S5 z4 _ fun v F6 H6 G6 S6 rv => ?_
                              have nD6 := open_ G6 nD5 ⟨_, hl5⟩
                              have hl6 : H6 D = some (.lst vs) := G6.keep _ _ hl5 hDd
                              have S6' : SR c F0 H0 F6 H6 σ ρ O g4 := S5'.next G6 S6.ex S6.hand
                              have rs6 : Reps c F6 acc vs := rs.mono ((P3.ex.trans G5.ex).trans G6.ex)
                              refine ⟨vs, hl6, ?_, F6, g4, acc ++ [y], vs ++ [v], ((e2.trans P3.ex).trans G5.ex).trans G6.ex, gr_mut ((G3.trans G5).trans G6) hD, S6'.mut (S1.gr.dom D hD) nD6 hDd fr, nD6, upd_same, rs6.append (.one rv), q2⟩
                              have := szB_ok hz
                              rw [rs6.len]
                              omega
                            · rw [if_neg hz] at q2
                              cases q2
                    | _ => simp only at q2; cases q2
          · have e : i = ds.length := by omega
            subst e
            rw [List.drop_length] at q2
            cases q2
            exact .inl ⟨ok.stops F2 H2 e2 S2.ex, p D vs F2 H2 (G1.trans G2) S2 (G1.dom D hD) nD hDd hl rs⟩
theorem lst_comp {own : List Nat} {it : SA} {f : ST} {cond elt : SE} : ∀ ρ g d g', eComp own it f cond elt ρ g = some (.ok d, g') → ∃ ds, d = .lst ds := fun ρ g d g' q => by
  unfold eComp at q
  split at q
  · split at q
    · cases q
      exact ⟨_, rfl⟩
    · cases q
  · cases q
  · cases q
theorem lst_disp {ar : SA} : ∀ ρ g d g', eArgs (pf fLst) ar ρ g = some (.ok d, g') → ∃ ds, d = .lst ds := fun ρ g d g' q => by
  unfold eArgs at q
  split at q
  · rename_i ds g1 _
    simp only [pf, fLst] at q
    by_cases z : szB ds.length = true
    · rw [if_pos z] at q
      cases q
      exact ⟨_, rfl⟩
    · rw [if_neg z] at q
      cases q
  · cases q
  · cases q
theorem lst_list {e : SE} : ∀ ρ g d g', eUn fList e ρ g = some (.ok d, g') → ∃ ds, d = .lst ds := fun ρ g d g' q => by
  unfold eUn at q
  rcases bE_some q with ⟨x, g1, q1, q2⟩ | ⟨n, f, _, q1⟩
  · cases x with
    | lst ds => cases q2; exact ⟨_, rfl⟩
    | tup ds => cases q2; exact ⟨_, rfl⟩
    | _ => cases q2
  · cases q1
/-! ### while -/
def whileGo (t : SE) (body : SS) : Nat → Env → G → Option (SOut × G)
  | 0, _, _ => none
  | n + 1, ρ, g => match t ρ g with
    | some (.ok (.bl true), g1) => (match body ρ g1 with
      | some (.nx ρ2, g2) => whileGo t body n ρ2 g2
      | some (.cnt ρ2, g2) => whileGo t body n ρ2 g2
      | some (.brk ρ2, g2) => some (.nx ρ2, g2)
      | some (.ret d, g2) => some (.ret d, g2)
      | some (.exc m fs ρ2, g2) => some (.exc m fs ρ2, g2)
      | none => none)
    | some (.ok (.bl false), g1) => some (.nx ρ, g1)
    | some (.exc m fs, g1) => some (.exc m fs ρ, g1)
    | _ => none
def sWhile (n : Nat) (t : SE) (body : SS) : SS := whileGo t body n
theorem snd_while {n : Nat} {t : SE} {tb : TS} {sb : SS} (ht : SndB c O W tt t) (hb : SndS c O O O W tb sb) : SndS c O O OL W (tWhile tt tb) (sWhile n t sb) := fun F0 H0 F H σ ρ g r g' S q D p => by
  refine ⟨fun m σ H => ∃ F2 ρ g, Ex F F2 ∧ SR c F0 H0 F2 H σ ρ O g ∧ whileGo t sb m ρ g = some (r, g'), ⟨n, F, ρ, g, .refl F, S, q⟩, ?_⟩
  rintro m σ2 H2 ⟨F2, ρ2, g2, e2, S2, q2⟩
  cases m with
  | zero => cases q2
  | succ m =>
    unfold whileGo at q2
    cases z : t ρ2 g2 with
    | none => rw [z] at q2; cases q2
    | some y =>
      obtain ⟨o, g3⟩ := y
      rw [z] at q2
      refine ht _ _ _ _ _ _ _ _ _ S2 z _ ?_
      cases o with
      | exc n fs =>
        cases q2
        exact postX_of S2 (SPost.gr e2 p)
      | ok d =>
        cases d with
        | bl bb =>
          intro F3 H3 G3 S3
          cases bb with
          | false =>
            cases q2
            rw [if_neg Bool.false_ne_true]
            exact p σ2 F3 H3 (e2.trans G3.ex) S3
          | true =>
            rw [if_pos rfl]
            refine ⟨fun σ' H' => ∃ F2 ρ g, Ex F F2 ∧ SR c F0 H0 F2 H' σ' ρ O g ∧ whileGo t sb m ρ g = some (r, g'), fun σ' H' hh => ⟨m, Nat.lt_succ_self m, hh⟩, ?_⟩
            cases z3 : sb ρ2 g3 with
            | none => simp only [z3] at q2; cases q2
            | some y3 =>
              obtain ⟨o3, g4⟩ := y3
              simp only [z3] at q2
              refine hb _ _ _ _ _ _ _ _ _ S3 z3 _ ?_
              cases o3 with
              | nx ρ5 => exact fun σ5 F5 H5 e5 S5 => ⟨F5, ρ5, g4, (e2.trans G3.ex).trans e5, S5, q2⟩
              | cnt ρ5 => exact fun σ5 F5 H5 e5 S5 => ⟨F5, ρ5, g4, (e2.trans G3.ex).trans e5, S5, q2⟩
              | brk ρ5 =>
                cases q2
                exact fun σ5 F5 H5 e5 S5 => p σ5 F5 H5 ((e2.trans G3.ex).trans e5) S5
              | ret d =>
                cases q2
                exact p
              | exc n fs ρ5 =>
                cases q2
                exact p
        | _ => cases q2
/-! ### x.append(e), x[i] = e of an owned list -/
def sApp (i : Nat) (e : SE) : SS := fun ρ g => match ρ[i]? with
  | some (some (.lst _)) => bV (e ρ g) ρ fun d g => (match ρ[i]? with
    | some (some (.lst ds)) => if szB (ds.length + 1) = true then some (.nx (ρ.set i (some (.lst (ds ++ [d])))), g) else none
    | _ => none)
  | _ => none
theorem SR.setMut {i : Nat} {p : Addr} {ds : List MP.D} {vs : List V} (S : SR c F0 H0 F H σ ρ O g) (hi : i ∈ O) {d0 : MP.D} (h : ρ[i]? = some (some d0)) (hv : σ[i]? = some (some (.ref p))) (rs : Reps c F ds vs) :
    SR c F0 H0 F (upd H p (.lst vs)) σ (ρ.set i (some (.lst ds))) O g := by
  obtain ⟨v, h1, a, es, ws, h2, h3, h4, h5, h6, h7, h8⟩ := S.own i d0 h hi
  have ea : a = p := by
    rw [h1] at hv
    have := Option.some.inj (Option.some.inj hv)
    rw [h3] at this
    cases this
    rfl
  subst ea
  have hl : i < ρ.length := by
    by_cases l : i < ρ.length
    · exact l
    · rw [List.getElem?_eq_none (by omega)] at h; cases h
  refine ⟨S.ex.mut h5, gr_mut S.gr h4, by rw [List.length_set]; exact S.len, fun j y k n => ?_, fun j y k m => ?_, fun j k y z hj hk ne k1 k2 => ?_, ?_⟩
  · have q : i ≠ j := fun e => n (e ▸ hi)
    rw [List.getElem?_set_ne q] at k
    exact S.val j y k n
  · by_cases q : i = j
    · subst q
      rw [List.getElem?_set_self hl] at k
      cases k
      exact ⟨_, hv, a, ds, vs, rfl, rfl, h4, h5, h6, upd_same, rs⟩
    · rw [List.getElem?_set_ne q] at k
      obtain ⟨w, k1, b, es2, ws2, k2, k3, k4, k5, k6, k7, k8⟩ := S.own j y k m
      have ne : b ≠ a := fun e => S.dis j i y d0 m hi (fun e => q e.symm) k h (by rw [k1, hv, k3, e])
      exact ⟨w, k1, b, es2, ws2, k2, k3, k4, k5, k6, by rw [upd_ne ne]; exact k7, k8⟩
  · have back : ∀ {j y}, (ρ.set i (some (.lst ds)))[j]? = some (some y) → ∃ y', ρ[j]? = some (some y') := fun {j y} k => by
      by_cases q : i = j
      · subst q; exact ⟨d0, h⟩
      · rw [List.getElem?_set_ne q] at k; exact ⟨y, k⟩
    obtain ⟨y', k1⟩ := back k1
    obtain ⟨z', k2⟩ := back k2
    exact S.dis j k y' z' hj hk ne k1 k2
  · have z := S.hand
    unfold HandAt at z ⊢
    cases q : c.hd with
    | none => trivial
    | some b =>
      rw [q] at z
      obtain ⟨k1, us, k2, k3⟩ := z
      have ne : b ≠ a := fun e => h6 (by rw [q, e])
      exact ⟨k1, us, by rw [upd_ne ne]; exact k2, k3⟩
theorem snd_app {i : Nat} (hi : i ∈ O) (h : SndE c O W te e) : SndS c O O OL W (tDrop (tBM c.K "list" rAppend (tVar i) (tCons te tNil))) (sApp i e) := fun F0 H0 F H σ ρ g r g' S q D p => by
  unfold sApp at q
  split at q
  · rename_i ds hρ
    obtain ⟨v, h1, a, es, vs, h2, h3, h4, h5, h6, h7, h8⟩ := S.own i _ hρ hi
    cases h2
    subst h3
    refine ⟨.ref a, h1, .inl ⟨rfl, vs, SqL.of h7⟩, ?_⟩
    rcases bV_some q with ⟨d, g1, q1, q2⟩ | ⟨n, f, q1, rfl⟩
    · simp only [hρ] at q2
      by_cases hz : szB (ds.length + 1) = true
      · rw [if_pos hz] at q2
        cases q2
        refine h _ _ _ _ _ _ _ _ _ S q1 _ fun v1 F1 H1 G1 S1 rv => ?_
        have hl : H1 a = some (.lst vs) := G1.keep _ _ h7 h6
        refine ⟨a, vs, v1, rfl, rfl, hl, ?_, p σ F1 _ G1.ex (S1.setMut hi hρ h1 ((h8.mono G1.ex).append (.one rv)))⟩
        have := szB_ok hz
        rw [h8.len]
        omega
      · rw [if_neg hz] at q2
        cases q2
    · exact h _ _ _ _ _ _ _ _ _ S q1 _ (postX_of S p)
  · cases q
def sSetIx (i : Nat) (ix e : SE) : SS := fun ρ g => match ρ[i]? with
  | some (some (.lst ds)) => bV (e ρ g) ρ fun d g => bV (ix ρ g) ρ fun k g => (match k with
    | .int k => (match ixN ds.length k with
      | some j => some (.nx (ρ.set i (some (.lst (ds.set j d)))), g)
      | none => none)
    | _ => none)
  | _ => none
theorem snd_setix {i : Nat} {ix : SE} {ti : TE} (hi : i ∈ O) (hx : SndE c O W ti ix) (h : SndE c O W te e) : SndS c O O OL W (tAsg te (gSub (tVar i) ti rSetL)) (sSetIx i ix e) := fun F0 H0 F H σ ρ g r g' S q D p => by
  unfold sSetIx at q
  split at q
  · rename_i ds hρ
    rcases bV_some q with ⟨d, g1, q1, q2⟩ | ⟨n, f, q1, rfl⟩
    · refine h _ _ _ _ _ _ _ _ _ S q1 _ fun v1 F1 H1 G1 S1 rv => ?_
      obtain ⟨v, h1, a, es, vs, h2, h3, h4, h5, h6, h7, h8⟩ := S1.own i _ hρ hi
      cases h2
      subst h3
      refine ⟨.ref a, h1, ?_⟩
      rcases bV_some q2 with ⟨k, g2, q3, q4⟩ | ⟨n, f, q3, rfl⟩
      · refine hx _ _ _ _ _ _ _ _ _ S1 q3 _ fun v2 F2 H2 G2 S2 rv2 => ?_
        cases k with
        | int kk =>
          cases rv2
          simp only at q4
          cases z : ixN ds.length kk with
          | none => rw [z] at q4; cases q4
          | some j =>
            rw [z] at q4
            cases q4
            have hl : H2 a = some (.lst vs) := G2.keep _ _ h7 h6
            exact ⟨a, vs, kk, j, rfl, rfl, hl, by rw [h8.len]; exact z, p σ F2 _ (G1.ex.trans G2.ex) (S2.setMut hi hρ h1 ((h8.mono G2.ex).set (rv.mono G2.ex)))⟩
        | _ => cases q4
      · exact hx _ _ _ _ _ _ _ _ _ S1 q3 _ (postX_of S1 (SPost.gr G1.ex p))
    · exact h _ _ _ _ _ _ _ _ _ S q1 _ (postX_of S p)
  · cases q
end
/-! ### calls of own defs -/
def tCallD (sp : Sp) (dvs : List V) (E : St → XK) (t : TA) : TE := fun σ H Q => t σ H fun vs H1 => sp (vs ++ dvs) H1 Q (E σ)
section
variable {X : Cx} {CX : CXT} {k : Nat} {f C : Addr} {fd : FuncData} {ps : List Str} {sp : Sp} {E : St → XK} {x m : Str} {p pos apos : Pos} {e o : Expr} {es : List Expr} {ta : TE} {t : TA} {dvs : List V} {us0 : List Value}
theorem run_fnD {pins : List (Addr × Obj)} {σ : St} {H : Hp} {s : Shared} {Q : VK} {us : List Value} {vs : List V} (F : FnOk X.prog X.w X.K X.mg X.base CX k f fd ps sp) (hr : Room k X.A) (hb : Binds X.K fd ps us0) (hd : Vals dvs us0) (hx : PassesAt CX X σ (E σ))
    (I : Inv X pins σ H s) (r : Vals vs us) (h : sp (vs ++ dvs) H Q (E σ)) : wpAny (model X.prog X.w) X.A (call (.ref f) us) (EP X pins σ Q) X.xe s := by
  have r2 : Vals (vs ++ dvs) (us ++ us0) := r.append hd
  have hl : (us ++ us0).length = ps.length := by
    rw [← r2.length]
    exact F.len _ _ _ _ h
  refine wpAny_call (codeAny_mono (F.run X.A X.stack s H ⟨us, []⟩ (us ++ us0) (vs ++ dvs) Q (E σ) hr I.env0 (hb s us I.kIn hl) r2 h) fun r s' hq => ?_)
  cases r with
  | error y => exact hx pins H s y s' I hq
  | ok fl =>
    cases fl with
    | ret u => exact I.after hq
    | next => exact hq.elim
    | brk => exact hq.elim
    | cont => exact hq.elim
theorem pe_callD (F : FnOk X.prog X.w X.K X.mg X.base CX k f fd ps sp) (hr : Room k X.A) (hg : Gl X x) (hm : X.mg x = some (.ref f)) (hk : PySem.W.keepIn X.K (.ref f) = true) (hb : Binds X.K fd ps us0) (hd : Vals dvs us0) (hx : ∀ σ, PassesAt CX X σ (E σ))
    (ha : PA X (e :: es) t) (hdb : (x == ("__debug__" : Str)) = false := by decide) (he : starEach (e :: es) X.env = (false, eval e X.env) :: starEach es X.env := by rfl) (hpl : (backTo pos (starEach es X.env)).any (·.1) = false := by rfl) :
    PE X (.Call (.Name x p) (e :: es) [] pos) (tCallD sp dvs E t) := by
  refine ⟨fun pins s σ H Q I h => wpAny_Call_Name_kw (ld_glob I hg hm ?_ hdb)⟩
  refine PySem.W.callWith_K (h₀ := X.base) I.ok.mod.kin hk (thn (ha.run pos pins s σ H _ I h) fun us s1 y => ?_) he hpl
  obtain ⟨vs, H1, I1, r, q⟩ := y
  exact ⟨I1.kIn, run_fnD F hr hb hd (hx σ) I1 r q⟩
end
section
variable {c : Ct} {F0 H0 F H F' H' F1 : Hp} {σ : St} {ρ : Env} {O O1 O' OL : List Nat} {W : WX} {g g' : G} {te ta tb tc : TE} {e a b : SE}
def eCall (m : FM) (dd : List MP.D) (r : SA) : SE := eArgs (fun ds g => m (ds ++ dd) g) r
/-- the promise whatever the hand -/
def specA (K : PySem.W.Frag) (ca : Str → Addr) (m : FM) : Sp := fun vs H Q E => ∃ h, specOf ⟨K, ca, h⟩ m vs H Q E
theorem snd_call {m : FM} {dd : List MP.D} {dvs : List V} {tr : TA} {ar : SA} {E : St → XK} (h : SndA c O W tr ar) (hd : ∀ F, Reps c F dd dvs) (hE : ∀ σ, E σ = fun cls d H => W cls d σ H) : SndE c O W (tCallD (specA c.K c.ca m) dvs E tr) (eCall m dd ar) := fun F0 H0 F H σ ρ g o g' S q Q p => by
  refine h.bind S q p fun ds g1 vs F1 H1 q1 G1 S1 rs => ?_
  refine ⟨c.hd, F1, ds ++ dd, g1, o, g', S1.ex, S1.hand, rs.append (hd F1), q1, ?_⟩
  cases o with
  | ok d => exact fun v F2 H2 G2 ex hh rv => p v F2 H2 (G1.trans G2) (S1.next G2 ex hh) rv
  | exc n fs =>
    intro cls dd F2 H2 G2 ex hh x
    rw [hE]
    exact p cls dd F2 H2 (G1.trans G2) (S1.next G2 ex hh) x
/-! ### a def by its body -/
def mkFn (nn np : Nat) (s : SS) : FM := fun ds g => if ds.length = np then (match s (ds.map some ++ List.replicate (nn - np) none) g with
  | some (.nx _, g) => some (.ok .non, g)
  | some (.ret d, g) => some (.ok d, g)
  | some (.exc n f _, g) => some (.exc n f, g)
  | _ => none) else none
theorem spec_len {m : FM} {n : Nat} (h : ∀ ds g r, m ds g = some r → ds.length = n) : ∀ vs H Q E, specOf c m vs H Q E → vs.length = n := fun vs H Q E q => by
  obtain ⟨F, ds, g, r, g', _, _, rs, q, _⟩ := q
  rw [rs.len, h _ _ _ q]
theorem mkFn_len {nn np : Nat} {s : SS} : ∀ ds g r, mkFn nn np s ds g = some r → ds.length = np := fun ds g r q => by
  unfold mkFn at q
  by_cases z : ds.length = np
  · exact z
  · rw [if_neg z] at q
    cases q
theorem reps_start {ds : List MP.D} {vs : List V} {N : List Str} {np : Nat} (h : Reps c F ds vs) (hn : ds.length = np) (ex : Ex F H) (hh : HandAt c F H g) : SR c F H F H (L2.start N vs) (ds.map some ++ List.replicate (N.length - np) none) [] g where
  ex := ex
  gr := Gr.refl ..
  len := by simp [L2.start, h.len, hn]
  val := fun i d k _ => by
    unfold L2.start
    by_cases l : i < ds.length
    · rw [List.getElem?_append_left (by simpa using l)] at k
      rw [List.getElem?_append_left (by simpa [h.len] using l)]
      rw [List.getElem?_map] at k
      cases z : ds[i]? with
      | none => rw [z] at k; cases k
      | some y =>
        rw [z] at k
        cases k
        obtain ⟨v, k1, k2⟩ := h.get z
        exact ⟨v, by rw [List.getElem?_map, k1]; rfl, k2⟩
    · rw [List.getElem?_append_right (by simpa using l)] at k
      have := List.mem_of_getElem? k
      rw [List.mem_replicate] at this
      exact absurd this.2 (Option.some_ne_none d)
  own := fun i d _ m => by cases m
  dis := fun i j d e m => by cases m
  hand := hh
/-- the body's meaning answers the def's promise -/
theorem body_ok {N : List Str} {np : Nat} {ts : TS} {s : SS} {vs : List V} {Q : VK} {E : XK} (h : SndS c [] O' OL (fun cls d _ H => E cls d H) ts s) (q : specOf c (mkFn N.length np s) vs H Q E) : ts { nx := fun _ H' => Q .non H', rt := Q } (L2.start N vs) H := by
  obtain ⟨F, ds, g, r, g', ex, hh, rs, q, p⟩ := q
  have hn := mkFn_len _ _ _ q
  unfold mkFn at q
  rw [if_pos hn] at q
  cases z : s (ds.map some ++ List.replicate (N.length - np) none) g with
  | none => rw [z] at q; cases q
  | some y =>
    obtain ⟨o, g1⟩ := y
    rw [z] at q
    refine h _ _ _ _ _ _ _ _ _ (reps_start rs hn ex hh) z _ ?_
    cases o with
    | nx ρ =>
      cases q
      exact fun σ' F1 H1 e1 S1 => p .non F1 H1 S1.gr S1.ex S1.hand rfl
    | ret d =>
      cases q
      exact fun v F1 H1 G1 ex hh rv => p v F1 H1 G1 ex hh rv
    | exc n fs ρ =>
      cases q
      exact fun cls dd σ F1 H1 S1 x => p cls dd F1 H1 S1.gr S1.ex S1.hand x
    | brk ρ => cases q
    | cnt ρ => cases q
end
section
variable {P : Program} {w : World} {K : PySem.W.Frag} {mg : Str → Option Value} {base : Heap} {x qual : Str} {params : Arguments} {body : List Stmt} {scope : Scope} {dvs : List V} {kws : List (Str × V)} {f : Addr} {fd : FuncData}
theorem fn_ok {ca : Str → Addr} {N ps : List Str} {k : Nat} {s : SS} (F : FunD K x qual params body scope dvs kws f fd) (S : FnScope N ps scope)
    (hb : ∀ (h : Option Addr) (cdv : Value) (A : Around) (outer : List PySem.Env) (st : Shared) (H : Hp) (E : XK), Room k (A.deeper (PyProof.Rows.envOfC qual scope st.heap.objs.size f cdv)) → ∃ ts O' OL, PSs (cxOf (L2.CX P w) P w K mg base N qual scope f cdv A outer st H E) body ts ∧ SndS ⟨K, ca, h⟩ [] O' OL (fun cls d _ H => E cls d H) ts s) :
    FnOk P w K mg base (L2.CX P w) (k + 1) f fd ps (specA K ca (mkFn N.length ps.length s)) :=
  F.ok S (fun vs H Q E ⟨_, q⟩ => spec_len mkFn_len vs H Q E q) fun cdv A outer st H vs Q E hr ⟨h, q⟩ => by
    obtain ⟨ts, O', OL, h1, h2⟩ := hb h cdv A outer st H E hr
    exact ⟨ts, h1, body_ok h2 q⟩
/-- a def that is known to do what m says -/
theorem fn_as {ca : Str → Addr} {ps : List Str} {k : Nat} {CX : CXT} {m m' : FM} (F : FnOk P w K mg base CX k f fd ps (specA K ca m)) (h : ∀ ds g r, m' ds g = some r → m ds g = some r) : FnOk P w K mg base CX k f fd ps (specA K ca m') :=
  F.imp fun vs H Q E ⟨hd, q⟩ => by
    obtain ⟨F, ds, g, r, g', ex, hh, rs, q, p⟩ := q
    exact ⟨hd, F, ds, g, r, g', ex, hh, rs, h _ _ _ q, p⟩
end
end MP

set_option maxRecDepth 100000
set_option maxHeartbeats 1000000
namespace MP
open PySem L2
open Evl (Ex ex_rd ex_l ex_t)
section
variable {c : Ct} {F0 H0 F H F' H' F1 : Hp} {σ : St} {ρ : Env} {O O1 O2 O' OL : List Nat} {W : WX} {g g' : G} {te ta tb tc : TE} {tt tu : TT} {e a b e1 e2 : SE} {ts ts1 ts2 : TS} {s s1 s2 : SS}
def subB (A B : List Nat) : Bool := A.all fun i => B.contains i
theorem subB_ok {A B : List Nat} (h : subB A B = true) : ∀ i, i ∈ A → i ∈ B := fun i hi => by
  have := List.all_eq_true.mp h i hi
  simpa using this
theorem snd_lessB (O1 : List Nat) (h : SndS c O1 O' OL W ts s) (k : subB O1 O = true := by rfl) : SndS c O O' OL W ts s := snd_less h (subB_ok k)
theorem snd_moreB (O1 : List Nat) (h : SndS c O O1 OL W ts s) (k : subB O' O1 = true := by rfl) : SndS c O O' OL W ts s := snd_more h (subB_ok k)
theorem snd_brkB (k : subB OL O = true := by rfl) : SndS c O O' OL W tBreak sBrk := snd_brk (subB_ok k)
theorem snd_cntB (k : subB OL O = true := by rfl) : SndS c O O' OL W tCont sCnt := snd_cnt (subB_ok k)
/-! a < b < c -/
def eChain (f h : MP.D → MP.D → Option MP.D) (a b d : SE) : SE := fun ρ g => bE (a ρ g) fun x g => bE (b ρ g) fun y g => match f x y with
  | some (.bl true) => bE (d ρ g) fun z g => (match h y z with
    | some u => some (.ok u, g)
    | none => none)
  | some (.bl false) => some (.ok (.bl false), g)
  | _ => none
theorem snd_chain {r r' : R2} {f h : MP.D → MP.D → Option MP.D} {d : SE} (ha : SndE c O W ta a) (hb : SndE c O W tb b) (hd : SndE c O W tc d) (hr : RV c r f) (hr' : RV c r' h) : SndE c O W (tChain r r' ta tb tc) (eChain f h a b d) := fun F0 H0 F H σ ρ g ro g' S q Q p => by
  refine ha.bind S q p fun x g1 vx F1 H1 q1 G1 S1 rx => ?_
  refine hb.bind S1 q1 (p.gr G1) fun y g2 vy F2 H2 q2 G2 S2 ry => ?_
  cases z : f x y with
  | none => simp only [z] at q2; cases q2
  | some u =>
    simp only [z] at q2
    refine hr F2 H2 x y u vx vy S2.ex z (rx.mono G2.ex) ry _ fun v F3 H3 P rv => ?_
    cases u with
    | bl k =>
      cases rv
      refine ⟨k, rfl, ?_⟩
      have G3 := (G1.trans G2).trans P.gr
      cases k with
      | true =>
        rw [if_pos rfl]
        refine hd.bind (S2.pure P) q2 (p.gr G3) fun w g3 vw F4 H4 q3 G4 S4 rw_ => ?_
        cases z2 : h y w with
        | none => simp only [z2] at q3; cases q3
        | some u2 =>
          simp only [z2] at q3
          cases q3
          exact hr' F4 H4 y w u2 vy vw S4.ex z2 ((ry.mono P.ex).mono G4.ex) rw_ Q fun v F5 H5 P5 rv => p v F5 H5 ((G3.trans G4).trans P5.gr) (S4.pure P5) rv
      | false =>
        rw [if_neg Bool.false_ne_true]
        cases q2
        exact p _ F3 H3 G3 (S2.pure P) rfl
    | _ => simp only at q2; cases q2
/-! x = y = e -/
def sAsg2 (i j : Nat) (e : SE) : SS := fun ρ g => bV (e ρ g) ρ fun d g => some (.nx ((ρ.set i (some d)).set j (some d)), g)
theorem snd_asg2 {i j : Nat} (h : SndE c O W te e) : SndS c O ((O.filter (· != i)).filter (· != j)) OL W (tAsg2 te (gName i) (gName j)) (sAsg2 i j e) := fun F0 H0 F H σ ρ g r g' S q D p => by
  unfold sAsg2 at q
  rcases bV_some q with ⟨d, g1, q1, q2⟩ | ⟨n, fs, q1, rfl⟩
  · cases q2
    exact h _ _ _ _ _ _ _ _ _ S q1 _ fun v F1 H1 G1 S1 rv => p _ F1 H1 G1.ex ((S1.set (d := fun _ => True) rv).set (d := fun _ => True) rv)
  · exact h _ _ _ _ _ _ _ _ _ S q1 _ (postX_of S p)
/-! x -= e, x += e of whole numbers -/
def sAug (i : Nat) (f : Int → Int → Int) (e : SE) : SS := fun ρ g => match ρ[i]? with
  | some (some (.int x)) => bV (e ρ g) ρ fun d g => (match d with
    | .int y => some (.nx (ρ.set i (some (.int (f x y)))), g)
    | _ => none)
  | _ => none
theorem snd_aug {i : Nat} {f : Int → Int → Int} (hi : i ∉ O) (h : SndE c O W te e) : SndS c O (O.filter (· != i)) OL W (tAug i te (fun x y H Q => ∃ a b, x = .int a ∧ y = .int b ∧ Q (.int (f a b)) H)) (sAug i f e) := fun F0 H0 F H σ ρ g r g' S q D p => by
  unfold sAug at q
  split at q
  · rename_i x hρ
    obtain ⟨v, h1, h2⟩ := S.val i _ hρ hi
    cases h2
    refine ⟨_, h1, ?_⟩
    rcases bV_some q with ⟨d, g1, q1, q2⟩ | ⟨n, fs, q1, rfl⟩
    · refine h _ _ _ _ _ _ _ _ _ S q1 _ fun v F1 H1 G1 S1 rv => ?_
      cases d with
      | int y =>
        cases rv
        cases q2
        exact ⟨x, y, rfl, rfl, p _ F1 H1 G1.ex (S1.set (d := fun _ => True) (x := .int (f x y)) rfl)⟩
      | _ => cases q2
    · exact h _ _ _ _ _ _ _ _ _ S q1 _ (postX_of S p)
  · cases q
/-! the hand -/
def eHix (i : Nat) (k : Int) : SE := fun ρ g => match ρ[i]? with
  | some (some .hand) => (match atI g k with
    | some d => some (.ok d, g)
    | none => none)
  | _ => none
theorem hand_at {hdp : Addr} (S : SR c F0 H0 F H σ ρ O g) (h : c.hd = some hdp) : F hdp = none ∧ ∃ vs, H hdp = some (.lst vs) ∧ Reps c F g vs := by
  have z := S.hand
  unfold HandAt at z
  rw [h] at z
  exact z
theorem snd_hix {i : Nat} {k : Int} (hi : i ∉ O) : SndE c O W (tOp (rIx c.K) (tVar i) (tC (.int k))) (eHix i k) := fun F0 H0 F H σ ρ g r g' S q Q p => by
  unfold eHix at q
  split at q
  · rename_i hρ
    obtain ⟨v, h1, b, h2, h3⟩ := S.val i _ hρ hi
    obtain ⟨_, vs, h4, h5⟩ := hand_at S h2
    cases z : atI g k with
    | none => rw [z] at q; cases q
    | some d =>
      rw [z] at q
      cases q
      obtain ⟨w, k1, k2⟩ := atI_reps h5 z
      exact ⟨v, h1, .inl ⟨b, vs, k, w, h3, rfl, SqL.of h4, k1, p w F H (Gr.refl ..) S k2⟩⟩
  · cases q
def sHset (i : Nat) (k : Int) (e : SE) : SS := fun ρ g => match ρ[i]? with
  | some (some .hand) => bV (e ρ g) ρ fun d g => (match ixN g.length k with
    | some j => some (.nx ρ, g.set j d)
    | none => none)
  | _ => none
theorem snd_hset {i : Nat} {k : Int} (hi : i ∉ O) (h : SndE c O W te e) : SndS c O O OL W (tAsg te (gSub (tVar i) (tC (.int k)) rSetL)) (sHset i k e) := fun F0 H0 F H σ ρ g r g' S q D p => by
  unfold sHset at q
  split at q
  · rename_i hρ
    rcases bV_some q with ⟨d, g1, q1, q2⟩ | ⟨n, f, q1, rfl⟩
    · refine h _ _ _ _ _ _ _ _ _ S q1 _ fun v1 F1 H1 G1 S1 rv => ?_
      obtain ⟨v, h1, b, h2, h3⟩ := S1.val i _ hρ hi
      obtain ⟨nF, vs, h4, h5⟩ := hand_at S1 h2
      cases z : ixN g1.length k with
      | none => rw [z] at q2; cases q2
      | some j =>
        rw [z] at q2
        cases q2
        refine ⟨v, h1, b, vs, k, j, h3, rfl, h4, by rw [h5.len]; exact z, p σ F1 _ G1.ex ?_⟩
        refine ⟨S1.ex.mut nF, ⟨S1.gr.ex, fun x o e ne => ?_, S1.gr.new, fun x e => ?_⟩, S1.len, S1.val, fun i d k m => ?_, S1.dis, ?_⟩
        · have ne' : x ≠ b := fun q => ne (by rw [h2, q])
          rw [upd_ne ne']
          exact S1.gr.keep x o e ne
        · by_cases q : x = b
          · subst q; rw [upd_same] at e; cases e
          · rw [upd_ne q] at e; exact S1.gr.dom x e
        · obtain ⟨w, k1, b2, ds2, vs2, k2, k3, k4, k5, k6, k7, k8⟩ := S1.own i d k m
          have ne : b2 ≠ b := fun q => k6 (by rw [h2, q])
          exact ⟨w, k1, b2, ds2, vs2, k2, k3, k4, k5, k6, by rw [upd_ne ne]; exact k7, k8⟩
        · unfold HandAt
          rw [h2]
          exact ⟨nF, _, upd_same, h5.set rv⟩
    · exact h _ _ _ _ _ _ _ _ _ S q1 _ (postX_of S p)
  · cases q
end
theorem pt_truthX {X : Cx} {a : Expr} {ta : TE} (ha : PE X a ta) (he : ∀ whole, isTrue a X.env whole = (do let v ← whole; standAt a.pos; holding [v] (truthy v)) := by intro _; rfl) : PT X a (tTru X.K ta) := pt_truth ha he
theorem passB {X : Cx} (σ : St) : PassesAt (L2.CX X.prog X.w) X σ (WE W0 σ) := fun _ _ _ _ _ _ h => by
  obtain ⟨_, _, _, _, _, _, _, _, _, _, _, _, z⟩ := h
  exact z.elim
/-! ### what is around a program's defs -/
structure Pk (fa : List He.Fa) (fn : List He.DefD) (K : PySem.W.Frag) (mg : Str → Option Value) : Prop where
  says : He.SaysD fa fn K
  mod : ∃ h : Heap, K.In h ∧ h.Ns mainGlobals mg
section
variable {fa : List He.Fa} {fn : List He.DefD} {K : PySem.W.Frag} {mg : Str → Option Value}
theorem Pk.glo (Z : Pk fa fn K mg) (i : Nat) {x : Str} (h : fa[i]? = some (.glo x) := by rfl) : mg x = some (.ref (He.ga K x)) := by
  obtain ⟨h0, X, G⟩ := Z.mod
  exact He.glo_ok X G (Z.says.fact i h)
theorem Pk.free (Z : Pk fa fn K mg) (i : Nat) {x : Str} (h : fa[i]? = some (.free x) := by rfl) : mg x = none := by
  obtain ⟨h0, X, G⟩ := Z.mod
  exact He.free_ok X G (Z.says.fact i h)
end
/-- the def x of the text does what m says; called with the arguments ps, or with the last ones left out (their values: dvs) -/
def Good (P : Program) (w : World) (K : PySem.W.Frag) (mg : Str → Option Value) (base : Heap) (ca : Str → Addr) (x : Str) (ps : List Str) (k : Nat) (m : FM) : Prop :=
  ∃ fd, FnOk P w K mg base (L2.CX P w) k (He.ga K x) fd ps (specA K ca m) ∧ Binds K fd ps [] ∧ PySem.W.keepIn K (.ref (He.ga K x)) = true ∧ mg x = some (.ref (He.ga K x))
theorem Good.as {P : Program} {w : World} {K : PySem.W.Frag} {mg : Str → Option Value} {base : Heap} {ca : Str → Addr} {x : Str} {ps : List Str} {k : Nat} {m m' : FM} (h : Good P w K mg base ca x ps k m) (e : ∀ ds g r, m' ds g = some r → m ds g = some r) : Good P w K mg base ca x ps k m' := by
  obtain ⟨fd, a, b⟩ := h
  exact ⟨fd, fn_as a e, b⟩
end MP

set_option maxRecDepth 100000
set_option maxHeartbeats 1000000
namespace MP
open PySem L2
open Evl (Ex ex_rd ex_l ex_t)
/-! ### the hand that a law draws from -/
def hTot (t : Int) (ns : List Int) : Int := ns.foldl (fun t x => (t * 2003 + x) % 2147483563) t
def hCells (ns : List Int) : List Int := ns.map fun x => if x < 0 then -x else x
def hand0 (ns : List Int) : G := [.lst ((hCells ns).map .int), .int 0, .int 0, .int (hTot ((ns.length : Int) + 43) ns)]
def spHand (K : PySem.W.Frag) : Sp := fun vs H Q _ => ∃ (a : Addr) (ns : List Int), vs = [.ref a] ∧ SqL K H a (ns.map V.int) ∧ ns.length ≤ 63 ∧
  ∀ p cl H', H p = none → p ≠ cl → (∀ b o, H b = some o → H' b = some o) → H' cl = some (.lst ((hCells ns).map V.int)) → H' p = some (.lst [.ref cl, .int 0, .int 0, .int (hTot ((ns.length : Int) + 43) ns)]) → Q (.ref p) H'
theorem hTot_bd (t : Int) (ns : List Int) (h : t.natAbs < 2147483700) : (hTot t ns).natAbs < 2147483700 := by
  induction ns generalizing t with
  | nil => exact h
  | cons x r ih =>
    refine ih _ ?_
    show ((t * 2003 + x) % 2147483563).natAbs < 2147483700
    have h1 := Int.emod_nonneg (t * 2003 + x) (show (2147483563 : Int) ≠ 0 by decide)
    have h2 := Int.emod_lt_of_pos (t * 2003 + x) (show (0 : Int) < 2147483563 by decide)
    omega
theorem hTot_app (t : Int) (ns : List Int) (x : Int) : hTot t (ns ++ [x]) = (hTot t ns * 2003 + x) % 2147483563 := by
  unfold hTot
  rw [List.foldl_append]
  rfl
/-- what the hand's def does, by its reading -/
theorem hand_reads {K : PySem.W.Frag} {vs : List V} {H : Hp} {Q : VK} {E : XK} (h : spHand K vs H Q E) :
    tSeq (tAsg (tOp (rI0 fun i j => .int (i + j)) (tCB (rLenX K) (tCons (tVar 0) tNil)) (tC (.int 43))) (gName 1))
      (tSeq (tAsg (tLst tNil) (gName 2))
      (tSeq (tFor (iList K (tVar 0)) (gName 3)
        (tSeq (tAsg (tOp (rI (fun _ j => 0 < j) fun i j => .int (i % j)) (tCB rIntX (tCons (tOp (rI0 fun i j => .int (i + j)) (tOp (rI CMulX fun i j => .int (i * j)) (tVar 1) (tC (.int 2003))) (tCB rIntX (tCons (tVar 3) tNil))) tNil)) (tC (.int 2147483563))) (gName 1))
          (tDrop (tBM K "list" rAppend (tVar 2) (tCons (tCB rAbsX (tCons (tCB rIntX (tCons (tVar 3) tNil)) tNil)) tNil)))))
      (tRet (tLst (tCons (tVar 2) (tCons (tC (.int 0)) (tCons (tC (.int 0)) (tCons (tVar 1) tNil)))))))) { nx := fun _ H' => Q .non H', rt := Q } (vs.map some ++ [none, none, none]) H := by
  obtain ⟨a, ns, rfl, hS, hl, k⟩ := h
  refine ⟨_, rfl, a, ns.map V.int, rfl, .inl hS, _, _, rfl, rfl, Nat.zero_le _, fun cl hcl => ?_⟩
  have s1 : Same H (upd H cl (.lst [])) := fun b o e => by
    rw [upd_ne (ne_of_none e hcl)]
    exact e
  refine ⟨_, rfl, a, rfl, ⟨_, s1.seq hS⟩, for_list (K := K) (a := a) (xs := ns.map V.int) (fun i σ H' => ∃ v3, σ = [some (.ref a), some (.int (hTot ((ns.length : Int) + 43) (ns.take i))), some (.ref cl), v3] ∧ Same H H' ∧ H' cl = some (.lst ((hCells (ns.take i)).map V.int)))
    ⟨none, by simp [hTot], s1, by simp [hCells, upd_same]⟩ (fun i σ H' _ ⟨_, _, s, _⟩ => s.seq hS) ?_ ?_⟩
  · rintro i y σ H' hi ⟨v3, rfl, s, hc⟩
    rw [List.getElem?_map] at hi
    cases z : ns[i]? with
    | none => rw [z] at hi; cases hi
    | some x =>
      rw [z] at hi
      have ey : V.int x = y := Option.some.inj hi
      subst ey
      have hlt : i < ns.length := by
        by_cases q : i < ns.length
        · exact q
        · rw [List.getElem?_eq_none (by omega)] at z; cases z
      have et : ns.take (i + 1) = ns.take i ++ [x] := by
        rw [List.take_add_one, z]
        rfl
      have bd := hTot_bd ((ns.length : Int) + 43) (ns.take i) (by omega)
      refine ⟨_, rfl, _, _, rfl, rfl, cMul_ok (by unfold cMul; simp only [Bool.or_eq_true]; left; left; exact lt64_of (by omega)), _, rfl, .inl ⟨_, rfl, _, _, rfl, rfl, .inl ⟨_, rfl, _, _, rfl, rfl, (show (0 : Int) < 2147483563 by decide), ?_⟩⟩⟩
      refine ⟨_, rfl, .inl ⟨rfl, _, SqL.of hc⟩, _, rfl, .inl ⟨_, rfl, _, rfl, cl, _, _, rfl, rfl, hc, ?_, ?_⟩⟩
      · rw [List.length_map]
        unfold hCells
        rw [List.length_map, List.length_take]
        exact Nat.lt_of_le_of_lt (Nat.min_le_left _ _) (small1000 (by omega))
      · refine ⟨some (.int x), ?_, fun b o e => ?_, ?_⟩
        · rw [et, hTot_app]
          rfl
        · rw [upd_ne (ne_of_none e hcl)]
          exact s b o e
        · rw [upd_same, et]
          unfold hCells
          rw [List.map_append, List.map_append]
          rfl
  · rintro σ H' ⟨v3, rfl, s, hc⟩
    have e : ns.take (ns.map V.int).length = ns := List.take_of_length_le (by rw [List.length_map]; exact Nat.le_refl _)
    rw [e] at hc ⊢
    refine ⟨_, rfl, _, rfl, (by show 4 ≤ sizeLine; decide), fun p hp => ?_⟩
    have np : p ≠ cl := fun q => by rw [q, hc] at hp; cases hp
    exact k p cl _ (s.free hp) np (fun b o q => by rw [upd_ne (ne_of_none (s b o q) hp)]; exact s b o q) (by rw [upd_ne (Ne.symm np)]; exact hc) upd_same
/-- what follows the hand's making, by its meaning -/
theorem law_rest {K : PySem.W.Frag} {ca : Str → Addr} {O' OL : List Nat} {ts : TS} {s : SS} {Q : VK} {H : Hp} {p cl : Addr} {ns : List Int} {σ : St} {n i : Nat} {g' : G} (h : SndS ⟨K, ca, some p⟩ [] O' OL W0 ts s) (hn : σ.length = n) (hi : σ[i]? = some (some (.ref p)))
    (np : p ≠ cl) (hc : H cl = some (.lst ((hCells ns).map V.int))) (hp : H p = some (.lst [.ref cl, .int 0, .int 0, .int (hTot ((ns.length : Int) + 43) ns)])) (q : s ((List.replicate n none).set i (some .hand)) (hand0 ns) = some (.ret (.bl true), g')) (k : ∀ H', Q (.bl true) H') :
    ts { nx := fun _ H' => Q .non H', rt := Q } σ H := by
  have hF : ∀ a o, upd (fun _ => none) cl (HO.lst ((hCells ns).map V.int)) a = some o → H a = some o := fun a o e => by
    by_cases z : a = cl
    · subst z
      rw [upd_same] at e
      rw [hc]
      exact e
    · rw [upd_ne z] at e
      cases e
  have nF : upd (fun _ => none) cl (HO.lst ((hCells ns).map V.int)) p = none := by rw [upd_ne np]
  have rc : ∀ l : List Int, Reps ⟨K, ca, some p⟩ (upd (fun _ => none) cl (HO.lst ((hCells ns).map V.int))) (l.map MP.D.int) (l.map V.int) := fun l => by
    induction l with
    | nil => rfl
    | cons x r ih => exact ⟨_, _, rfl, rfl, ih⟩
  refine h (upd (fun _ => none) cl (.lst ((hCells ns).map V.int))) H (upd (fun _ => none) cl (.lst ((hCells ns).map V.int))) H σ _ _ _ _ ⟨hF, Gr.refl .., by rw [List.length_set, List.length_replicate]; exact hn, fun j d e _ => ?_, fun j d e m => (by cases m), fun j _ _ _ m => (by cases m), ?_⟩ q _ ?_
  · by_cases z : i = j
    · subst z
      have hl : i < n := by
        by_cases l : i < n
        · exact l
        · rw [List.getElem?_eq_none (by omega)] at hi; cases hi
      rw [List.getElem?_set_self (by rw [List.length_replicate]; exact hl)] at e
      cases e
      exact ⟨_, hi, p, rfl, rfl⟩
    · rw [List.getElem?_set_ne z] at e
      have := List.mem_of_getElem? e
      rw [List.mem_replicate] at this
      exact absurd this.2 (Option.some_ne_none d)
  · refine ⟨nF, _, hp, _, _, rfl, ⟨cl, _, rfl, upd_same, rc _⟩, _, _, rfl, rfl, _, _, rfl, rfl, _, _, rfl, rfl, rfl⟩
  · intro v F' H' G ex hh rv
    cases rv
    exact k H'
end MP

set_option maxRecDepth 100000
set_option maxHeartbeats 1000000
namespace MP
open PySem L2
open Evl (Ex ex_rd ex_l ex_t)
/-! ### meanings reckoned -/
theorem forGo_inv {f : ST} {body : SS} {ds : List D} (I : Nat → Env → G → Prop) {ρ : Env} {g : G} (h0 : I 0 ρ g)
    (hs : ∀ i ρ g d, ds[i]? = some d → I i ρ g → ∃ ρ1, f d ρ = some ρ1 ∧ ∃ ρ2 g2, (body ρ1 g = some (.nx ρ2, g2) ∨ body ρ1 g = some (.cnt ρ2, g2)) ∧ I (i + 1) ρ2 g2) :
    ∃ ρ' g', forGo f body ds ρ g = some (.nx ρ', g') ∧ I ds.length ρ' g' := by
  have key : ∀ (n i : Nat) ρ g, ds.length - i = n → i ≤ ds.length → I i ρ g → ∃ ρ' g', forGo f body (ds.drop i) ρ g = some (.nx ρ', g') ∧ I ds.length ρ' g' := by
    intro n
    induction n with
    | zero =>
      intro i ρ g hn hi h
      have e : i = ds.length := by omega
      subst e
      rw [List.drop_length]
      exact ⟨ρ, g, rfl, h⟩
    | succ n ih =>
      intro i ρ g hn hi h
      have hlt : i < ds.length := by omega
      obtain ⟨ρ1, e1, ρ2, g2, e2, h2⟩ := hs i ρ g ds[i] (by simp [hlt]) h
      obtain ⟨ρ', g', e3, h3⟩ := ih (i + 1) ρ2 g2 (by omega) (by omega) h2
      refine ⟨ρ', g', ?_, h3⟩
      rw [List.drop_eq_getElem_cons hlt]
      unfold forGo
      simp only [e1]
      rcases e2 with e2 | e2 <;> simp only [e2] <;> exact e3
  have := key ds.length 0 ρ g (by omega) (by omega) h0
  rwa [List.drop_zero] at this
theorem rng_len (lo : Int) (n : Nat) : (rng lo n).length = n := by simp [rng]
theorem rng_at {lo : Int} {n i : Nat} {d : D} (h : (rng lo n)[i]? = some d) : i < n ∧ d = .int (lo + (i : Nat)) := by
  refine ⟨?_, rng_get h⟩
  have h2 : i < (rng lo n).length := by
    by_cases q : i < (rng lo n).length
    · exact q
    · rw [List.getElem?_eq_none (by omega)] at h; cases h
  rwa [rng_len] at h2
/-- a comprehension without draws: each element by a function -/
theorem compGo_map {f : ST} {elt : SE} {ρ : Env} {g : G} (F : D → D) : ∀ (ds acc : List D), (∀ d ∈ ds, ∃ ρ1, f d ρ = some ρ1 ∧ elt ρ1 g = some (.ok (F d), g)) → acc.length + ds.length < 2 ^ 20 → compGo f eYes elt ρ ds g acc = some (acc ++ ds.map F, g)
  | [], acc, _, _ => by simp [compGo]
  | d :: ds, acc, h, hl => by
    obtain ⟨ρ1, e1, e2⟩ := h d List.mem_cons_self
    rw [List.length_cons] at hl
    unfold compGo
    simp only [e1, eYes, e2]
    rw [if_pos (szB_of (by omega))]
    rw [compGo_map F ds (acc ++ [F d]) (fun x hx => h x (List.mem_cons_of_mem _ hx)) (by rw [List.length_append, List.length_singleton]; omega)]
    simp
/-! ### step by step -/
def fin (x : Option (SOut × G)) : R := match x with
  | some (.nx _, g) => some (.ok .non, g)
  | some (.ret d, g) => some (.ok d, g)
  | some (.exc n f _, g) => some (.exc n f, g)
  | _ => none
theorem mkFn_eq {nn np : Nat} {s : SS} {ds : List D} {g : G} (h : ds.length = np) : mkFn nn np s ds g = fin (s (ds.map some ++ List.replicate (nn - np) none) g) := by
  unfold mkFn
  rw [if_pos h]
  rfl
theorem sSeq_nx {s1 s2 : SS} {ρ ρ1 : Env} {g g1 : G} (h : s1 ρ g = some (.nx ρ1, g1)) : sSeq s1 s2 ρ g = s2 ρ1 g1 := by
  unfold sSeq
  rw [h]
  rfl
theorem sSeq_ret {s1 s2 : SS} {ρ : Env} {d : D} {g g1 : G} (h : s1 ρ g = some (.ret d, g1)) : sSeq s1 s2 ρ g = some (.ret d, g1) := by
  unfold sSeq
  rw [h]
  rfl
theorem sSeq_exc {s1 s2 : SS} {ρ ρ1 : Env} {n : Str} {fs : List (Str × D)} {g g1 : G} (h : s1 ρ g = some (.exc n fs ρ1, g1)) : sSeq s1 s2 ρ g = some (.exc n fs ρ1, g1) := by
  unfold sSeq
  rw [h]
  rfl
theorem sSet_ok {i : Nat} {e : SE} {ρ : Env} {d : D} {g g1 : G} (h : e ρ g = some (.ok d, g1)) : sSet i e ρ g = some (.nx (ρ.set i (some d)), g1) := by
  unfold sSet
  rw [h]
  rfl
theorem sRet_ok {e : SE} {ρ : Env} {d : D} {g g1 : G} (h : e ρ g = some (.ok d, g1)) : sRet e ρ g = some (.ret d, g1) := by
  unfold sRet
  rw [h]
  rfl
theorem sIf_T {t : SE} {s1 s2 : SS} {ρ : Env} {g g1 : G} (h : t ρ g = some (.ok (.bl true), g1)) : sIf t s1 s2 ρ g = s1 ρ g1 := by
  unfold sIf
  rw [h]
theorem sIf_F {t : SE} {s1 s2 : SS} {ρ : Env} {g g1 : G} (h : t ρ g = some (.ok (.bl false), g1)) : sIf t s1 s2 ρ g = s2 ρ g1 := by
  unfold sIf
  rw [h]
theorem eIf_T {t a b : SE} {ρ : Env} {g g1 : G} (h : t ρ g = some (.ok (.bl true), g1)) : eIf t a b ρ g = a ρ g1 := by
  unfold eIf
  rw [h]
theorem eIf_F {t a b : SE} {ρ : Env} {g g1 : G} (h : t ρ g = some (.ok (.bl false), g1)) : eIf t a b ρ g = b ρ g1 := by
  unfold eIf
  rw [h]
theorem sFor_run {it : SA} {f : ST} {body : SS} {ds : List D} {ρ : Env} {g g1 : G} {r : Option (SOut × G)} (h : it ρ g = some (.ok ds, g1)) (e : forGo f body ds ρ g1 = r) : sFor it f body ρ g = r := by
  unfold sFor
  rw [h]
  exact e
theorem aVia_ok {f : List D → Option (List D)} {ar : SA} {ρ : Env} {g g1 : G} {ds xs : List D} (h : ar ρ g = some (.ok ds, g1)) (k : f ds = some xs) : aVia f ar ρ g = some (.ok xs, g1) := by
  unfold aVia
  rw [h]
  simp [k]
theorem eComp_run {own : List Nat} {it : SA} {f : ST} {cond elt : SE} {ds acc : List D} {ρ : Env} {g g1 g2 : G} (h : it ρ g = some (.ok ds, g1)) (e : compGo f cond elt (wipeD ρ own) ds g1 [] = some (acc, g2)) : eComp own it f cond elt ρ g = some (.ok (.lst acc), g2) := by
  unfold eComp
  rw [h]
  simp [e]
theorem small_nat {n : Nat} (h : n ≤ 1000000) : small62 (n : Int) = true := small62_of (by omega)
theorem fRng1_nat {n : Nat} (h : n ≤ 1000000) : fRng1 [.int (n : Int)] = some (rng 0 n) := by
  show (if small62 (n : Int) = true then some (rng 0 (n : Int).toNat) else none) = some (rng 0 n)
  rw [if_pos (small_nat h), Int.toNat_natCast]
/-! ### the hand -/
/-- a hand as the draws leave it -/
def HandOk (g : G) : Prop := ∃ (ns : List Int) (i : Nat) (r s : Int), g = [.lst (ns.map .int), .int i, .int r, .int s] ∧ (∀ n ∈ ns, 0 ≤ n) ∧ 0 ≤ r
theorem hand0_ok (ns : List Int) : HandOk (hand0 ns) := ⟨hCells ns, 0, 0, _, rfl, fun n h => by
  unfold hCells at h
  obtain ⟨x, _, rfl⟩ := List.mem_map.mp h
  split <;> omega, Int.le_refl 0⟩
def mixF (a b : Int) : Int :=
  let once := (a * 39373 + b * 6151 + 50021) % 2147483399
  let twice := (once * once + b * 81071 + once / 137) % 2147483629
  (twice * 62089 + once / 11) % 2147483587 / 64
theorem cMul_r {i j : Int} (h : j.natAbs < 2 ^ 64) : cMul i j = true := by
  unfold cMul
  rw [lt64_of h]
  simp
theorem cMul_l {i j : Int} (h : i.natAbs < 2 ^ 64) : cMul i j = true := by
  unfold cMul
  rw [lt64_of h]
  simp
theorem cMul_of {i j : Int} {a b : Nat} (ha : i.natAbs < 2 ^ a) (hb : j.natAbs < 2 ^ b) (h : a + b ≤ 20000) : cMul i j = true := by
  by_cases z : i.natAbs = 0
  · exact cMul_l (by rw [z]; decide)
  by_cases z2 : j.natAbs = 0
  · exact cMul_r (by rw [z2]; decide)
  have x := (Nat.log2_lt z).mpr ha
  have y := (Nat.log2_lt z2).mpr hb
  unfold cMul
  simp only [Bool.or_eq_true, decide_eq_true_eq]
  right
  omega
theorem cMod_ok {i j : Int} (h : 0 < j) : cMod i j = true := decide_eq_true h
theorem cDiv_ok {i j : Int} (h : 0 < j) (h2 : j.natAbs.log2 < 9000) : cDiv i j = true := by
  unfold cDiv
  simp [h, h2]
end MP

set_option maxRecDepth 100000
set_option maxHeartbeats 4000000
namespace HK74
open PySem L2 MP
section
variable {P : Program} {w : World} {K : PySem.W.Frag} {mg : Str → Option Value} {base : Heap} {ca : Str → Addr}
theorem sc_power_of : FnScope ["base", "exponent", "result", "_"] ["base", "exponent"] (defScope s0) := ⟨rfl, rfl, rfl, by decide +kernel, rfl, by decide +kernel, by decide +kernel⟩
def m_power_of : FM := mkFn 4 2 (sSeq (sSet 2 (eC (.int 1))) (sSeq (sFor (aVia fRng1 (aCons (eVar 1) aNil)) (gVar 3) (sSet 2 (eOp (fI cMul fun i j => i * j) (eVar 2) (eVar 0)))) (sRet (eVar 2))))
theorem ok_power_of (Z : Pk fa fn K mg) : Good P w K mg base ca "power_of" ["base", "exponent"] 1 m_power_of := by
  obtain ⟨fd, F⟩ := Z.says.def_ 0 (d := d0) rfl
  refine ⟨fd, ?_, F.bindsN fun _ _ _ _ _ _ us hl => match us, hl with | [_, _], _ => rfl, F.kp, Z.glo 0⟩
  refine fn_ok F sc_power_of fun hdp cdv A outer st H E hr => ?_
  have tk := takes_of (X := cxOf (L2.CX P w) P w K mg base ["base", "exponent", "result", "_"] "power_of" (defScope s0) (He.ga K "power_of") cdv A outer st H E) rfl rfl rfl rfl
  exact ⟨_, [], [], (pss_cons (ps_set (i := 2) sc_power_of.nd rfl (by first | exact Or.inl rfl | exact Or.inr rfl) pe_int) (pss_cons (ps_for (passes_of rfl) rfl (pi_range1 (by rfl) (Z.free 20) (pa_cons (pv 1) pa_nil)) (pg_name (i := 3) sc_power_of.nd rfl (by first | exact Or.inl rfl | exact Or.inr rfl)) (pss_one (ps_set (i := 2) sc_power_of.nd rfl (by first | exact Or.inl rfl | exact Or.inr rfl) (pe_op op_mulX (pv 2) (pv 0))))) (pss_one (ps_ret (pv 2))))), (snd_seq (snd_set snd_int) (snd_seq (snd_for (snd_rng1 (snd_acons (snd_var (by decide)) snd_anil)) snd_gvar (snd_set (snd_mul (snd_var (by decide)) (snd_var (by decide))))) (snd_ret (snd_var (by decide)))))⟩
theorem sc_space_count : FnScope ["prime", "whole", "part", "above", "below", "i"] ["prime", "whole", "part"] (defScope s1) := ⟨rfl, rfl, rfl, by decide +kernel, rfl, by decide +kernel, by decide +kernel⟩
def m_space_count : FM := mkFn 6 3 (sSeq (sIf (eOr (onlyB (eOp (fB0 fun i j => decide (i < j)) (eVar 2) (eC (.int 0)))) (onlyB (eOp (fB0 fun i j => decide (j < i)) (eVar 2) (eVar 1)))) (sRet (eC (.int 0))) sPass) (sSeq (sAsg2 3 4 (eC (.int 1))) (sSeq (sFor (aVia fRng1 (aCons (eVar 2) aNil)) (gVar 5) (sSeq (sSet 3 (eOp (fI cMul fun i j => i * j) (eVar 3) (eOp (fI0 fun i j => i - j) (eCall m_power_of [] (aCons (eVar 0) (aCons (eOp (fI0 fun i j => i - j) (eVar 1) (eVar 5)) aNil))) (eC (.int 1))))) (sSet 4 (eOp (fI cMul fun i j => i * j) (eVar 4) (eOp (fI0 fun i j => i - j) (eCall m_power_of [] (aCons (eVar 0) (aCons (eOp (fI0 fun i j => i + j) (eVar 5) (eC (.int 1))) aNil))) (eC (.int 1))))))) (sRet (eOp (fI cDiv fun i j => i / j) (eVar 3) (eVar 4))))))
theorem ok_space_count (Z : Pk fa fn K mg) : Good P w K mg base ca "space_count" ["prime", "whole", "part"] 2 m_space_count := by
  obtain ⟨fd, F⟩ := Z.says.def_ 1 (d := d1) rfl
  refine ⟨fd, ?_, F.bindsN fun _ _ _ _ _ _ us hl => match us, hl with | [_, _, _], _ => rfl, F.kp, Z.glo 1⟩
  refine fn_ok F sc_space_count fun hdp cdv A outer st H E hr => ?_
  have tk := takes_of (X := cxOf (L2.CX P w) P w K mg base ["prime", "whole", "part", "above", "below", "i"] "space_count" (defScope s1) (He.ga K "space_count") cdv A outer st H E) rfl rfl rfl rfl
  obtain ⟨fd_power_of, ok_power_of, b_power_of, k_power_of, g_power_of⟩ := ok_power_of (P := P) (w := w) (base := base) (ca := ca) Z
  exact ⟨_, [], [], (pss_cons (ps_if (PW.pt (pw_or (pt_cmpR op_lt (pv 2) pe_int (nomark _)) (pw_or1 (pt_cmpR op_gt (pv 2) (pv 1) (nomark _))))) (pss_one (ps_ret pe_int)) pss_nil) (pss_cons (ps_asg2 pe_int (pg_name (i := 3) sc_space_count.nd rfl (by first | exact Or.inl rfl | exact Or.inr rfl)) (pg_name (i := 4) sc_space_count.nd rfl (by first | exact Or.inl rfl | exact Or.inr rfl))) (pss_cons (ps_for (passes_of rfl) rfl (pi_range1 (by rfl) (Z.free 20) (pa_cons (pv 2) pa_nil)) (pg_name (i := 5) sc_space_count.nd rfl (by first | exact Or.inl rfl | exact Or.inr rfl)) (pss_cons (ps_set (i := 3) sc_space_count.nd rfl (by first | exact Or.inl rfl | exact Or.inr rfl) (pe_op op_mulX (pv 3) (pe_op op_sub (pe_callD ok_power_of (hr.mono (by decide)) (by rfl) g_power_of k_power_of b_power_of .nil (fun σ => passAt tk σ) (pa_cons (pv 0) (pa_cons (pe_op op_sub (pv 1) (pv 5)) pa_nil))) pe_int))) (pss_one (ps_set (i := 4) sc_space_count.nd rfl (by first | exact Or.inl rfl | exact Or.inr rfl) (pe_op op_mulX (pv 4) (pe_op op_sub (pe_callD ok_power_of (hr.mono (by decide)) (by rfl) g_power_of k_power_of b_power_of .nil (fun σ => passAt tk σ) (pa_cons (pv 0) (pa_cons (pe_op op_add (pv 5) pe_int) pa_nil))) pe_int)))))) (pss_one (ps_ret (pe_op op_fdivW (pv 3) (pv 4))))))), (snd_seq (snd_ifS (snd_or (snd_test (snd_lt (snd_var (by decide)) snd_int)) (snd_test (snd_gt (snd_var (by decide)) (snd_var (by decide))))) (snd_ret snd_int) snd_pass) (snd_seq (snd_asg2 (i := 3) (j := 4) snd_int) (snd_seq (snd_for (snd_rng1 (snd_acons (snd_var (by decide)) snd_anil)) snd_gvar (snd_seq (snd_set (snd_mul (snd_var (by decide)) (snd_sub (snd_call (dd := []) (snd_acons (snd_var (by decide)) (snd_acons (snd_sub (snd_var (by decide)) (snd_var (by decide))) snd_anil)) (fun _ => rfl) (fun _ => rfl)) snd_int))) (snd_set (snd_mul (snd_var (by decide)) (snd_sub (snd_call (dd := []) (snd_acons (snd_var (by decide)) (snd_acons (snd_add (snd_var (by decide)) snd_int) snd_anil)) (fun _ => rfl) (fun _ => rfl)) snd_int))))) (snd_ret (snd_fdiv (snd_var (by decide)) (snd_var (by decide)))))))⟩
theorem sc_table_count : FnScope ["prime", "tall", "wide", "rank", "result", "i"] ["prime", "tall", "wide", "rank"] (defScope s2) := ⟨rfl, rfl, rfl, by decide +kernel, rfl, by decide +kernel, by decide +kernel⟩
def m_table_count : FM := mkFn 6 4 (sSeq (sSet 4 (eCall m_space_count [] (aCons (eVar 0) (aCons (eVar 2) (aCons (eVar 3) aNil))))) (sSeq (sFor (aVia fRng1 (aCons (eVar 3) aNil)) (gVar 5) (sSet 4 (eOp (fI cMul fun i j => i * j) (eVar 4) (eOp (fI0 fun i j => i - j) (eCall m_power_of [] (aCons (eVar 0) (aCons (eVar 1) aNil))) (eCall m_power_of [] (aCons (eVar 0) (aCons (eVar 5) aNil))))))) (sRet (eVar 4))))
theorem ok_table_count (Z : Pk fa fn K mg) : Good P w K mg base ca "table_count" ["prime", "tall", "wide", "rank"] 3 m_table_count := by
  obtain ⟨fd, F⟩ := Z.says.def_ 2 (d := d2) rfl
  refine ⟨fd, ?_, F.bindsN fun _ _ _ _ _ _ us hl => match us, hl with | [_, _, _, _], _ => rfl, F.kp, Z.glo 2⟩
  refine fn_ok F sc_table_count fun hdp cdv A outer st H E hr => ?_
  have tk := takes_of (X := cxOf (L2.CX P w) P w K mg base ["prime", "tall", "wide", "rank", "result", "i"] "table_count" (defScope s2) (He.ga K "table_count") cdv A outer st H E) rfl rfl rfl rfl
  obtain ⟨fd_space_count, ok_space_count, b_space_count, k_space_count, g_space_count⟩ := ok_space_count (P := P) (w := w) (base := base) (ca := ca) Z
  obtain ⟨fd_power_of, ok_power_of, b_power_of, k_power_of, g_power_of⟩ := ok_power_of (P := P) (w := w) (base := base) (ca := ca) Z
  exact ⟨_, [], [], (pss_cons (ps_set (i := 4) sc_table_count.nd rfl (by first | exact Or.inl rfl | exact Or.inr rfl) (pe_callD ok_space_count (hr.mono (by decide)) (by rfl) g_space_count k_space_count b_space_count .nil (fun σ => passAt tk σ) (pa_cons (pv 0) (pa_cons (pv 2) (pa_cons (pv 3) pa_nil))))) (pss_cons (ps_for (passes_of rfl) rfl (pi_range1 (by rfl) (Z.free 20) (pa_cons (pv 3) pa_nil)) (pg_name (i := 5) sc_table_count.nd rfl (by first | exact Or.inl rfl | exact Or.inr rfl)) (pss_one (ps_set (i := 4) sc_table_count.nd rfl (by first | exact Or.inl rfl | exact Or.inr rfl) (pe_op op_mulX (pv 4) (pe_op op_sub (pe_callD ok_power_of (hr.mono (by decide)) (by rfl) g_power_of k_power_of b_power_of .nil (fun σ => passAt tk σ) (pa_cons (pv 0) (pa_cons (pv 1) pa_nil))) (pe_callD ok_power_of (hr.mono (by decide)) (by rfl) g_power_of k_power_of b_power_of .nil (fun σ => passAt tk σ) (pa_cons (pv 0) (pa_cons (pv 5) pa_nil)))))))) (pss_one (ps_ret (pv 4))))), (snd_seq (snd_set (snd_call (dd := []) (snd_acons (snd_var (by decide)) (snd_acons (snd_var (by decide)) (snd_acons (snd_var (by decide)) snd_anil))) (fun _ => rfl) (fun _ => rfl))) (snd_seq (snd_for (snd_rng1 (snd_acons (snd_var (by decide)) snd_anil)) snd_gvar (snd_set (snd_mul (snd_var (by decide)) (snd_sub (snd_call (dd := []) (snd_acons (snd_var (by decide)) (snd_acons (snd_var (by decide)) snd_anil)) (fun _ => rfl) (fun _ => rfl)) (snd_call (dd := []) (snd_acons (snd_var (by decide)) (snd_acons (snd_var (by decide)) snd_anil)) (fun _ => rfl) (fun _ => rfl)))))) (snd_ret (snd_var (by decide)))))⟩
theorem sc__law_mixed : FnScope ["_law_number_here", "_law_turn", "_law_once", "_law_twice"] ["_law_number_here", "_law_turn"] (defScope s4) := ⟨rfl, rfl, rfl, by decide +kernel, rfl, by decide +kernel, by decide +kernel⟩
def m__law_mixed : FM := mkFn 4 2 (sSeq (sSet 2 (eOp (fI cMod fun i j => i % j) (eUn fInt (eOp (fI0 fun i j => i + j) (eOp (fI0 fun i j => i + j) (eOp (fI cMul fun i j => i * j) (eVar 0) (eC (.int 39373))) (eOp (fI cMul fun i j => i * j) (eVar 1) (eC (.int 6151)))) (eC (.int 50021)))) (eC (.int 2147483399)))) (sSeq (sSet 3 (eOp (fI cMod fun i j => i % j) (eUn fInt (eOp (fI0 fun i j => i + j) (eOp (fI0 fun i j => i + j) (eOp (fI cMul fun i j => i * j) (eVar 2) (eVar 2)) (eOp (fI cMul fun i j => i * j) (eVar 1) (eC (.int 81071)))) (eOp (fI cDiv fun i j => i / j) (eVar 2) (eC (.int 137))))) (eC (.int 2147483629)))) (sRet (eOp (fI cDiv fun i j => i / j) (eUn fInt (eOp (fI cMod fun i j => i % j) (eUn fInt (eOp (fI0 fun i j => i + j) (eOp (fI cMul fun i j => i * j) (eVar 3) (eC (.int 62089))) (eOp (fI cDiv fun i j => i / j) (eVar 2) (eC (.int 11))))) (eC (.int 2147483587)))) (eC (.int 64))))))
theorem ok__law_mixed (Z : Pk fa fn K mg) : Good P w K mg base ca "_law_mixed" ["_law_number_here", "_law_turn"] 1 m__law_mixed := by
  obtain ⟨fd, F⟩ := Z.says.def_ 4 (d := d4) rfl
  refine ⟨fd, ?_, F.bindsN fun _ _ _ _ _ _ us hl => match us, hl with | [_, _], _ => rfl, F.kp, Z.glo 4⟩
  refine fn_ok F sc__law_mixed fun hdp cdv A outer st H E hr => ?_
  have tk := takes_of (X := cxOf (L2.CX P w) P w K mg base ["_law_number_here", "_law_turn", "_law_once", "_law_twice"] "_law_mixed" (defScope s4) (He.ga K "_law_mixed") cdv A outer st H E) rfl rfl rfl rfl
  exact ⟨_, [], [], (pss_cons (ps_set (i := 2) sc__law_mixed.nd rfl (by first | exact Or.inl rfl | exact Or.inr rfl) (pe_op op_mod (pe_callTy call_int1 (by rfl) (Z.free 17) (by decide +kernel) (pa_cons (pe_op op_add (pe_op op_add (pe_op op_mulX (pv 0) pe_int) (pe_op op_mulX (pv 1) pe_int)) pe_int) pa_nil)) pe_int)) (pss_cons (ps_set (i := 3) sc__law_mixed.nd rfl (by first | exact Or.inl rfl | exact Or.inr rfl) (pe_op op_mod (pe_callTy call_int1 (by rfl) (Z.free 17) (by decide +kernel) (pa_cons (pe_op op_add (pe_op op_add (pe_op op_mulX (pv 2) (pv 2)) (pe_op op_mulX (pv 1) pe_int)) (pe_op op_fdivW (pv 2) pe_int)) pa_nil)) pe_int)) (pss_one (ps_ret (pe_op op_fdivW (pe_callTy call_int1 (by rfl) (Z.free 17) (by decide +kernel) (pa_cons (pe_op op_mod (pe_callTy call_int1 (by rfl) (Z.free 17) (by decide +kernel) (pa_cons (pe_op op_add (pe_op op_mulX (pv 3) pe_int) (pe_op op_fdivW (pv 2) pe_int)) pa_nil)) pe_int) pa_nil)) pe_int))))), (snd_seq (snd_set (snd_mod (snd_b1 (snd_r (snd_add (snd_add (snd_mul (snd_var (by decide)) snd_int) (snd_mul (snd_var (by decide)) snd_int)) snd_int)) rb_int) snd_int)) (snd_seq (snd_set (snd_mod (snd_b1 (snd_r (snd_add (snd_add (snd_mul (snd_var (by decide)) (snd_var (by decide))) (snd_mul (snd_var (by decide)) snd_int)) (snd_fdiv (snd_var (by decide)) snd_int))) rb_int) snd_int)) (snd_ret (snd_fdiv (snd_b1 (snd_r (snd_mod (snd_b1 (snd_r (snd_add (snd_mul (snd_var (by decide)) snd_int) (snd_fdiv (snd_var (by decide)) snd_int))) rb_int) snd_int)) rb_int) snd_int))))⟩
theorem sc__law_take : FnScope ["_law_hand_here", "_law_many", "_law_cell", "_law_rest"] ["_law_hand_here", "_law_many"] (defScope s5) := ⟨rfl, rfl, rfl, by decide +kernel, rfl, by decide +kernel, by decide +kernel⟩
def m__law_take : FM := mkFn 4 2 (sSeq (sIf (eAnd (onlyB (eOp fEq (eHix 0 2) (eC (.int 0)))) (onlyB (eOp (fB0 fun i j => decide (i < j)) (eHix 0 1) (eUn fLen (eHix 0 0))))) (sSeq (sSet 2 (eOp fIx (eHix 0 0) (eHix 0 1))) (sSeq (sHset 0 1 (eOp (fI0 fun i j => i + j) (eHix 0 1) (eC (.int 1)))) (sSeq (sIf (onlyB (eOp (fB0 fun i j => decide (i < j)) (eVar 2) (eOp (fI cPow fun i j => i ^ j.toNat) (eC (.int 10)) (eC (.int 18))))) (sRet (eOp (fI cMod fun i j => i % j) (eUn fInt (eCall m__law_mixed [] (aCons (eOp (fI cMod fun i j => i % j) (eUn fInt (eVar 2)) (eC (.int 2147483399))) (aCons (eHix 0 1) aNil)))) (eVar 1))) sPass) (sHset 0 2 (eVar 2))))) sPass) (sSeq (sIf (onlyB (eOp (fB0 fun i j => decide (j < i)) (eHix 0 2) (eC (.int 0)))) (sSeq (sSet 3 (eHix 0 2)) (sSeq (sHset 0 2 (eOp (fI cDiv fun i j => i / j) (eUn fInt (eVar 3)) (eVar 1))) (sRet (eOp (fI cMod fun i j => i % j) (eUn fInt (eVar 3)) (eVar 1))))) sPass) (sSeq (sHset 0 3 (eOp (fI cMod fun i j => i % j) (eUn fInt (eOp (fI0 fun i j => i + j) (eHix 0 3) (eC (.int 1)))) (eC (.int 2147483549)))) (sRet (eOp (fI cMod fun i j => i % j) (eUn fInt (eCall m__law_mixed [] (aCons (eHix 0 3) (aCons (eHix 0 1) aNil)))) (eVar 1))))))
theorem ok__law_take (Z : Pk fa fn K mg) : Good P w K mg base ca "_law_take" ["_law_hand_here", "_law_many"] 2 m__law_take := by
  obtain ⟨fd, F⟩ := Z.says.def_ 5 (d := d5) rfl
  refine ⟨fd, ?_, F.bindsN fun _ _ _ _ _ _ us hl => match us, hl with | [_, _], _ => rfl, F.kp, Z.glo 5⟩
  refine fn_ok F sc__law_take fun hdp cdv A outer st H E hr => ?_
  have tk := takes_of (X := cxOf (L2.CX P w) P w K mg base ["_law_hand_here", "_law_many", "_law_cell", "_law_rest"] "_law_take" (defScope s5) (He.ga K "_law_take") cdv A outer st H E) rfl rfl rfl rfl
  obtain ⟨fd__law_mixed, ok__law_mixed, b__law_mixed, k__law_mixed, g__law_mixed⟩ := ok__law_mixed (P := P) (w := w) (base := base) (ca := ca) Z
  exact ⟨_, [], [], (pss_cons (ps_if (PW.pt (pw_and (pt_cmpR (op_eqX hr.units) (pe_ix ix_seq (pv 0) pe_int (fun _ _ => rfl)) pe_int (nomark _)) (pw_and1 (pt_cmpR op_lt (pe_ix ix_seq (pv 0) pe_int (fun _ _ => rfl)) (pe_callB call_len_seq (by rfl) (Z.free 19) (by decide +kernel) (pa_cons (pe_ix ix_seq (pv 0) pe_int (fun _ _ => rfl)) pa_nil)) (nomark _))))) (pss_cons (ps_set (i := 2) sc__law_take.nd rfl (by first | exact Or.inl rfl | exact Or.inr rfl) (pe_ix ix_seq (pe_ix ix_seq (pv 0) pe_int (fun _ _ => rfl)) (pe_ix ix_seq (pv 0) pe_int (fun _ _ => rfl)) (fun _ _ => rfl))) (pss_cons (ps_asg (pe_op op_add (pe_ix ix_seq (pv 0) pe_int (fun _ _ => rfl)) pe_int) (pg_sub (pv 0) pe_int set_list)) (pss_cons (ps_if (pt_cmpR op_lt (pv 2) (pe_op op_pow pe_int pe_int) (nomark _)) (pss_one (ps_ret (pe_op op_mod (pe_callTy call_int1 (by rfl) (Z.free 17) (by decide +kernel) (pa_cons (pe_callD ok__law_mixed (hr.mono (by decide)) (by rfl) g__law_mixed k__law_mixed b__law_mixed .nil (fun σ => passAt tk σ) (pa_cons (pe_op op_mod (pe_callTy call_int1 (by rfl) (Z.free 17) (by decide +kernel) (pa_cons (pv 2) pa_nil)) pe_int) (pa_cons (pe_ix ix_seq (pv 0) pe_int (fun _ _ => rfl)) pa_nil))) pa_nil)) (pv 1)))) pss_nil) (pss_one (ps_asg (pv 2) (pg_sub (pv 0) pe_int set_list)))))) pss_nil) (pss_cons (ps_if (pt_cmpR op_gt (pe_ix ix_seq (pv 0) pe_int (fun _ _ => rfl)) pe_int (nomark _)) (pss_cons (ps_set (i := 3) sc__law_take.nd rfl (by first | exact Or.inl rfl | exact Or.inr rfl) (pe_ix ix_seq (pv 0) pe_int (fun _ _ => rfl))) (pss_cons (ps_asg (pe_op op_fdivW (pe_callTy call_int1 (by rfl) (Z.free 17) (by decide +kernel) (pa_cons (pv 3) pa_nil)) (pv 1)) (pg_sub (pv 0) pe_int set_list)) (pss_one (ps_ret (pe_op op_mod (pe_callTy call_int1 (by rfl) (Z.free 17) (by decide +kernel) (pa_cons (pv 3) pa_nil)) (pv 1)))))) pss_nil) (pss_cons (ps_asg (pe_op op_mod (pe_callTy call_int1 (by rfl) (Z.free 17) (by decide +kernel) (pa_cons (pe_op op_add (pe_ix ix_seq (pv 0) pe_int (fun _ _ => rfl)) pe_int) pa_nil)) pe_int) (pg_sub (pv 0) pe_int set_list)) (pss_one (ps_ret (pe_op op_mod (pe_callTy call_int1 (by rfl) (Z.free 17) (by decide +kernel) (pa_cons (pe_callD ok__law_mixed (hr.mono (by decide)) (by rfl) g__law_mixed k__law_mixed b__law_mixed .nil (fun σ => passAt tk σ) (pa_cons (pe_ix ix_seq (pv 0) pe_int (fun _ _ => rfl)) (pa_cons (pe_ix ix_seq (pv 0) pe_int (fun _ _ => rfl)) pa_nil))) pa_nil)) (pv 1))))))), (snd_seq (snd_ifS (snd_and (snd_test (snd_eq (snd_hix (by decide)) snd_int)) (snd_test (snd_lt (snd_hix (by decide)) (snd_b1 (snd_r (snd_hix (by decide))) rb_len)))) (snd_seq (snd_set (snd_ix (snd_r (snd_hix (by decide))) (snd_hix (by decide)))) (snd_seq (snd_hset (by decide) (snd_add (snd_hix (by decide)) snd_int)) (snd_seq (snd_ifS (snd_test (snd_lt (snd_var (by decide)) (snd_pow snd_int snd_int))) (snd_ret (snd_mod (snd_b1 (snd_r (snd_call (dd := []) (snd_acons (snd_mod (snd_b1 snd_rvar rb_int) snd_int) (snd_acons (snd_hix (by decide)) snd_anil)) (fun _ => rfl) (fun _ => rfl))) rb_int) (snd_var (by decide)))) snd_pass) (snd_hset (by decide) (snd_var (by decide)))))) snd_pass) (snd_seq (snd_ifS (snd_test (snd_gt (snd_hix (by decide)) snd_int)) (snd_seq (snd_set (snd_hix (by decide))) (snd_seq (snd_hset (by decide) (snd_fdiv (snd_b1 snd_rvar rb_int) (snd_var (by decide)))) (snd_ret (snd_mod (snd_b1 snd_rvar rb_int) (snd_var (by decide)))))) snd_pass) (snd_seq (snd_hset (by decide) (snd_mod (snd_b1 (snd_r (snd_add (snd_hix (by decide)) snd_int)) rb_int) snd_int)) (snd_ret (snd_mod (snd_b1 (snd_r (snd_call (dd := []) (snd_acons (snd_hix (by decide)) (snd_acons (snd_hix (by decide)) snd_anil)) (fun _ => rfl) (fun _ => rfl))) rb_int) (snd_var (by decide)))))))⟩
theorem sc__law_whole : FnScope ["_law_thing"] ["_law_thing"] (defScope s6) := ⟨rfl, rfl, rfl, by decide +kernel, rfl, by decide +kernel, by decide +kernel⟩
def m__law_whole : FM := mkFn 1 1 (sRet (eAnd (eUn (fIsi "int") (eVar 0)) (eNot (eUn (fIsi "bool") (eVar 0)))))
theorem ok__law_whole (Z : Pk fa fn K mg) : Good P w K mg base ca "_law_whole" ["_law_thing"] 1 m__law_whole := by
  obtain ⟨fd, F⟩ := Z.says.def_ 6 (d := d6) rfl
  refine ⟨fd, ?_, F.bindsN fun _ _ _ _ _ _ us hl => match us, hl with | [_], _ => rfl, F.kp, Z.glo 6⟩
  refine fn_ok F sc__law_whole fun hdp cdv A outer st H E hr => ?_
  have tk := takes_of (X := cxOf (L2.CX P w) P w K mg base ["_law_thing"] "_law_whole" (defScope s6) (He.ga K "_law_whole") cdv A outer st H E) rfl rfl rfl rfl
  exact ⟨_, [], [], (pss_one (ps_ret (pe_and (pe_callB call_isi (by rfl) (Z.free 18) (by decide +kernel) (pa_cons (pv 0) (pa_cons (pe_bltn (v := .ty "int") (by rfl) (Z.free 17) (by decide +kernel) rfl) pa_nil))) (pe_one (pe_not (pe_callB call_isi (by rfl) (Z.free 18) (by decide +kernel) (pa_cons (pv 0) (pa_cons (pe_bltn (v := .ty "bool") (by rfl) (Z.free 16) (by decide +kernel) rfl) pa_nil)))))))), (snd_ret (snd_andV (snd_isi snd_rvar) (snd_notV (snd_isi snd_rvar))))⟩
theorem sc__law_power : FnScope ["_law_base", "_law_exponent", "_law_total", "_law_k"] ["_law_base", "_law_exponent"] (defScope s7) := ⟨rfl, rfl, rfl, by decide +kernel, rfl, by decide +kernel, by decide +kernel⟩
def m__law_power : FM := mkFn 4 2 (sSeq (sSet 2 (eC (.int 1))) (sSeq (sFor (aVia fRng1 (aCons (eVar 1) aNil)) (gVar 3) (sSet 2 (eOp (fI cMul fun i j => i * j) (eVar 2) (eVar 0)))) (sRet (eVar 2))))
theorem ok__law_power (Z : Pk fa fn K mg) : Good P w K mg base ca "_law_power" ["_law_base", "_law_exponent"] 1 m__law_power := by
  obtain ⟨fd, F⟩ := Z.says.def_ 7 (d := d7) rfl
  refine ⟨fd, ?_, F.bindsN fun _ _ _ _ _ _ us hl => match us, hl with | [_, _], _ => rfl, F.kp, Z.glo 7⟩
  refine fn_ok F sc__law_power fun hdp cdv A outer st H E hr => ?_
  have tk := takes_of (X := cxOf (L2.CX P w) P w K mg base ["_law_base", "_law_exponent", "_law_total", "_law_k"] "_law_power" (defScope s7) (He.ga K "_law_power") cdv A outer st H E) rfl rfl rfl rfl
  exact ⟨_, [], [], (pss_cons (ps_set (i := 2) sc__law_power.nd rfl (by first | exact Or.inl rfl | exact Or.inr rfl) pe_int) (pss_cons (ps_for (passes_of rfl) rfl (pi_range1 (by rfl) (Z.free 20) (pa_cons (pv 1) pa_nil)) (pg_name (i := 3) sc__law_power.nd rfl (by first | exact Or.inl rfl | exact Or.inr rfl)) (pss_one (ps_set (i := 2) sc__law_power.nd rfl (by first | exact Or.inl rfl | exact Or.inr rfl) (pe_op op_mulX (pv 2) (pv 0))))) (pss_one (ps_ret (pv 2))))), (snd_seq (snd_set snd_int) (snd_seq (snd_for (snd_rng1 (snd_acons (snd_var (by decide)) snd_anil)) snd_gvar (snd_set (snd_mul (snd_var (by decide)) (snd_var (by decide))))) (snd_ret (snd_var (by decide)))))⟩
theorem sc__law_is : FnScope ["_law_told", "_law_due"] ["_law_told", "_law_due"] (defScope s8) := ⟨rfl, rfl, rfl, by decide +kernel, rfl, by decide +kernel, by decide +kernel⟩
def m__law_is : FM := mkFn 2 2 (sRet (eAnd (eCall m__law_whole [] (aCons (eVar 0) aNil)) (eOp fEq (eVar 0) (eVar 1))))
theorem ok__law_is (Z : Pk fa fn K mg) : Good P w K mg base ca "_law_is" ["_law_told", "_law_due"] 2 m__law_is := by
  obtain ⟨fd, F⟩ := Z.says.def_ 8 (d := d8) rfl
  refine ⟨fd, ?_, F.bindsN fun _ _ _ _ _ _ us hl => match us, hl with | [_, _], _ => rfl, F.kp, Z.glo 8⟩
  refine fn_ok F sc__law_is fun hdp cdv A outer st H E hr => ?_
  have tk := takes_of (X := cxOf (L2.CX P w) P w K mg base ["_law_told", "_law_due"] "_law_is" (defScope s8) (He.ga K "_law_is") cdv A outer st H E) rfl rfl rfl rfl
  obtain ⟨fd__law_whole, ok__law_whole, b__law_whole, k__law_whole, g__law_whole⟩ := ok__law_whole (P := P) (w := w) (base := base) (ca := ca) Z
  exact ⟨_, [], [], (pss_one (ps_ret (pe_and (pe_callD ok__law_whole (hr.mono (by decide)) (by rfl) g__law_whole k__law_whole b__law_whole .nil (fun σ => passAt tk σ) (pa_cons (pv 0) pa_nil)) (pe_one (pe_cmpR (op_eqX hr.units) (pv 0) (pv 1) (nomark _)))))), (snd_ret (snd_andV (snd_call (dd := []) (snd_acons (snd_var (by decide)) snd_anil) (fun _ => rfl) (fun _ => rfl)) (snd_eq (snd_var (by decide)) (snd_var (by decide)))))⟩
theorem sc__law_rows : FnScope ["_law_q", "_law_most", "_law_rows_here", "_law_a", "_law_last", "_law_row", "_law_power_here", "_law_b"] ["_law_q", "_law_most"] (defScope s9) := ⟨rfl, rfl, rfl, by decide +kernel, rfl, by decide +kernel, by decide +kernel⟩
def m__law_rows : FM := mkFn 8 2 (sSeq (sSet 2 (eArgs (pf fLst) (aCons (eArgs (pf fLst) (aCons (eC (.int 1)) aNil)) aNil))) (sSeq (sFor (aVia fRng2 (aCons (eC (.int 1)) (aCons (eOp (fI0 fun i j => i + j) (eVar 1) (eC (.int 1))) aNil))) (gVar 3) (sSeq (sSet 4 (eOp fIx (eVar 2) (eUn fNeg (eC (.int 1))))) (sSeq (sSet 5 (eArgs (pf fLst) (aCons (eC (.int 1)) aNil))) (sSeq (sSet 6 (eC (.int 1))) (sSeq (sFor (aVia fRng2 (aCons (eC (.int 1)) (aCons (eVar 3) aNil))) (gVar 7) (sSeq (sSet 6 (eOp (fI cMul fun i j => i * j) (eVar 6) (eVar 0))) (sApp 5 (eOp (fI0 fun i j => i + j) (eOp fIx (eVar 4) (eOp (fI0 fun i j => i - j) (eVar 7) (eC (.int 1)))) (eOp (fI cMul fun i j => i * j) (eVar 6) (eOp fIx (eVar 4) (eVar 7))))))) (sSeq (sApp 5 (eC (.int 1))) (sApp 2 (eVar 5)))))))) (sRet (eVar 2))))
theorem ok__law_rows (Z : Pk fa fn K mg) : Good P w K mg base ca "_law_rows" ["_law_q", "_law_most"] 1 m__law_rows := by
  obtain ⟨fd, F⟩ := Z.says.def_ 9 (d := d9) rfl
  refine ⟨fd, ?_, F.bindsN fun _ _ _ _ _ _ us hl => match us, hl with | [_, _], _ => rfl, F.kp, Z.glo 9⟩
  refine fn_ok F sc__law_rows fun hdp cdv A outer st H E hr => ?_
  have tk := takes_of (X := cxOf (L2.CX P w) P w K mg base ["_law_q", "_law_most", "_law_rows_here", "_law_a", "_law_last", "_law_row", "_law_power_here", "_law_b"] "_law_rows" (defScope s9) (He.ga K "_law_rows") cdv A outer st H E) rfl rfl rfl rfl
  exact ⟨_, [], [], (pss_cons (ps_set (i := 2) sc__law_rows.nd rfl (by first | exact Or.inl rfl | exact Or.inr rfl) (pe_lst (pa_cons (pe_lst (pa_cons pe_int pa_nil)) pa_nil))) (pss_cons (ps_for (passes_of rfl) rfl (pi_range2 (by rfl) (Z.free 20) (pa_cons pe_int (pa_cons (pe_op op_add (pv 1) pe_int) pa_nil))) (pg_name (i := 3) sc__law_rows.nd rfl (by first | exact Or.inl rfl | exact Or.inr rfl)) (pss_cons (ps_set (i := 4) sc__law_rows.nd rfl (by first | exact Or.inl rfl | exact Or.inr rfl) (pe_ix ix_seq (pv 2) (pe_un un_neg pe_int) (fun _ _ => rfl))) (pss_cons (ps_set (i := 5) sc__law_rows.nd rfl (by first | exact Or.inl rfl | exact Or.inr rfl) (pe_lst (pa_cons pe_int pa_nil))) (pss_cons (ps_set (i := 6) sc__law_rows.nd rfl (by first | exact Or.inl rfl | exact Or.inr rfl) pe_int) (pss_cons (ps_for (passes_of rfl) rfl (pi_range2 (by rfl) (Z.free 20) (pa_cons pe_int (pa_cons (pv 3) pa_nil))) (pg_name (i := 7) sc__law_rows.nd rfl (by first | exact Or.inl rfl | exact Or.inr rfl)) (pss_cons (ps_set (i := 6) sc__law_rows.nd rfl (by first | exact Or.inl rfl | exact Or.inr rfl) (pe_op op_mulX (pv 6) (pv 0))) (pss_one (ps_expr (pe_bm PySem.F.plainAttrs_list PySem.F.slot_list_append PySem.F.type_list_append mt_append (pv 5) (pa_cons (pe_op op_add (pe_ix ix_seq (pv 4) (pe_op op_sub (pv 7) pe_int) (fun _ _ => rfl)) (pe_op op_mulX (pv 6) (pe_ix ix_seq (pv 4) (pv 7) (fun _ _ => rfl)))) pa_nil)))))) (pss_cons (ps_expr (pe_bm PySem.F.plainAttrs_list PySem.F.slot_list_append PySem.F.type_list_append mt_append (pv 5) (pa_cons pe_int pa_nil))) (pss_one (ps_expr (pe_bm PySem.F.plainAttrs_list PySem.F.slot_list_append PySem.F.type_list_append mt_append (pv 2) (pa_cons (pv 5) pa_nil)))))))))) (pss_one (ps_ret (pv 2))))), (snd_seq (snd_setL (snd_lst (snd_acons (snd_l (snd_lst (snd_acons snd_int snd_anil))) snd_anil)) lst_disp) (snd_seq (snd_for (snd_rng2 (snd_acons snd_int (snd_acons (snd_add (snd_var (by decide)) snd_int) snd_anil))) snd_gvar (snd_seq (snd_set (snd_ix snd_rvar (snd_neg snd_int))) (snd_seq (snd_setL (snd_lst (snd_acons snd_int snd_anil)) lst_disp) (snd_seq (snd_set snd_int) (snd_seq (snd_for (snd_rng2 (snd_acons snd_int (snd_acons (snd_var (by decide)) snd_anil))) snd_gvar (snd_seq (snd_set (snd_mul (snd_var (by decide)) (snd_var (by decide)))) (snd_app (by decide) (snd_add (snd_ix snd_rvar (snd_sub (snd_var (by decide)) snd_int)) (snd_mul (snd_var (by decide)) (snd_ix snd_rvar (snd_var (by decide)))))))) (snd_seq (snd_app (by decide) snd_int) (snd_lessB [2] (snd_app (by decide) (snd_var (by decide)))))))))) (snd_lessB [] (snd_ret (snd_var (by decide))))))⟩
theorem sc__law_spaces : FnScope ["_law_rows_here", "_law_a", "_law_b"] ["_law_rows_here", "_law_a", "_law_b"] (defScope s10) := ⟨rfl, rfl, rfl, by decide +kernel, rfl, by decide +kernel, by decide +kernel⟩
def m__law_spaces : FM := mkFn 3 3 (sSeq (sIf (eOr (onlyB (eOp (fB0 fun i j => decide (i < j)) (eVar 2) (eC (.int 0)))) (onlyB (eOp (fB0 fun i j => decide (j < i)) (eVar 2) (eVar 1)))) (sRet (eC (.int 0))) sPass) (sRet (eOp fIx (eOp fIx (eVar 0) (eVar 1)) (eVar 2))))
theorem ok__law_spaces (Z : Pk fa fn K mg) : Good P w K mg base ca "_law_spaces" ["_law_rows_here", "_law_a", "_law_b"] 1 m__law_spaces := by
  obtain ⟨fd, F⟩ := Z.says.def_ 10 (d := d10) rfl
  refine ⟨fd, ?_, F.bindsN fun _ _ _ _ _ _ us hl => match us, hl with | [_, _, _], _ => rfl, F.kp, Z.glo 10⟩
  refine fn_ok F sc__law_spaces fun hdp cdv A outer st H E hr => ?_
  have tk := takes_of (X := cxOf (L2.CX P w) P w K mg base ["_law_rows_here", "_law_a", "_law_b"] "_law_spaces" (defScope s10) (He.ga K "_law_spaces") cdv A outer st H E) rfl rfl rfl rfl
  exact ⟨_, [], [], (pss_cons (ps_if (PW.pt (pw_or (pt_cmpR op_lt (pv 2) pe_int (nomark _)) (pw_or1 (pt_cmpR op_gt (pv 2) (pv 1) (nomark _))))) (pss_one (ps_ret pe_int)) pss_nil) (pss_one (ps_ret (pe_ix ix_seq (pe_ix ix_seq (pv 0) (pv 1) (fun _ _ => rfl)) (pv 2) (fun _ _ => rfl))))), (snd_seq (snd_ifS (snd_or (snd_test (snd_lt (snd_var (by decide)) snd_int)) (snd_test (snd_gt (snd_var (by decide)) (snd_var (by decide))))) (snd_ret snd_int) snd_pass) (snd_ret (snd_ix (snd_r (snd_ix snd_rvar (snd_var (by decide)))) (snd_var (by decide)))))⟩
theorem sc__law_tables : FnScope ["_law_q", "_law_rows_here", "_law_tall", "_law_wide", "_law_rank", "_law_total", "_law_i"] ["_law_q", "_law_rows_here", "_law_tall", "_law_wide", "_law_rank"] (defScope s11) := ⟨rfl, rfl, rfl, by decide +kernel, rfl, by decide +kernel, by decide +kernel⟩
def m__law_tables : FM := mkFn 7 5 (sSeq (sIf (eOr (onlyB (eOp (fB0 fun i j => decide (i < j)) (eVar 4) (eC (.int 0)))) (eOr (onlyB (eOp (fB0 fun i j => decide (j < i)) (eVar 4) (eVar 2))) (onlyB (eOp (fB0 fun i j => decide (j < i)) (eVar 4) (eVar 3))))) (sRet (eC (.int 0))) sPass) (sSeq (sSet 5 (eOp fIx (eOp fIx (eVar 1) (eVar 3)) (eVar 4))) (sSeq (sFor (aVia fRng1 (aCons (eVar 4) aNil)) (gVar 6) (sSet 5 (eOp (fI cMul fun i j => i * j) (eVar 5) (eOp (fI0 fun i j => i - j) (eCall m__law_power [] (aCons (eVar 0) (aCons (eVar 2) aNil))) (eCall m__law_power [] (aCons (eVar 0) (aCons (eVar 6) aNil))))))) (sRet (eVar 5)))))
theorem ok__law_tables (Z : Pk fa fn K mg) : Good P w K mg base ca "_law_tables" ["_law_q", "_law_rows_here", "_law_tall", "_law_wide", "_law_rank"] 2 m__law_tables := by
  obtain ⟨fd, F⟩ := Z.says.def_ 11 (d := d11) rfl
  refine ⟨fd, ?_, F.bindsN fun _ _ _ _ _ _ us hl => match us, hl with | [_, _, _, _, _], _ => rfl, F.kp, Z.glo 11⟩
  refine fn_ok F sc__law_tables fun hdp cdv A outer st H E hr => ?_
  have tk := takes_of (X := cxOf (L2.CX P w) P w K mg base ["_law_q", "_law_rows_here", "_law_tall", "_law_wide", "_law_rank", "_law_total", "_law_i"] "_law_tables" (defScope s11) (He.ga K "_law_tables") cdv A outer st H E) rfl rfl rfl rfl
  obtain ⟨fd__law_power, ok__law_power, b__law_power, k__law_power, g__law_power⟩ := ok__law_power (P := P) (w := w) (base := base) (ca := ca) Z
  exact ⟨_, [], [], (pss_cons (ps_if (PW.pt (pw_or (pt_cmpR op_lt (pv 4) pe_int (nomark _)) (pw_or (pt_cmpR op_gt (pv 4) (pv 2) (nomark _)) (pw_or1 (pt_cmpR op_gt (pv 4) (pv 3) (nomark _)))))) (pss_one (ps_ret pe_int)) pss_nil) (pss_cons (ps_set (i := 5) sc__law_tables.nd rfl (by first | exact Or.inl rfl | exact Or.inr rfl) (pe_ix ix_seq (pe_ix ix_seq (pv 1) (pv 3) (fun _ _ => rfl)) (pv 4) (fun _ _ => rfl))) (pss_cons (ps_for (passes_of rfl) rfl (pi_range1 (by rfl) (Z.free 20) (pa_cons (pv 4) pa_nil)) (pg_name (i := 6) sc__law_tables.nd rfl (by first | exact Or.inl rfl | exact Or.inr rfl)) (pss_one (ps_set (i := 5) sc__law_tables.nd rfl (by first | exact Or.inl rfl | exact Or.inr rfl) (pe_op op_mulX (pv 5) (pe_op op_sub (pe_callD ok__law_power (hr.mono (by decide)) (by rfl) g__law_power k__law_power b__law_power .nil (fun σ => passAt tk σ) (pa_cons (pv 0) (pa_cons (pv 2) pa_nil))) (pe_callD ok__law_power (hr.mono (by decide)) (by rfl) g__law_power k__law_power b__law_power .nil (fun σ => passAt tk σ) (pa_cons (pv 0) (pa_cons (pv 6) pa_nil)))))))) (pss_one (ps_ret (pv 5)))))), (snd_seq (snd_ifS (snd_or (snd_test (snd_lt (snd_var (by decide)) snd_int)) (snd_or (snd_test (snd_gt (snd_var (by decide)) (snd_var (by decide)))) (snd_test (snd_gt (snd_var (by decide)) (snd_var (by decide)))))) (snd_ret snd_int) snd_pass) (snd_seq (snd_set (snd_ix (snd_r (snd_ix snd_rvar (snd_var (by decide)))) (snd_var (by decide)))) (snd_seq (snd_for (snd_rng1 (snd_acons (snd_var (by decide)) snd_anil)) snd_gvar (snd_set (snd_mul (snd_var (by decide)) (snd_sub (snd_call (dd := []) (snd_acons (snd_var (by decide)) (snd_acons (snd_var (by decide)) snd_anil)) (fun _ => rfl) (fun _ => rfl)) (snd_call (dd := []) (snd_acons (snd_var (by decide)) (snd_acons (snd_var (by decide)) snd_anil)) (fun _ => rfl) (fun _ => rfl)))))) (snd_ret (snd_var (by decide))))))⟩
theorem sc__law_number : FnScope ["_law_hand_here"] ["_law_hand_here"] (defScope s12) := ⟨rfl, rfl, rfl, by decide +kernel, rfl, by decide +kernel, by decide +kernel⟩
def m__law_number : FM := mkFn 1 1 (sRet (eIf (onlyB (eOp fEq (eCall m__law_take [] (aCons (eVar 0) (aCons (eC (.int 2)) aNil))) (eC (.int 0)))) (eCall m__law_take [] (aCons (eVar 0) (aCons (eC (.int 41)) aNil))) (eCall m__law_take [] (aCons (eVar 0) (aCons (eC (.int 6)) aNil)))))
theorem ok__law_number (Z : Pk fa fn K mg) : Good P w K mg base ca "_law_number" ["_law_hand_here"] 3 m__law_number := by
  obtain ⟨fd, F⟩ := Z.says.def_ 12 (d := d12) rfl
  refine ⟨fd, ?_, F.bindsN fun _ _ _ _ _ _ us hl => match us, hl with | [_], _ => rfl, F.kp, Z.glo 12⟩
  refine fn_ok F sc__law_number fun hdp cdv A outer st H E hr => ?_
  have tk := takes_of (X := cxOf (L2.CX P w) P w K mg base ["_law_hand_here"] "_law_number" (defScope s12) (He.ga K "_law_number") cdv A outer st H E) rfl rfl rfl rfl
  obtain ⟨fd__law_take, ok__law_take, b__law_take, k__law_take, g__law_take⟩ := ok__law_take (P := P) (w := w) (base := base) (ca := ca) Z
  exact ⟨_, [], [], (pss_one (ps_ret (pe_ifExp (pt_cmpR (op_eqX hr.units) (pe_callD ok__law_take (hr.mono (by decide)) (by rfl) g__law_take k__law_take b__law_take .nil (fun σ => passAt tk σ) (pa_cons (pv 0) (pa_cons pe_int pa_nil))) pe_int (nomark _)) (pe_callD ok__law_take (hr.mono (by decide)) (by rfl) g__law_take k__law_take b__law_take .nil (fun σ => passAt tk σ) (pa_cons (pv 0) (pa_cons pe_int pa_nil))) (pe_callD ok__law_take (hr.mono (by decide)) (by rfl) g__law_take k__law_take b__law_take .nil (fun σ => passAt tk σ) (pa_cons (pv 0) (pa_cons pe_int pa_nil)))))), (snd_ret (snd_if (snd_test (snd_eq (snd_call (dd := []) (snd_acons (snd_var (by decide)) (snd_acons snd_int snd_anil)) (fun _ => rfl) (fun _ => rfl)) snd_int)) (snd_call (dd := []) (snd_acons (snd_var (by decide)) (snd_acons snd_int snd_anil)) (fun _ => rfl) (fun _ => rfl)) (snd_call (dd := []) (snd_acons (snd_var (by decide)) (snd_acons snd_int snd_anil)) (fun _ => rfl) (fun _ => rfl))))⟩
theorem sc__law_part : FnScope ["_law_hand_here", "_law_whole_here", "_law_way"] ["_law_hand_here", "_law_whole_here"] (defScope s13) := ⟨rfl, rfl, rfl, by decide +kernel, rfl, by decide +kernel, by decide +kernel⟩
def m__law_part : FM := mkFn 3 2 (sSeq (sSet 2 (eCall m__law_take [] (aCons (eVar 0) (aCons (eC (.int 4)) aNil)))) (sSeq (sIf (onlyB (eOp fEq (eVar 2) (eC (.int 0)))) (sRet (eOp (fI0 fun i j => i - j) (eCall m__law_take [] (aCons (eVar 0) (aCons (eC (.int 81)) aNil))) (eC (.int 40)))) sPass) (sSeq (sIf (onlyB (eOp fEq (eVar 2) (eC (.int 1)))) (sRet (eIf (onlyB (eOp (fB0 fun i j => decide (i < j)) (eVar 1) (eC (.int 40)))) (eOp fIx (eArgs (pf fTup) (aCons (eUn fNeg (eC (.int 1))) (aCons (eVar 1) (aCons (eOp (fI0 fun i j => i + j) (eVar 1) (eC (.int 1))) (aCons (eC (.int 0)) aNil))))) (eCall m__law_take [] (aCons (eVar 0) (aCons (eC (.int 4)) aNil)))) (eOp fIx (eArgs (pf fTup) (aCons (eUn fNeg (eC (.int 1))) (aCons (eC (.int 40)) (aCons (eC (.int 0)) aNil)))) (eCall m__law_take [] (aCons (eVar 0) (aCons (eC (.int 3)) aNil)))))) sPass) (sRet (eCall m__law_take [] (aCons (eVar 0) (aCons (eOp (fI0 fun i j => i + j) (eVar 1) (eC (.int 1))) aNil)))))))
theorem ok__law_part (Z : Pk fa fn K mg) : Good P w K mg base ca "_law_part" ["_law_hand_here", "_law_whole_here"] 3 m__law_part := by
  obtain ⟨fd, F⟩ := Z.says.def_ 13 (d := d13) rfl
  refine ⟨fd, ?_, F.bindsN fun _ _ _ _ _ _ us hl => match us, hl with | [_, _], _ => rfl, F.kp, Z.glo 13⟩
  refine fn_ok F sc__law_part fun hdp cdv A outer st H E hr => ?_
  have tk := takes_of (X := cxOf (L2.CX P w) P w K mg base ["_law_hand_here", "_law_whole_here", "_law_way"] "_law_part" (defScope s13) (He.ga K "_law_part") cdv A outer st H E) rfl rfl rfl rfl
  obtain ⟨fd__law_take, ok__law_take, b__law_take, k__law_take, g__law_take⟩ := ok__law_take (P := P) (w := w) (base := base) (ca := ca) Z
  exact ⟨_, [], [], (pss_cons (ps_set (i := 2) sc__law_part.nd rfl (by first | exact Or.inl rfl | exact Or.inr rfl) (pe_callD ok__law_take (hr.mono (by decide)) (by rfl) g__law_take k__law_take b__law_take .nil (fun σ => passAt tk σ) (pa_cons (pv 0) (pa_cons pe_int pa_nil)))) (pss_cons (ps_if (pt_cmpR (op_eqX hr.units) (pv 2) pe_int (nomark _)) (pss_one (ps_ret (pe_op op_sub (pe_callD ok__law_take (hr.mono (by decide)) (by rfl) g__law_take k__law_take b__law_take .nil (fun σ => passAt tk σ) (pa_cons (pv 0) (pa_cons pe_int pa_nil))) pe_int))) pss_nil) (pss_cons (ps_if (pt_cmpR (op_eqX hr.units) (pv 2) pe_int (nomark _)) (pss_one (ps_ret (pe_ifExp (pt_cmpR op_lt (pv 1) pe_int (nomark _)) (pe_ix ix_seq (pe_tup (pa_cons (pe_un un_neg pe_int) (pa_cons (pv 1) (pa_cons (pe_op op_add (pv 1) pe_int) (pa_cons pe_int pa_nil))))) (pe_callD ok__law_take (hr.mono (by decide)) (by rfl) g__law_take k__law_take b__law_take .nil (fun σ => passAt tk σ) (pa_cons (pv 0) (pa_cons pe_int pa_nil))) (fun _ _ => rfl)) (pe_ix ix_seq (pe_tup (pa_cons (pe_un un_neg pe_int) (pa_cons pe_int (pa_cons pe_int pa_nil)))) (pe_callD ok__law_take (hr.mono (by decide)) (by rfl) g__law_take k__law_take b__law_take .nil (fun σ => passAt tk σ) (pa_cons (pv 0) (pa_cons pe_int pa_nil))) (fun _ _ => rfl))))) pss_nil) (pss_one (ps_ret (pe_callD ok__law_take (hr.mono (by decide)) (by rfl) g__law_take k__law_take b__law_take .nil (fun σ => passAt tk σ) (pa_cons (pv 0) (pa_cons (pe_op op_add (pv 1) pe_int) pa_nil)))))))), (snd_seq (snd_set (snd_call (dd := []) (snd_acons (snd_var (by decide)) (snd_acons snd_int snd_anil)) (fun _ => rfl) (fun _ => rfl))) (snd_seq (snd_ifS (snd_test (snd_eq (snd_var (by decide)) snd_int)) (snd_ret (snd_sub (snd_call (dd := []) (snd_acons (snd_var (by decide)) (snd_acons snd_int snd_anil)) (fun _ => rfl) (fun _ => rfl)) snd_int)) snd_pass) (snd_seq (snd_ifS (snd_test (snd_eq (snd_var (by decide)) snd_int)) (snd_ret (snd_if (snd_test (snd_lt (snd_var (by decide)) snd_int)) (snd_ix (snd_r (snd_tup (snd_acons (snd_neg snd_int) (snd_acons (snd_var (by decide)) (snd_acons (snd_add (snd_var (by decide)) snd_int) (snd_acons snd_int snd_anil)))))) (snd_call (dd := []) (snd_acons (snd_var (by decide)) (snd_acons snd_int snd_anil)) (fun _ => rfl) (fun _ => rfl))) (snd_ix (snd_r (snd_tup (snd_acons (snd_neg snd_int) (snd_acons snd_int (snd_acons snd_int snd_anil))))) (snd_call (dd := []) (snd_acons (snd_var (by decide)) (snd_acons snd_int snd_anil)) (fun _ => rfl) (fun _ => rfl))))) snd_pass) (snd_ret (snd_call (dd := []) (snd_acons (snd_var (by decide)) (snd_acons (snd_add (snd_var (by decide)) snd_int) snd_anil)) (fun _ => rfl) (fun _ => rfl))))))⟩
theorem sc__law_hand : FnScope ["_law_script", "_law_total", "_law_cells", "_law_cell"] ["_law_script"] (defScope s3) := ⟨rfl, rfl, rfl, by decide +kernel, rfl, by decide +kernel, by decide +kernel⟩
theorem ok__law_hand (Z : Pk fa fn K mg) : ∃ fd, FnOk P w K mg base CX0 1 (He.ga K "_law_hand") fd ["_law_script"] (spHand K) ∧ Binds K fd ["_law_script"] [] ∧ PySem.W.keepIn K (.ref (He.ga K "_law_hand")) = true ∧ mg "_law_hand" = some (.ref (He.ga K "_law_hand")) := by
  obtain ⟨fd, F⟩ := Z.says.def_ 3 (d := d3) rfl
  refine ⟨fd, ?_, F.bindsN fun _ _ _ _ _ _ us hl => match us, hl with | [_], _ => rfl, F.kp, Z.glo 3⟩
  refine F.ok sc__law_hand (fun vs H Q E h => ?_) (fun cdv A outer s H vs Q E hr h => ?_)
  · obtain ⟨a, ns, rfl, _⟩ := h
    rfl
  · obtain ⟨a, ns, rfl, r⟩ := h
    exact ⟨_, pss_cons (ps_set (i := 1) sc__law_hand.nd rfl (by first | exact Or.inl rfl | exact Or.inr rfl) (pe_op op_add (pe_callB call_len_seq (by rfl) (Z.free 19) (by decide +kernel) (pa_cons (pv 0) pa_nil)) pe_int))
    (pss_cons (ps_set (i := 2) sc__law_hand.nd rfl (by first | exact Or.inl rfl | exact Or.inr rfl) (pe_lst pa_nil))
    (pss_cons (ps_for (passes_of rfl) rfl (pi_list (pv 0)) (pg_name (i := 3) sc__law_hand.nd rfl (by first | exact Or.inl rfl | exact Or.inr rfl))
      (pss_cons (ps_set (i := 1) sc__law_hand.nd rfl (by first | exact Or.inl rfl | exact Or.inr rfl) (pe_op op_mod (pe_callTy call_int1 (by rfl) (Z.free 17) (by decide +kernel) (pa_cons (pe_op op_add (pe_op op_mulX (pv 1) pe_int) (pe_callTy call_int1 (by rfl) (Z.free 17) (by decide +kernel) (pa_cons (pv 3) pa_nil))) pa_nil)) pe_int))
      (pss_one (ps_expr (pe_bm PySem.F.plainAttrs_list PySem.F.slot_list_append PySem.F.type_list_append mt_append (pv 2) (pa_cons (pe_callB call_abs (by rfl) (Z.free 15) (by decide +kernel) (pa_cons (pe_callTy call_int1 (by rfl) (Z.free 17) (by decide +kernel) (pa_cons (pv 3) pa_nil)) pa_nil)) pa_nil))))))
    (pss_one (ps_ret (pe_lst (pa_cons (pv 2) (pa_cons pe_int (pa_cons pe_int (pa_cons (pv 1) pa_nil))))))))), hand_reads (vs := [.ref a]) (E := E) ⟨a, ns, rfl, r⟩⟩
theorem sc_law : FnScope ["_law_script", "_law_hand_here", "_law_q", "_law_rows_here", "_law_k", "_law_tall", "_law_wide", "_law_base", "_law_exponent", "_law_whole_here", "_law_part_here", "_law_rank"] ["_law_script"] (defScope s14) := ⟨rfl, rfl, rfl, by decide +kernel, rfl, by decide +kernel, by decide +kernel⟩
def s_law : SS := (sSeq (sSet 2 (eOp (fI0 fun i j => i + j) (eC (.int 2)) (eCall m__law_take [] (aCons (eVar 1) (aCons (eC (.int 2)) aNil))))) (sSeq (sSet 3 (eCall m__law_rows [] (aCons (eVar 2) (aCons (eC (.int 40)) aNil)))) (sSeq (sFor (aVia fRng1 (aCons (eC (.int 4)) aNil)) (gVar 4) (sSeq (sSet 9 (eCall m__law_number [] (aCons (eVar 1) aNil))) (sSeq (sSet 10 (eCall m__law_part [] (aCons (eVar 1) (aCons (eVar 9) aNil)))) (sSeq (sIf (eNot (eTru (eCall m__law_is [] (aCons (eCall m_space_count [] (aCons (eVar 2) (aCons (eVar 9) (aCons (eVar 10) aNil)))) (aCons (eCall m__law_spaces [] (aCons (eVar 3) (aCons (eVar 9) (aCons (eVar 10) aNil)))) aNil))))) (sRet (eC (.bl false))) sPass) (sSeq (sIf (eAnd (onlyB (eOp (fB0 fun i j => decide (i ≤ j)) (eOp (fI0 fun i j => i - j) (eVar 9) (eVar 10)) (eC (.int 40)))) (eNot (eTru (eCall m__law_is [] (aCons (eCall m_space_count [] (aCons (eVar 2) (aCons (eVar 9) (aCons (eOp (fI0 fun i j => i - j) (eVar 9) (eVar 10)) aNil)))) (aCons (eCall m__law_spaces [] (aCons (eVar 3) (aCons (eVar 9) (aCons (eVar 10) aNil)))) aNil)))))) (sRet (eC (.bl false))) sPass) (sSeq (sSet 5 (eCall m__law_number [] (aCons (eVar 1) aNil))) (sSeq (sSet 11 (eCall m__law_part [] (aCons (eVar 1) (aCons (eVar 5) aNil)))) (sSeq (sIf (eNot (eTru (eCall m__law_is [] (aCons (eCall m_table_count [] (aCons (eVar 2) (aCons (eVar 5) (aCons (eVar 9) (aCons (eVar 11) aNil))))) (aCons (eCall m__law_tables [] (aCons (eVar 2) (aCons (eVar 3) (aCons (eVar 5) (aCons (eVar 9) (aCons (eVar 11) aNil)))))) aNil))))) (sRet (eC (.bl false))) sPass) (sIf (eNot (eTru (eCall m__law_is [] (aCons (eCall m_table_count [] (aCons (eVar 2) (aCons (eVar 9) (aCons (eVar 5) (aCons (eVar 11) aNil))))) (aCons (eCall m__law_tables [] (aCons (eVar 2) (aCons (eVar 3) (aCons (eVar 5) (aCons (eVar 9) (aCons (eVar 11) aNil)))))) aNil))))) (sRet (eC (.bl false))) sPass))))))))) (sSeq (sSet 5 (eCall m__law_number [] (aCons (eVar 1) aNil))) (sSeq (sSet 6 (eCall m__law_take [] (aCons (eVar 1) (aCons (eC (.int 8)) aNil)))) (sSeq (sIf (onlyB (eOp fNe (eUn fSum (eComp [11] (aVia fRng1 (aCons (eOp (fI0 fun i j => i + j) (eVar 6) (eC (.int 1))) aNil)) (gVar 11) eYes (eCall m_table_count [] (aCons (eVar 2) (aCons (eVar 5) (aCons (eVar 6) (aCons (eVar 11) aNil))))))) (eCall m__law_power [] (aCons (eVar 2) (aCons (eOp (fI cMul fun i j => i * j) (eVar 5) (eVar 6)) aNil))))) (sRet (eC (.bl false))) sPass) (sSeq (sSet 7 (eIf (onlyB (eOp fEq (eCall m__law_take [] (aCons (eVar 1) (aCons (eC (.int 2)) aNil))) (eC (.int 0)))) (eOp (fI0 fun i j => i - j) (eCall m__law_take [] (aCons (eVar 1) (aCons (eOp (fI cMul fun i j => i * j) (eC (.int 2)) (eOp (fI cPow fun i j => i ^ j.toNat) (eC (.int 10)) (eC (.int 29)))) aNil))) (eOp (fI cPow fun i j => i ^ j.toNat) (eC (.int 10)) (eC (.int 29)))) (eOp (fI0 fun i j => i - j) (eCall m__law_take [] (aCons (eVar 1) (aCons (eC (.int 9)) aNil))) (eC (.int 4))))) (sSeq (sSet 8 (eCall m__law_number [] (aCons (eVar 1) aNil))) (sSeq (sIf (eOr (eNot (eTru (eCall m__law_is [] (aCons (eCall m_power_of [] (aCons (eVar 7) (aCons (eVar 8) aNil))) (aCons (eCall m__law_power [] (aCons (eVar 7) (aCons (eVar 8) aNil))) aNil))))) (eNot (eTru (eCall m__law_is [] (aCons (eCall m_power_of [] (aCons (eC (.int 0)) (aCons (eVar 8) aNil))) (aCons (eUn fInt (eOp fEq (eVar 8) (eC (.int 0)))) aNil)))))) (sRet (eC (.bl false))) sPass) (sRet (eCall m__law_is [] (aCons (eCall m_power_of [] (aCons (eUn fNeg (eVar 7)) (aCons (eVar 8) aNil))) (aCons (eCall m__law_power [] (aCons (eUn fNeg (eVar 7)) (aCons (eVar 8) aNil))) aNil)))))))))))))
def spLaw (K : PySem.W.Frag) : Sp := fun vs H Q _ => ∃ (a : Addr) (ns : List Int), vs = [.ref a] ∧ SqL K H a (ns.map V.int) ∧ ns.length ≤ 63 ∧ ∀ H', Q (.bl true) H'
def LawTrue : Prop := ∀ ns : List Int, ns.length ≤ 63 → ∃ g', s_law ((List.replicate 12 none).set 1 (some .hand)) (hand0 ns) = some (.ret (.bl true), g')
theorem ok_lawF {fd : FuncData} (Z : Pk fa fn K mg) (T : LawTrue) (F : FunD K d14.name d14.qual d14.params d14.body d14.scope (He.DefD.dvs K d14) (He.DefD.kws K d14) (He.fAd K d14.at_) fd) : FnOk P w K mg base CX0 5 (He.ga K "law") fd ["_law_script"] (spLaw K) := by
  refine F.ok sc_law (fun vs H Q E h => ?_) (fun cdv A outer st H vs Q E hr h => ?_)
  · obtain ⟨a, ns, rfl, _⟩ := h
    rfl
  · obtain ⟨a, ns, rfl, hS, hl, hQ⟩ := h
    have ca : Str → Addr := He.ga K
    have tk := takes0 (X := cxOf CX0 P w K mg base ["_law_script", "_law_hand_here", "_law_q", "_law_rows_here", "_law_k", "_law_tall", "_law_wide", "_law_base", "_law_exponent", "_law_whole_here", "_law_part_here", "_law_rank"] "law" (defScope s14) (He.ga K "law") cdv A outer st H E)
    obtain ⟨fdH, okH, bH, kH, gH⟩ := ok__law_hand (P := P) (w := w) (base := base) Z
    obtain ⟨fd__law_take, ok__law_take, b__law_take, k__law_take, g__law_take⟩ := ok__law_take (P := P) (w := w) (base := base) (ca := ca) Z
    obtain ⟨fd__law_rows, ok__law_rows, b__law_rows, k__law_rows, g__law_rows⟩ := ok__law_rows (P := P) (w := w) (base := base) (ca := ca) Z
    obtain ⟨fd__law_number, ok__law_number, b__law_number, k__law_number, g__law_number⟩ := ok__law_number (P := P) (w := w) (base := base) (ca := ca) Z
    obtain ⟨fd__law_part, ok__law_part, b__law_part, k__law_part, g__law_part⟩ := ok__law_part (P := P) (w := w) (base := base) (ca := ca) Z
    obtain ⟨fd_space_count, ok_space_count, b_space_count, k_space_count, g_space_count⟩ := ok_space_count (P := P) (w := w) (base := base) (ca := ca) Z
    obtain ⟨fd__law_spaces, ok__law_spaces, b__law_spaces, k__law_spaces, g__law_spaces⟩ := ok__law_spaces (P := P) (w := w) (base := base) (ca := ca) Z
    obtain ⟨fd__law_is, ok__law_is, b__law_is, k__law_is, g__law_is⟩ := ok__law_is (P := P) (w := w) (base := base) (ca := ca) Z
    obtain ⟨fd_table_count, ok_table_count, b_table_count, k_table_count, g_table_count⟩ := ok_table_count (P := P) (w := w) (base := base) (ca := ca) Z
    obtain ⟨fd__law_tables, ok__law_tables, b__law_tables, k__law_tables, g__law_tables⟩ := ok__law_tables (P := P) (w := w) (base := base) (ca := ca) Z
    obtain ⟨fd__law_power, ok__law_power, b__law_power, k__law_power, g__law_power⟩ := ok__law_power (P := P) (w := w) (base := base) (ca := ca) Z
    obtain ⟨fd_power_of, ok_power_of, b_power_of, k_power_of, g_power_of⟩ := ok_power_of (P := P) (w := w) (base := base) (ca := ca) Z
    refine ⟨_, pss_cons (ps_set (i := 1) sc_law.nd rfl (by first | exact Or.inl rfl | exact Or.inr rfl) (pe_call okH (hr.mono (by decide)) (by rfl) gH kH bH .nil pass0 (pa_cons (pv 0) pa_nil))) (pss_cons (ps_set (i := 2) sc_law.nd rfl (by first | exact Or.inl rfl | exact Or.inr rfl) (pe_op op_add pe_int (pe_callD ok__law_take (hr.mono (by decide)) (by rfl) g__law_take k__law_take b__law_take .nil (fun σ => passAt tk σ) (pa_cons (pv 1) (pa_cons pe_int pa_nil))))) (pss_cons (ps_set (i := 3) sc_law.nd rfl (by first | exact Or.inl rfl | exact Or.inr rfl) (pe_callD ok__law_rows (hr.mono (by decide)) (by rfl) g__law_rows k__law_rows b__law_rows .nil (fun σ => passAt tk σ) (pa_cons (pv 2) (pa_cons pe_int pa_nil)))) (pss_cons (ps_for (passes_of rfl) rfl (pi_range1 (by rfl) (Z.free 20) (pa_cons pe_int pa_nil)) (pg_name (i := 4) sc_law.nd rfl (by first | exact Or.inl rfl | exact Or.inr rfl)) (pss_cons (ps_set (i := 9) sc_law.nd rfl (by first | exact Or.inl rfl | exact Or.inr rfl) (pe_callD ok__law_number (hr.mono (by decide)) (by rfl) g__law_number k__law_number b__law_number .nil (fun σ => passAt tk σ) (pa_cons (pv 1) pa_nil))) (pss_cons (ps_set (i := 10) sc_law.nd rfl (by first | exact Or.inl rfl | exact Or.inr rfl) (pe_callD ok__law_part (hr.mono (by decide)) (by rfl) g__law_part k__law_part b__law_part .nil (fun σ => passAt tk σ) (pa_cons (pv 1) (pa_cons (pv 9) pa_nil)))) (pss_cons (ps_if (pt_not (pt_truthX (pe_callD ok__law_is (hr.mono (by decide)) (by rfl) g__law_is k__law_is b__law_is .nil (fun σ => passAt tk σ) (pa_cons (pe_callD ok_space_count (hr.mono (by decide)) (by rfl) g_space_count k_space_count b_space_count .nil (fun σ => passAt tk σ) (pa_cons (pv 2) (pa_cons (pv 9) (pa_cons (pv 10) pa_nil)))) (pa_cons (pe_callD ok__law_spaces (hr.mono (by decide)) (by rfl) g__law_spaces k__law_spaces b__law_spaces .nil (fun σ => passAt tk σ) (pa_cons (pv 3) (pa_cons (pv 9) (pa_cons (pv 10) pa_nil)))) pa_nil))))) (pss_one (ps_ret pe_bl)) pss_nil) (pss_cons (ps_if (PW.pt (pw_and (pt_cmpR op_le (pe_op op_sub (pv 9) (pv 10)) pe_int (nomark _)) (pw_and1 (pt_not (pt_truthX (pe_callD ok__law_is (hr.mono (by decide)) (by rfl) g__law_is k__law_is b__law_is .nil (fun σ => passAt tk σ) (pa_cons (pe_callD ok_space_count (hr.mono (by decide)) (by rfl) g_space_count k_space_count b_space_count .nil (fun σ => passAt tk σ) (pa_cons (pv 2) (pa_cons (pv 9) (pa_cons (pe_op op_sub (pv 9) (pv 10)) pa_nil)))) (pa_cons (pe_callD ok__law_spaces (hr.mono (by decide)) (by rfl) g__law_spaces k__law_spaces b__law_spaces .nil (fun σ => passAt tk σ) (pa_cons (pv 3) (pa_cons (pv 9) (pa_cons (pv 10) pa_nil)))) pa_nil)))))))) (pss_one (ps_ret pe_bl)) pss_nil) (pss_cons (ps_set (i := 5) sc_law.nd rfl (by first | exact Or.inl rfl | exact Or.inr rfl) (pe_callD ok__law_number (hr.mono (by decide)) (by rfl) g__law_number k__law_number b__law_number .nil (fun σ => passAt tk σ) (pa_cons (pv 1) pa_nil))) (pss_cons (ps_set (i := 11) sc_law.nd rfl (by first | exact Or.inl rfl | exact Or.inr rfl) (pe_callD ok__law_part (hr.mono (by decide)) (by rfl) g__law_part k__law_part b__law_part .nil (fun σ => passAt tk σ) (pa_cons (pv 1) (pa_cons (pv 5) pa_nil)))) (pss_cons (ps_if (pt_not (pt_truthX (pe_callD ok__law_is (hr.mono (by decide)) (by rfl) g__law_is k__law_is b__law_is .nil (fun σ => passAt tk σ) (pa_cons (pe_callD ok_table_count (hr.mono (by decide)) (by rfl) g_table_count k_table_count b_table_count .nil (fun σ => passAt tk σ) (pa_cons (pv 2) (pa_cons (pv 5) (pa_cons (pv 9) (pa_cons (pv 11) pa_nil))))) (pa_cons (pe_callD ok__law_tables (hr.mono (by decide)) (by rfl) g__law_tables k__law_tables b__law_tables .nil (fun σ => passAt tk σ) (pa_cons (pv 2) (pa_cons (pv 3) (pa_cons (pv 5) (pa_cons (pv 9) (pa_cons (pv 11) pa_nil)))))) pa_nil))))) (pss_one (ps_ret pe_bl)) pss_nil) (pss_one (ps_if (pt_not (pt_truthX (pe_callD ok__law_is (hr.mono (by decide)) (by rfl) g__law_is k__law_is b__law_is .nil (fun σ => passAt tk σ) (pa_cons (pe_callD ok_table_count (hr.mono (by decide)) (by rfl) g_table_count k_table_count b_table_count .nil (fun σ => passAt tk σ) (pa_cons (pv 2) (pa_cons (pv 9) (pa_cons (pv 5) (pa_cons (pv 11) pa_nil))))) (pa_cons (pe_callD ok__law_tables (hr.mono (by decide)) (by rfl) g__law_tables k__law_tables b__law_tables .nil (fun σ => passAt tk σ) (pa_cons (pv 2) (pa_cons (pv 3) (pa_cons (pv 5) (pa_cons (pv 9) (pa_cons (pv 11) pa_nil)))))) pa_nil))))) (pss_one (ps_ret pe_bl)) pss_nil)))))))))) (pss_cons (ps_set (i := 5) sc_law.nd rfl (by first | exact Or.inl rfl | exact Or.inr rfl) (pe_callD ok__law_number (hr.mono (by decide)) (by rfl) g__law_number k__law_number b__law_number .nil (fun σ => passAt tk σ) (pa_cons (pv 1) pa_nil))) (pss_cons (ps_set (i := 6) sc_law.nd rfl (by first | exact Or.inl rfl | exact Or.inr rfl) (pe_callD ok__law_take (hr.mono (by decide)) (by rfl) g__law_take k__law_take b__law_take .nil (fun σ => passAt tk σ) (pa_cons (pv 1) (pa_cons pe_int pa_nil)))) (pss_cons (ps_if (pt_cmpR (op_neX hr.units) (pe_callB (cr_sum rfl) (by rfl) (Z.free 21) (by decide +kernel) (pa_cons (pe_lc (own := [("_law_rank", 11)]) rfl sc_law.nd (pi_range1 (by rfl) (Z.free 20) (pa_cons (pe_op op_add (pv 6) pe_int) pa_nil)) (blkOk_by (own := [("_law_rank", 11)]) (N := ["_law_script", "_law_hand_here", "_law_q", "_law_rows_here", "_law_k", "_law_tall", "_law_wide", "_law_base", "_law_exponent", "_law_whole_here", "_law_part_here", "_law_rank"]) (sc := (defScope s14)) (by decide +kernel)) (fun _ _ _ _ _ => (pg_name (i := 11) sc_law.nd rfl (by first | exact Or.inl rfl | exact Or.inr rfl))) (fun _ _ _ _ _ => pts_nil) (fun _ _ _ _ _ => (pe_callD ok_table_count (hr.mono (by decide)) (by rfl) g_table_count k_table_count b_table_count .nil (passB) (pa_cons (pv 2) (pa_cons (pv 5) (pa_cons (pv 6) (pa_cons (pv 11) pa_nil))))))) pa_nil)) (pe_callD ok__law_power (hr.mono (by decide)) (by rfl) g__law_power k__law_power b__law_power .nil (fun σ => passAt tk σ) (pa_cons (pv 2) (pa_cons (pe_op op_mulX (pv 5) (pv 6)) pa_nil))) (nomark _)) (pss_one (ps_ret pe_bl)) pss_nil) (pss_cons (ps_set (i := 7) sc_law.nd rfl (by first | exact Or.inl rfl | exact Or.inr rfl) (pe_ifExp (pt_cmpR (op_eqX hr.units) (pe_callD ok__law_take (hr.mono (by decide)) (by rfl) g__law_take k__law_take b__law_take .nil (fun σ => passAt tk σ) (pa_cons (pv 1) (pa_cons pe_int pa_nil))) pe_int (nomark _)) (pe_op op_sub (pe_callD ok__law_take (hr.mono (by decide)) (by rfl) g__law_take k__law_take b__law_take .nil (fun σ => passAt tk σ) (pa_cons (pv 1) (pa_cons (pe_op op_mulX pe_int (pe_op op_pow pe_int pe_int)) pa_nil))) (pe_op op_pow pe_int pe_int)) (pe_op op_sub (pe_callD ok__law_take (hr.mono (by decide)) (by rfl) g__law_take k__law_take b__law_take .nil (fun σ => passAt tk σ) (pa_cons (pv 1) (pa_cons pe_int pa_nil))) pe_int))) (pss_cons (ps_set (i := 8) sc_law.nd rfl (by first | exact Or.inl rfl | exact Or.inr rfl) (pe_callD ok__law_number (hr.mono (by decide)) (by rfl) g__law_number k__law_number b__law_number .nil (fun σ => passAt tk σ) (pa_cons (pv 1) pa_nil))) (pss_cons (ps_if (PW.pt (pw_or (pt_not (pt_truthX (pe_callD ok__law_is (hr.mono (by decide)) (by rfl) g__law_is k__law_is b__law_is .nil (fun σ => passAt tk σ) (pa_cons (pe_callD ok_power_of (hr.mono (by decide)) (by rfl) g_power_of k_power_of b_power_of .nil (fun σ => passAt tk σ) (pa_cons (pv 7) (pa_cons (pv 8) pa_nil))) (pa_cons (pe_callD ok__law_power (hr.mono (by decide)) (by rfl) g__law_power k__law_power b__law_power .nil (fun σ => passAt tk σ) (pa_cons (pv 7) (pa_cons (pv 8) pa_nil))) pa_nil))))) (pw_or1 (pt_not (pt_truthX (pe_callD ok__law_is (hr.mono (by decide)) (by rfl) g__law_is k__law_is b__law_is .nil (fun σ => passAt tk σ) (pa_cons (pe_callD ok_power_of (hr.mono (by decide)) (by rfl) g_power_of k_power_of b_power_of .nil (fun σ => passAt tk σ) (pa_cons pe_int (pa_cons (pv 8) pa_nil))) (pa_cons (pe_callTy call_int1 (by rfl) (Z.free 17) (by decide +kernel) (pa_cons (pe_cmpR (op_eqX hr.units) (pv 8) pe_int (nomark _)) pa_nil)) pa_nil)))))))) (pss_one (ps_ret pe_bl)) pss_nil) (pss_one (ps_ret (pe_callD ok__law_is (hr.mono (by decide)) (by rfl) g__law_is k__law_is b__law_is .nil (fun σ => passAt tk σ) (pa_cons (pe_callD ok_power_of (hr.mono (by decide)) (by rfl) g_power_of k_power_of b_power_of .nil (fun σ => passAt tk σ) (pa_cons (pe_un un_neg (pv 7)) (pa_cons (pv 8) pa_nil))) (pa_cons (pe_callD ok__law_power (hr.mono (by decide)) (by rfl) g__law_power k__law_power b__law_power .nil (fun σ => passAt tk σ) (pa_cons (pe_un un_neg (pv 7)) (pa_cons (pv 8) pa_nil))) pa_nil)))))))))))))), ?_⟩
    refine ⟨_, rfl, a, ns, rfl, hS, hl, fun p cl H' hp np kp hc hl2 => ?_⟩
    obtain ⟨g', q⟩ := T ns hl
    refine law_rest (ca := ca) (O' := []) (OL := []) (n := 12) (i := 1) (by exact (snd_seq (snd_set (snd_add snd_int (snd_call (dd := []) (snd_acons (snd_var (by decide)) (snd_acons snd_int snd_anil)) (fun _ => rfl) (fun _ => rfl)))) (snd_seq (snd_set (snd_call (dd := []) (snd_acons (snd_var (by decide)) (snd_acons snd_int snd_anil)) (fun _ => rfl) (fun _ => rfl))) (snd_seq (snd_for (snd_rng1 (snd_acons snd_int snd_anil)) snd_gvar (snd_seq (snd_set (snd_call (dd := []) (snd_acons (snd_var (by decide)) snd_anil) (fun _ => rfl) (fun _ => rfl))) (snd_seq (snd_set (snd_call (dd := []) (snd_acons (snd_var (by decide)) (snd_acons (snd_var (by decide)) snd_anil)) (fun _ => rfl) (fun _ => rfl))) (snd_seq (snd_ifS (snd_not (snd_tru (snd_call (dd := []) (snd_acons (snd_call (dd := []) (snd_acons (snd_var (by decide)) (snd_acons (snd_var (by decide)) (snd_acons (snd_var (by decide)) snd_anil))) (fun _ => rfl) (fun _ => rfl)) (snd_acons (snd_call (dd := []) (snd_acons (snd_var (by decide)) (snd_acons (snd_var (by decide)) (snd_acons (snd_var (by decide)) snd_anil))) (fun _ => rfl) (fun _ => rfl)) snd_anil)) (fun _ => rfl) (fun _ => rfl)))) (snd_ret snd_bl) snd_pass) (snd_seq (snd_ifS (snd_and (snd_test (snd_le (snd_sub (snd_var (by decide)) (snd_var (by decide))) snd_int)) (snd_not (snd_tru (snd_call (dd := []) (snd_acons (snd_call (dd := []) (snd_acons (snd_var (by decide)) (snd_acons (snd_var (by decide)) (snd_acons (snd_sub (snd_var (by decide)) (snd_var (by decide))) snd_anil))) (fun _ => rfl) (fun _ => rfl)) (snd_acons (snd_call (dd := []) (snd_acons (snd_var (by decide)) (snd_acons (snd_var (by decide)) (snd_acons (snd_var (by decide)) snd_anil))) (fun _ => rfl) (fun _ => rfl)) snd_anil)) (fun _ => rfl) (fun _ => rfl))))) (snd_ret snd_bl) snd_pass) (snd_seq (snd_set (snd_call (dd := []) (snd_acons (snd_var (by decide)) snd_anil) (fun _ => rfl) (fun _ => rfl))) (snd_seq (snd_set (snd_call (dd := []) (snd_acons (snd_var (by decide)) (snd_acons (snd_var (by decide)) snd_anil)) (fun _ => rfl) (fun _ => rfl))) (snd_seq (snd_ifS (snd_not (snd_tru (snd_call (dd := []) (snd_acons (snd_call (dd := []) (snd_acons (snd_var (by decide)) (snd_acons (snd_var (by decide)) (snd_acons (snd_var (by decide)) (snd_acons (snd_var (by decide)) snd_anil)))) (fun _ => rfl) (fun _ => rfl)) (snd_acons (snd_call (dd := []) (snd_acons (snd_var (by decide)) (snd_acons (snd_var (by decide)) (snd_acons (snd_var (by decide)) (snd_acons (snd_var (by decide)) (snd_acons (snd_var (by decide)) snd_anil))))) (fun _ => rfl) (fun _ => rfl)) snd_anil)) (fun _ => rfl) (fun _ => rfl)))) (snd_ret snd_bl) snd_pass) (snd_ifS (snd_not (snd_tru (snd_call (dd := []) (snd_acons (snd_call (dd := []) (snd_acons (snd_var (by decide)) (snd_acons (snd_var (by decide)) (snd_acons (snd_var (by decide)) (snd_acons (snd_var (by decide)) snd_anil)))) (fun _ => rfl) (fun _ => rfl)) (snd_acons (snd_call (dd := []) (snd_acons (snd_var (by decide)) (snd_acons (snd_var (by decide)) (snd_acons (snd_var (by decide)) (snd_acons (snd_var (by decide)) (snd_acons (snd_var (by decide)) snd_anil))))) (fun _ => rfl) (fun _ => rfl)) snd_anil)) (fun _ => rfl) (fun _ => rfl)))) (snd_ret snd_bl) snd_pass))))))))) (snd_seq (snd_set (snd_call (dd := []) (snd_acons (snd_var (by decide)) snd_anil) (fun _ => rfl) (fun _ => rfl))) (snd_seq (snd_set (snd_call (dd := []) (snd_acons (snd_var (by decide)) (snd_acons snd_int snd_anil)) (fun _ => rfl) (fun _ => rfl))) (snd_seq (snd_ifS (snd_test (snd_ne (snd_b1 (snd_r (snd_l (snd_comp (own := [11]) (snd_rng1 (snd_acons (snd_add (snd_var (by decide)) snd_int) snd_anil)) snd_gvar snd_yes (snd_call (dd := []) (snd_acons (snd_var (by decide)) (snd_acons (snd_var (by decide)) (snd_acons (snd_var (by decide)) (snd_acons (snd_var (by decide)) snd_anil)))) (fun _ => rfl) (fun _ => rfl)) (by decide) (by decide)))) rb_sum) (snd_call (dd := []) (snd_acons (snd_var (by decide)) (snd_acons (snd_mul (snd_var (by decide)) (snd_var (by decide))) snd_anil)) (fun _ => rfl) (fun _ => rfl)))) (snd_ret snd_bl) snd_pass) (snd_seq (snd_set (snd_if (snd_test (snd_eq (snd_call (dd := []) (snd_acons (snd_var (by decide)) (snd_acons snd_int snd_anil)) (fun _ => rfl) (fun _ => rfl)) snd_int)) (snd_sub (snd_call (dd := []) (snd_acons (snd_var (by decide)) (snd_acons (snd_mul snd_int (snd_pow snd_int snd_int)) snd_anil)) (fun _ => rfl) (fun _ => rfl)) (snd_pow snd_int snd_int)) (snd_sub (snd_call (dd := []) (snd_acons (snd_var (by decide)) (snd_acons snd_int snd_anil)) (fun _ => rfl) (fun _ => rfl)) snd_int))) (snd_seq (snd_set (snd_call (dd := []) (snd_acons (snd_var (by decide)) snd_anil) (fun _ => rfl) (fun _ => rfl))) (snd_seq (snd_ifS (snd_or (snd_not (snd_tru (snd_call (dd := []) (snd_acons (snd_call (dd := []) (snd_acons (snd_var (by decide)) (snd_acons (snd_var (by decide)) snd_anil)) (fun _ => rfl) (fun _ => rfl)) (snd_acons (snd_call (dd := []) (snd_acons (snd_var (by decide)) (snd_acons (snd_var (by decide)) snd_anil)) (fun _ => rfl) (fun _ => rfl)) snd_anil)) (fun _ => rfl) (fun _ => rfl)))) (snd_not (snd_tru (snd_call (dd := []) (snd_acons (snd_call (dd := []) (snd_acons snd_int (snd_acons (snd_var (by decide)) snd_anil)) (fun _ => rfl) (fun _ => rfl)) (snd_acons (snd_b1 (snd_r (snd_eq (snd_var (by decide)) snd_int)) rb_int) snd_anil)) (fun _ => rfl) (fun _ => rfl))))) (snd_ret snd_bl) snd_pass) (snd_ret (snd_call (dd := []) (snd_acons (snd_call (dd := []) (snd_acons (snd_neg (snd_var (by decide))) (snd_acons (snd_var (by decide)) snd_anil)) (fun _ => rfl) (fun _ => rfl)) (snd_acons (snd_call (dd := []) (snd_acons (snd_neg (snd_var (by decide))) (snd_acons (snd_var (by decide)) snd_anil)) (fun _ => rfl) (fun _ => rfl)) snd_anil)) (fun _ => rfl) (fun _ => rfl))))))))))))) ?_ ?_ np hc hl2 q hQ
    · rfl
    · rfl
end
end HK74

set_option maxRecDepth 100000
set_option maxHeartbeats 1000000
namespace HK74
open PySem L2 MP
theorem mixed_ok (a b : Int) (g : G) : m__law_mixed [.int a, .int b] g = some (.ok (.int (mixF a b)), g) := by
  have k1 : ∀ x : Int, cMul x 39373 = true := fun x => cMul_r (by decide)
  have k2 : ∀ x : Int, cMul x 6151 = true := fun x => cMul_r (by decide)
  have k3 : ∀ x : Int, cMul x 81071 = true := fun x => cMul_r (by decide)
  have k4 : ∀ x : Int, cMul x 62089 = true := fun x => cMul_r (by decide)
  have d1 : ∀ x : Int, cMod x 2147483399 = true := fun x => cMod_ok (by decide)
  have d2 : ∀ x : Int, cMod x 2147483629 = true := fun x => cMod_ok (by decide)
  have d3 : ∀ x : Int, cMod x 2147483587 = true := fun x => cMod_ok (by decide)
  have q1 : ∀ x : Int, cDiv x 137 = true := fun x => cDiv_ok (by decide) (by decide +kernel)
  have q2 : ∀ x : Int, cDiv x 11 = true := fun x => cDiv_ok (by decide) (by decide +kernel)
  have q3 : ∀ x : Int, cDiv x 64 = true := fun x => cDiv_ok (by decide) (by decide +kernel)
  have k5 : cMul ((a * 39373 + b * 6151 + 50021) % 2147483399) ((a * 39373 + b * 6151 + 50021) % 2147483399) = true := cMul_r (by omega)
  simp [m__law_mixed, mkFn, sSeq, bS, sSet, bV, eOp, bE, eVar, eC, eUn, fI0, fI, fInt, sRet, mixF, k1, k2, k3, k4, d1, d2, d3, q1, q2, q3, k5]
end HK74
namespace HK74
open PySem L2 MP
theorem atI_0 {x y z w : MP.D} : atI [x, y, z, w] 0 = some x := rfl
theorem atI_1 {x y z w : MP.D} : atI [x, y, z, w] 1 = some y := rfl
theorem atI_2 {x y z w : MP.D} : atI [x, y, z, w] 2 = some z := rfl
theorem atI_3 {x y z w : MP.D} : atI [x, y, z, w] 3 = some w := rfl
theorem ixN_1 : ixN 4 1 = some 1 := rfl
theorem ixN_2 : ixN 4 2 = some 2 := rfl
theorem ixN_3 : ixN 4 3 = some 3 := rfl
theorem take_ok (many : Int) (g : G) (h0 : 0 < many) (h1 : many.natAbs.log2 < 9000) (hg : HandOk g) : ∃ v g', m__law_take [.hand, .int many] g = some (.ok (.int v), g') ∧ 0 ≤ v ∧ v < many ∧ HandOk g' := by
  obtain ⟨ns, i, r, s, rfl, hn, hr⟩ := hg
  have cm : ∀ x : Int, cMod x many = true := fun x => cMod_ok h0
  have cd : ∀ x : Int, cDiv x many = true := fun x => cDiv_ok h0 h1
  have d1 : ∀ x : Int, cMod x 2147483399 = true := fun x => cMod_ok (by decide)
  have d2 : ∀ x : Int, cMod x 2147483549 = true := fun x => cMod_ok (by decide)
  have p1 : cPow 10 18 = true := by decide
  have lo : ∀ x : Int, 0 ≤ x % many := fun x => Int.emod_nonneg x (by omega)
  have hi : ∀ x : Int, x % many < many := fun x => Int.emod_lt_of_pos x h0
  by_cases hr0 : r = 0
  · subst hr0
    by_cases hi0 : (i : Int) < ns.length
    · have hlt : i < ns.length := by omega
      obtain ⟨x, hx⟩ : ∃ x, ns[i]? = some x := ⟨ns[i], List.getElem?_eq_getElem hlt⟩
      have ax : atI (ns.map MP.D.int) (i : Int) = some (.int x) := atI_nat (by rw [List.getElem?_map, hx]; rfl)
      by_cases hx18 : x < 1000000000000000000
      · exact ⟨mixF (x % 2147483399) ((i : Int) + 1) % many, [.lst (ns.map .int), .int ((i : Int) + 1), .int 0, .int s], by simp [m__law_take, mkFn, sSeq, bS, sSet, bV, eOp, bE, eVar, eC, eUn, fI0, fI, fInt, sRet, sIf, eAnd, onlyB, fEq, eqB, eHix, atI_0, atI_1, atI_2, atI_3, fB0, fLen, fIx, sHset, ixN_1, ixN_2, ixN_3, p1, eCall, eArgs, aCons, aNil, mixed_ok, d1, d2, cm, cd, sPass, hi0, ax, hx18], lo _, hi _, ns, i + 1, 0, s, rfl, hn, Int.le_refl 0⟩
      · have xp : 0 < x := by omega
        exact ⟨x % many, [.lst (ns.map .int), .int ((i : Int) + 1), .int (x / many), .int s], by simp [m__law_take, mkFn, sSeq, bS, sSet, bV, eOp, bE, eVar, eC, eUn, fI0, fI, fInt, sRet, sIf, eAnd, onlyB, fEq, eqB, eHix, atI_0, atI_1, atI_2, atI_3, fB0, fLen, fIx, sHset, ixN_1, ixN_2, ixN_3, p1, eCall, eArgs, aCons, aNil, mixed_ok, d1, d2, cm, cd, sPass, hi0, ax, hx18, xp], lo _, hi _, ns, i + 1, x / many, s, rfl, hn, Int.ediv_nonneg (by omega) (by omega)⟩
    · exact ⟨mixF ((s + 1) % 2147483549) i % many, [.lst (ns.map .int), .int i, .int 0, .int ((s + 1) % 2147483549)], by simp [m__law_take, mkFn, sSeq, bS, sSet, bV, eOp, bE, eVar, eC, eUn, fI0, fI, fInt, sRet, sIf, eAnd, onlyB, fEq, eqB, eHix, atI_0, atI_1, atI_2, atI_3, fB0, fLen, fIx, sHset, ixN_1, ixN_2, ixN_3, p1, eCall, eArgs, aCons, aNil, mixed_ok, d1, d2, cm, cd, sPass, hi0], lo _, hi _, ns, i, 0, _, rfl, hn, Int.le_refl 0⟩
  · have rp : 0 < r := by omega
    have rb : (r == 0) = false := by simpa using hr0
    exact ⟨r % many, [.lst (ns.map .int), .int i, .int (r / many), .int s], by simp [m__law_take, mkFn, sSeq, bS, sSet, bV, eOp, bE, eVar, eC, eUn, fI0, fI, fInt, sRet, sIf, eAnd, onlyB, fEq, eqB, eHix, atI_0, atI_1, atI_2, atI_3, fB0, fLen, fIx, sHset, ixN_1, ixN_2, ixN_3, p1, eCall, eArgs, aCons, aNil, mixed_ok, d1, d2, cm, cd, sPass, rb, rp], lo _, hi _, ns, i, r / many, s, rfl, hn, Int.ediv_nonneg (by omega) (by omega)⟩
/-! ### powers -/
theorem natAbs_pow_lt {b : Int} {k : Nat} (h : b.natAbs < 2 ^ k) : ∀ n : Nat, (b ^ n).natAbs < 2 ^ (k * n + 1)
  | 0 => by simp
  | n + 1 => by
    rw [Int.pow_succ, Int.natAbs_mul]
    have ih := natAbs_pow_lt h n
    rw [show k * (n + 1) + 1 = (k * n + 1) + k by rw [Nat.mul_add]; omega, Nat.pow_add]
    exact Nat.mul_lt_mul'' ih h
theorem power_ok (b : Int) (n k : Nat) (g : G) (hb : b.natAbs < 2 ^ k) (hn : k * n + 1 + k ≤ 20000) (hn2 : n ≤ 1000) : m_power_of [.int b, .int n] g = some (.ok (.int (b ^ n)), g) := by
  obtain ⟨ρ', g', e, x, rfl, rfl⟩ := forGo_inv (f := gVar 3) (body := sSet 2 (eOp (fI cMul fun i j => i * j) (eVar 2) (eVar 0))) (ds := rng 0 n)
    (fun i ρ g' => ∃ x, ρ = [some (.int b), some (.int n), some (.int (b ^ i)), x] ∧ g' = g) (ρ := [some (.int b), some (.int n), some (.int 1), none]) (g := g) ⟨none, by simp, rfl⟩ (by
      rintro i ρ g' d hd ⟨x, rfl, rfl⟩
      obtain ⟨hi, rfl⟩ := rng_at hd
      have c : cMul (b ^ i) b = true := cMul_of (natAbs_pow_lt hb i) hb (by
        have : k * i ≤ k * n := Nat.mul_le_mul_left k (by omega)
        omega)
      exact ⟨_, rfl, [some (.int b), some (.int n), some (.int (b ^ (i + 1))), some (.int (0 + (i : Nat)))], g', .inl (by simp [sSet, bV, eOp, bE, eVar, fI, c, Int.pow_succ]), _, rfl, rfl⟩)
  rw [rng_len] at e
  unfold m_power_of
  rw [mkFn_eq (by rfl), sSeq_nx (sSet_ok (show eC (.int 1) _ g' = some (.ok (.int 1), g') from rfl))]
  show fin (sSeq _ _ [some (.int b), some (.int n), some (.int 1), none] g') = _
  rw [sSeq_nx (sFor_run (aVia_ok (show aCons (eVar 1) aNil _ g' = some (.ok [.int n], g') from rfl) (fRng1_nat (by omega))) e)]
  rfl
/-! ### the counts -/
def pw (q : Int) (n : Nat) : Int := q ^ n
/-- the product above, below -/
def abF (q : Int) (w : Nat) : Nat → Int × Int
  | 0 => (1, 1)
  | p + 1 => ((abF q w p).1 * (q ^ (w - p) - 1), (abF q w p).2 * (q ^ (p + 1) - 1))
def scF (q : Int) (w : Nat) (p : Int) : Int := if p < 0 ∨ (w : Int) < p then 0 else (abF q w p.toNat).1 / (abF q w p.toNat).2
theorem ab_bd (q : Int) (hq : q = 2 ∨ q = 3) (w : Nat) (hw : w ≤ 40) : ∀ p : Nat, p ≤ w → 0 < (abF q w p).2 ∧ (abF q w p).1.natAbs < 2 ^ (100 * p + 1) ∧ (abF q w p).2.natAbs < 2 ^ (100 * p + 1)
  | 0, _ => by simp [abF]
  | p + 1, hp => by
    obtain ⟨h1, h2, h3⟩ := ab_bd q hq w hw p (by omega)
    have q2 : ∀ n : Nat, n ≤ 41 → (q ^ n - 1).natAbs < 2 ^ 100 := fun n hn => by
      have : ∀ n : Fin 42, ((2 : Int) ^ n.val - 1).natAbs < 2 ^ 100 ∧ ((3 : Int) ^ n.val - 1).natAbs < 2 ^ 100 := by decide +kernel
      have := this ⟨n, by omega⟩
      rcases hq with rfl | rfl
      · exact this.1
      · exact this.2
    have q3 : 0 < q ^ (p + 1) - 1 := by
      have : ∀ n : Fin 41, 0 < (2 : Int) ^ (n.val + 1) - 1 ∧ 0 < (3 : Int) ^ (n.val + 1) - 1 := by decide +kernel
      have := this ⟨p, by omega⟩
      rcases hq with rfl | rfl
      · exact this.1
      · exact this.2
    refine ⟨Int.mul_pos h1 q3, ?_, ?_⟩
    · show ((abF q w p).1 * (q ^ (w - p) - 1)).natAbs < _
      rw [Int.natAbs_mul, show 100 * (p + 1) + 1 = (100 * p + 1) + 100 by omega, Nat.pow_add]
      exact Nat.mul_lt_mul'' h2 (q2 _ (by omega))
    · show ((abF q w p).2 * (q ^ (p + 1) - 1)).natAbs < _
      rw [Int.natAbs_mul, show 100 * (p + 1) + 1 = (100 * p + 1) + 100 by omega, Nat.pow_add]
      exact Nat.mul_lt_mul'' h3 (q2 _ (by omega))
theorem q_bd {q : Int} (hq : q = 2 ∨ q = 3) : q.natAbs < 2 ^ 100 := by rcases hq with rfl | rfl <;> decide
theorem pw_bd {q : Int} (hq : q = 2 ∨ q = 3) (n : Nat) (hn : n ≤ 41) : (q ^ n - 1).natAbs < 2 ^ 100 := by
  have : ∀ n : Fin 42, ((2 : Int) ^ n.val - 1).natAbs < 2 ^ 100 ∧ ((3 : Int) ^ n.val - 1).natAbs < 2 ^ 100 := by decide +kernel
  have := this ⟨n, by omega⟩
  rcases hq with rfl | rfl
  · exact this.1
  · exact this.2
theorem space_ok (q : Int) (hq : q = 2 ∨ q = 3) (w : Nat) (hw : w ≤ 40) (p : Int) (g : G) : m_space_count [.int q, .int w, .int p] g = some (.ok (.int (scF q w p)), g) := by
  by_cases h : p < 0
  · simp [m_space_count, mkFn, sSeq, bS, sIf, eOr, onlyB, eOp, bE, eVar, eC, fB0, h, sRet, bV, scF]
  by_cases h2 : (w : Int) < p
  · simp [m_space_count, mkFn, sSeq, bS, sIf, eOr, onlyB, eOp, bE, eVar, eC, fB0, h, h2, sRet, bV, scF]
  obtain ⟨n, rfl⟩ : ∃ n : Nat, p = n := ⟨p.toNat, by omega⟩
  have hn : n ≤ w := by omega
  obtain ⟨ρ', g', e, x, rfl, rfl⟩ := forGo_inv (f := gVar 5) (body := (sSeq (sSet 3 (eOp (fI cMul fun i j => i * j) (eVar 3) (eOp (fI0 fun i j => i - j) (eCall m_power_of [] (aCons (eVar 0) (aCons (eOp (fI0 fun i j => i - j) (eVar 1) (eVar 5)) aNil))) (eC (.int 1))))) (sSet 4 (eOp (fI cMul fun i j => i * j) (eVar 4) (eOp (fI0 fun i j => i - j) (eCall m_power_of [] (aCons (eVar 0) (aCons (eOp (fI0 fun i j => i + j) (eVar 5) (eC (.int 1))) aNil))) (eC (.int 1))))))) (ds := rng 0 n)
    (fun i ρ g' => ∃ x, ρ = [some (.int q), some (.int w), some (.int n), some (.int (abF q w i).1), some (.int (abF q w i).2), x] ∧ g' = g) (ρ := [some (.int q), some (.int w), some (.int n), some (.int 1), some (.int 1), none]) (g := g) ⟨none, by simp [abF], rfl⟩ (by
      rintro i ρ g' d hd ⟨x, rfl, rfl⟩
      obtain ⟨hi, rfl⟩ := rng_at hd
      obtain ⟨b1, b2, b3⟩ := ab_bd q hq w hw i (by omega)
      have c1 : cMul (abF q w i).1 (q ^ (w - i) - 1) = true := cMul_of b2 (pw_bd hq _ (by omega)) (by omega)
      have c2 : cMul (abF q w i).2 (q ^ (i + 1) - 1) = true := cMul_of b3 (pw_bd hq _ (by omega)) (by omega)
      have e1 : (w : Int) - (0 + (i : Int)) = ((w - i : Nat) : Int) := by omega
      have e2 : (0 : Int) + (i : Int) + 1 = ((i + 1 : Nat) : Int) := by omega
      have r1 := power_ok q (w - i) 100 g' (q_bd hq) (by omega) (by omega)
      have r2 := power_ok q (i + 1) 100 g' (q_bd hq) (by omega) (by omega)
      refine ⟨_, rfl, [some (.int q), some (.int w), some (.int n), some (.int (abF q w (i + 1)).1), some (.int (abF q w (i + 1)).2), some (.int (0 + (i : Nat)))], g', .inl ?_, _, rfl, rfl⟩
      simp only [sSeq, bS, sSet, bV, eOp, bE, eVar, fI0, fI, eCall, eArgs, aCons, aNil, eC, List.set, List.getElem?_cons_zero, List.getElem?_cons_succ, List.append_nil, e1, e2, r1, r2, c1, c2, if_true, abF])
  rw [rng_len] at e
  obtain ⟨b1, b2, b3⟩ := ab_bd q hq w hw n hn
  have cd : cDiv (abF q w n).1 (abF q w n).2 = true := cDiv_ok b1 (by
    have : (abF q w n).2.natAbs ≠ 0 := by omega
    exact Nat.lt_of_lt_of_le ((Nat.log2_lt this).mpr b3) (by omega))
  have hs : scF q w n = (abF q w n).1 / (abF q w n).2 := by
    unfold scF
    rw [if_neg (by omega)]
    simp
  unfold m_space_count
  rw [mkFn_eq (by rfl)]
  have t0 : (eOr (onlyB (eOp (fB0 fun i j => decide (i < j)) (eVar 2) (eC (.int 0)))) (onlyB (eOp (fB0 fun i j => decide (j < i)) (eVar 2) (eVar 1)))) [some (.int q), some (.int w), some (.int n), none, none, none] g' = some (.ok (.bl false), g') := by
    simp [eOr, onlyB, eOp, bE, eVar, eC, fB0, h2, decide_eq_false h]
  show fin (sSeq _ _ [some (.int q), some (.int w), some (.int n), none, none, none] g') = _
  rw [sSeq_nx ((sIf_F t0).trans rfl)]
  rw [sSeq_nx (show sAsg2 3 4 (eC (.int 1)) [some (.int q), some (.int w), some (.int n), none, none, none] g' = some (.nx [some (.int q), some (.int w), some (.int n), some (.int 1), some (.int 1), none], g') from rfl)]
  rw [sSeq_nx (sFor_run (aVia_ok (show aCons (eVar 2) aNil _ g' = some (.ok [.int n], g') from rfl) (fRng1_nat (by omega))) e)]
  rw [hs]
  show fin (sRet _ _ g') = _
  rw [sRet_ok (show eOp (fI cDiv fun i j => i / j) (eVar 3) (eVar 4) _ g' = some (.ok (.int ((abF q w n).1 / (abF q w n).2)), g') by simp [eOp, bE, eVar, fI, cd])]
  rfl
end HK74

set_option maxRecDepth 100000
set_option maxHeartbeats 1000000
namespace HK74
open PySem L2 MP
theorem lpower_ok (b : Int) (n k : Nat) (g : G) (hb : b.natAbs < 2 ^ k) (hn : k * n + 1 + k ≤ 20000) (hn2 : n ≤ 1000) : m__law_power [.int b, .int n] g = some (.ok (.int (b ^ n)), g) := power_ok b n k g hb hn hn2
/-! ### tables -/
def prF (q : Int) (t : Nat) : Nat → Int
  | 0 => 1
  | i + 1 => prF q t i * (q ^ t - q ^ i)
def tcF (q : Int) (t w : Nat) (r : Int) : Int := scF q w r * prF q t r.toNat
theorem pwd_bd {q : Int} (hq : q = 2 ∨ q = 3) (t i : Nat) (ht : t ≤ 41) (hi : i ≤ 41) : (q ^ t - q ^ i).natAbs < 2 ^ 100 := by
  have a := pw_bd hq t ht
  have b := pw_bd hq i hi
  have c : ∀ n : Fin 42, ((2 : Int) ^ n.val - 1).natAbs < 2 ^ 90 ∧ ((3 : Int) ^ n.val - 1).natAbs < 2 ^ 90 := by decide +kernel
  have c1 := c ⟨t, by omega⟩
  have c2 := c ⟨i, by omega⟩
  rcases hq with rfl | rfl
  · have := c1.1; have := c2.1; simp only at *; omega
  · have := c1.2; have := c2.2; simp only at *; omega
theorem pr_bd {q : Int} (hq : q = 2 ∨ q = 3) (t : Nat) (ht : t ≤ 40) : ∀ i : Nat, i ≤ 41 → (prF q t i).natAbs < 2 ^ (100 * i + 1)
  | 0, _ => by simp [prF]
  | i + 1, hi => by
    show (prF q t i * (q ^ t - q ^ i)).natAbs < _
    rw [Int.natAbs_mul, show 100 * (i + 1) + 1 = (100 * i + 1) + 100 by omega, Nat.pow_add]
    exact Nat.mul_lt_mul'' (pr_bd hq t ht i (by omega)) (pwd_bd hq t i (by omega) (by omega))
set_option exponentiation.threshold 5000 in
theorem sc_bd {q : Int} (hq : q = 2 ∨ q = 3) (w : Nat) (hw : w ≤ 40) (p : Int) : (scF q w p).natAbs < 2 ^ 4001 := by
  unfold scF
  by_cases h : p < 0 ∨ (w : Int) < p
  · rw [if_pos h]; decide
  · rw [if_neg h]
    obtain ⟨b1, b2, b3⟩ := ab_bd q hq w hw p.toNat (by omega)
    have : ((abF q w p.toNat).1 / (abF q w p.toNat).2).natAbs ≤ (abF q w p.toNat).1.natAbs := Int.natAbs_ediv_le_natAbs _ _
    exact Nat.lt_of_le_of_lt this (Nat.lt_of_lt_of_le b2 (Nat.pow_le_pow_right (by decide) (by omega)))
theorem fRng1_int {r : Int} (h : r.natAbs ≤ 1000000) : fRng1 [.int r] = some (rng 0 r.toNat) := by
  show (if small62 r = true then some (rng 0 r.toNat) else none) = some (rng 0 r.toNat)
  rw [if_pos (small62_of (by omega))]
set_option exponentiation.threshold 5000 in
theorem table_ok (q : Int) (hq : q = 2 ∨ q = 3) (t w : Nat) (ht : t ≤ 40) (hw : w ≤ 40) (r : Int) (h1 : -40 ≤ r) (h2 : r ≤ 40) (g : G) : m_table_count [.int q, .int t, .int w, .int r] g = some (.ok (.int (tcF q t w r)), g) := by
  obtain ⟨ρ', g', e, x, rfl, rfl⟩ := forGo_inv (f := gVar 5) (body := (sSet 4 (eOp (fI cMul fun i j => i * j) (eVar 4) (eOp (fI0 fun i j => i - j) (eCall m_power_of [] (aCons (eVar 0) (aCons (eVar 1) aNil))) (eCall m_power_of [] (aCons (eVar 0) (aCons (eVar 5) aNil))))))) (ds := rng 0 r.toNat)
    (fun i ρ g' => ∃ x, ρ = [some (.int q), some (.int t), some (.int w), some (.int r), some (.int (scF q w r * prF q t i)), x] ∧ g' = g) (ρ := [some (.int q), some (.int t), some (.int w), some (.int r), some (.int (scF q w r)), none]) (g := g) ⟨none, by simp [prF], rfl⟩ (by
      rintro i ρ g' d hd ⟨x, rfl, rfl⟩
      obtain ⟨hi, rfl⟩ := rng_at hd
      have c1 : cMul (scF q w r * prF q t i) (q ^ t - q ^ i) = true := cMul_of (a := 4001 + (100 * i + 1)) (by
        rw [Int.natAbs_mul, Nat.pow_add]
        exact Nat.mul_lt_mul'' (sc_bd hq w hw r) (pr_bd hq t ht i (by omega))) (pwd_bd hq t i (by omega) (by omega)) (by omega)
      have e1 : (0 : Int) + (i : Int) = (i : Int) := by omega
      have r1 := power_ok q t 100 g' (q_bd hq) (by omega) (by omega)
      have r2 := power_ok q i 100 g' (q_bd hq) (by omega) (by omega)
      refine ⟨_, rfl, [some (.int q), some (.int t), some (.int w), some (.int r), some (.int (scF q w r * prF q t (i + 1))), some (.int (0 + (i : Nat)))], g', .inl ?_, _, rfl, rfl⟩
      simp only [sSet, bV, eOp, bE, eVar, fI0, fI, eCall, eArgs, aCons, aNil, List.set, List.getElem?_cons_zero, List.getElem?_cons_succ, List.append_nil, e1, r1, r2, c1, if_true, prF, Int.mul_assoc])
  rw [rng_len] at e
  have s1 := space_ok q hq w hw r g'
  unfold m_table_count
  rw [mkFn_eq (by rfl)]
  show fin (sSeq _ _ [some (.int q), some (.int t), some (.int w), some (.int r), none, none] g') = _
  rw [sSeq_nx (sSet_ok (show eCall m_space_count [] (aCons (eVar 0) (aCons (eVar 2) (aCons (eVar 3) aNil))) [some (.int q), some (.int t), some (.int w), some (.int r), none, none] g' = some (.ok (.int (scF q w r)), g') from s1))]
  show fin (sSeq _ _ [some (.int q), some (.int t), some (.int w), some (.int r), some (.int (scF q w r)), none] g') = _
  rw [sSeq_nx (sFor_run (aVia_ok (show aCons (eVar 3) aNil _ g' = some (.ok [.int r], g') from rfl) (fRng1_int (by omega))) e)]
  rfl
/-! ### the law's own reckoning -/
theorem whole_ok (i : Int) (g : G) : m__law_whole [.int i] g = some (.ok (.bl true), g) := by rfl
theorem is_ok (i j : Int) (g : G) : m__law_is [.int i, .int j] g = some (.ok (.bl (i == j)), g) := by
  have h : eCall m__law_whole [] (aCons (eVar 0) aNil) [some (.int i), some (.int j)] g = some (.ok (.bl true), g) := whole_ok i g
  unfold m__law_is
  rw [mkFn_eq (by rfl), sRet_ok (d := .bl (i == j)) (g1 := g)]
  · rfl
  · show eAnd _ _ [some (.int i), some (.int j)] g = _
    unfold eAnd
    rw [h]
    rfl
def rowsV (q : Int) : MP.D := match m__law_rows [.int q, .int 40] [] with
  | some (.ok d, _) => d
  | _ => .non
theorem rows_2 (g : G) : m__law_rows [.int 2, .int 40] g = some (.ok (rowsV 2), g) := by kernel_rfl
theorem rows_3 (g : G) : m__law_rows [.int 3, .int 40] g = some (.ok (rowsV 3), g) := by kernel_rfl
theorem rows_ok (q : Int) (hq : q = 2 ∨ q = 3) (g : G) : m__law_rows [.int q, .int 40] g = some (.ok (rowsV q), g) := by
  rcases hq with rfl | rfl
  · exact rows_2 g
  · exact rows_3 g
def getI (d : MP.D) : Option Int := match d with
  | .int i => some i
  | _ => none
def getR (d : MP.D) (w p : Int) : Option Int := (fIx d (.int w)).bind fun r => (fIx r (.int p)).bind getI
theorem getR_2 : ∀ w : Fin 41, ∀ p : Fin 41, p ≤ w → getR (rowsV 2) (w.val : Int) (p.val : Int) = some (scF 2 w.val (p.val : Int)) := by decide +kernel
theorem getR_3 : ∀ w : Fin 41, ∀ p : Fin 41, p ≤ w → getR (rowsV 3) (w.val : Int) (p.val : Int) = some (scF 3 w.val (p.val : Int)) := by decide +kernel
theorem getR_ok (q : Int) (hq : q = 2 ∨ q = 3) (w p : Nat) (hw : w ≤ 40) (hp : p ≤ w) : ∃ r, fIx (rowsV q) (.int w) = some r ∧ fIx r (.int p) = some (.int (scF q w p)) := by
  have h : getR (rowsV q) (w : Int) (p : Int) = some (scF q w (p : Int)) := by
    rcases hq with rfl | rfl
    · exact getR_2 ⟨w, by omega⟩ ⟨p, by omega⟩ hp
    · exact getR_3 ⟨w, by omega⟩ ⟨p, by omega⟩ hp
  unfold getR at h
  cases z : fIx (rowsV q) (.int (w : Int)) with
  | none => rw [z] at h; cases h
  | some r =>
    refine ⟨r, rfl, ?_⟩
    rw [z] at h
    have h : (fIx r (.int (p : Int))).bind getI = some (scF q w (p : Int)) := h
    cases z2 : fIx r (.int (p : Int)) with
    | none => rw [z2] at h; cases h
    | some d =>
      rw [z2] at h
      have h : getI d = some (scF q w (p : Int)) := h
      cases d with
      | int i =>
        have : i = scF q w (p : Int) := Option.some.inj h
        rw [this]
      | _ => cases h
theorem or_F {a b : SE} {ρ : MP.Env} {g : G} (h1 : a ρ g = some (.ok (.bl false), g)) : eOr a b ρ g = b ρ g := by
  unfold eOr
  rw [h1]
theorem or_T {a b : SE} {ρ : MP.Env} {g : G} (h1 : a ρ g = some (.ok (.bl true), g)) : eOr a b ρ g = some (.ok (.bl true), g) := by
  unfold eOr
  rw [h1]
theorem spaces_ok (q : Int) (hq : q = 2 ∨ q = 3) (w : Nat) (hw : w ≤ 40) (p : Int) (g : G) : m__law_spaces [rowsV q, .int w, .int p] g = some (.ok (.int (scF q w p)), g) := by
  unfold m__law_spaces
  rw [mkFn_eq (by rfl)]
  show fin (sSeq _ _ [some (rowsV q), some (.int w), some (.int p)] g) = _
  have a1 : (onlyB (eOp (fB0 fun i j => decide (i < j)) (eVar 2) (eC (.int 0)))) [some (rowsV q), some (.int w), some (.int p)] g = some (.ok (.bl (decide (p < 0))), g) := rfl
  have a2 : (onlyB (eOp (fB0 fun i j => decide (j < i)) (eVar 2) (eVar 1))) [some (rowsV q), some (.int w), some (.int p)] g = some (.ok (.bl (decide ((w : Int) < p))), g) := rfl
  by_cases h : p < 0
  · rw [decide_eq_true h] at a1
    rw [sSeq_ret ((sIf_T (or_T a1)).trans (sRet_ok (d := .int 0) rfl))]
    simp [fin, scF, h]
  rw [decide_eq_false h] at a1
  by_cases h2 : (w : Int) < p
  · rw [decide_eq_true h2] at a2
    rw [sSeq_ret ((sIf_T ((or_F a1).trans a2)).trans (sRet_ok (d := .int 0) rfl))]
    simp [fin, scF, h2]
  rw [decide_eq_false h2] at a2
  rw [sSeq_nx ((sIf_F ((or_F a1).trans a2)).trans rfl)]
  obtain ⟨n, rfl⟩ : ∃ n : Nat, p = n := ⟨p.toNat, by omega⟩
  obtain ⟨r, e1, e2⟩ := getR_ok q hq w n hw (by omega)
  rw [sRet_ok (show eOp fIx (eOp fIx (eVar 0) (eVar 1)) (eVar 2) [some (rowsV q), some (.int w), some (.int n)] g = some (.ok (.int (scF q w n)), g) by simp [eOp, bE, eVar, e1, e2])]
  rfl
theorem sc_out {q : Int} {w : Nat} {r : Int} (h : r < 0 ∨ (w : Int) < r) : scF q w r = 0 := if_pos h
theorem pr_out {q : Int} {t : Nat} : ∀ {i : Nat}, t < i → prF q t i = 0
  | i + 1, h => by
    show prF q t i * (q ^ t - q ^ i) = 0
    by_cases e : t = i
    · subst e; simp
    · rw [pr_out (show t < i by omega)]; simp
theorem tables_ok (q : Int) (hq : q = 2 ∨ q = 3) (t w : Nat) (ht : t ≤ 40) (hw : w ≤ 40) (r : Int) (h1 : -40 ≤ r) (h2 : r ≤ 40) (g : G) : m__law_tables [.int q, rowsV q, .int t, .int w, .int r] g = some (.ok (.int (tcF q t w r)), g) := by
  unfold m__law_tables
  rw [mkFn_eq (by rfl)]
  show fin (sSeq _ _ [some (.int q), some (rowsV q), some (.int t), some (.int w), some (.int r), none, none] g) = _
  have a1 : (onlyB (eOp (fB0 fun i j => decide (i < j)) (eVar 4) (eC (.int 0)))) [some (.int q), some (rowsV q), some (.int t), some (.int w), some (.int r), none, none] g = some (.ok (.bl (decide (r < 0))), g) := rfl
  have a2 : (onlyB (eOp (fB0 fun i j => decide (j < i)) (eVar 4) (eVar 2))) [some (.int q), some (rowsV q), some (.int t), some (.int w), some (.int r), none, none] g = some (.ok (.bl (decide ((t : Int) < r))), g) := rfl
  have a3 : (onlyB (eOp (fB0 fun i j => decide (j < i)) (eVar 4) (eVar 3))) [some (.int q), some (rowsV q), some (.int t), some (.int w), some (.int r), none, none] g = some (.ok (.bl (decide ((w : Int) < r))), g) := rfl
  by_cases c1 : r < 0
  · rw [decide_eq_true c1] at a1
    rw [sSeq_ret ((sIf_T (or_T a1)).trans (sRet_ok (d := .int 0) rfl))]
    simp [fin, tcF, sc_out (w := w) (Or.inl c1)]
  rw [decide_eq_false c1] at a1
  by_cases c2 : (t : Int) < r
  · rw [decide_eq_true c2] at a2
    rw [sSeq_ret ((sIf_T ((or_F a1).trans (or_T a2))).trans (sRet_ok (d := .int 0) rfl))]
    simp [fin, tcF, pr_out (q := q) (t := t) (i := r.toNat) (by omega)]
  rw [decide_eq_false c2] at a2
  by_cases c3 : (w : Int) < r
  · rw [decide_eq_true c3] at a3
    rw [sSeq_ret ((sIf_T ((or_F a1).trans ((or_F a2).trans a3))).trans (sRet_ok (d := .int 0) rfl))]
    simp [fin, tcF, sc_out (w := w) (Or.inr c3)]
  rw [decide_eq_false c3] at a3
  rw [sSeq_nx ((sIf_F ((or_F a1).trans ((or_F a2).trans a3))).trans rfl)]
  obtain ⟨n, rfl⟩ : ∃ n : Nat, r = n := ⟨r.toNat, by omega⟩
  obtain ⟨row, e1, e2⟩ := getR_ok q hq w n hw (by omega)
  rw [sSeq_nx (sSet_ok (show eOp fIx (eOp fIx (eVar 1) (eVar 3)) (eVar 4) [some (.int q), some (rowsV q), some (.int t), some (.int w), some (.int n), none, none] g = some (.ok (.int (scF q w n)), g) by simp [eOp, bE, eVar, e1, e2]))]
  show fin (sSeq _ _ [some (.int q), some (rowsV q), some (.int t), some (.int w), some (.int n), some (.int (scF q w n)), none] g) = _
  obtain ⟨ρ', g', e, x, rfl, rfl⟩ := forGo_inv (f := gVar 6) (body := (sSet 5 (eOp (fI cMul fun i j => i * j) (eVar 5) (eOp (fI0 fun i j => i - j) (eCall m__law_power [] (aCons (eVar 0) (aCons (eVar 2) aNil))) (eCall m__law_power [] (aCons (eVar 0) (aCons (eVar 6) aNil))))))) (ds := rng 0 n)
    (fun i ρ g' => ∃ x, ρ = [some (.int q), some (rowsV q), some (.int t), some (.int w), some (.int n), some (.int (scF q w n * prF q t i)), x] ∧ g' = g) (ρ := [some (.int q), some (rowsV q), some (.int t), some (.int w), some (.int n), some (.int (scF q w n)), none]) (g := g) ⟨none, by simp [prF], rfl⟩ (by
      rintro i ρ g' d hd ⟨x, rfl, rfl⟩
      obtain ⟨hi, rfl⟩ := rng_at hd
      have c1 : cMul (scF q w n * prF q t i) (q ^ t - q ^ i) = true := cMul_of (a := 4001 + (100 * i + 1)) (by
        rw [Int.natAbs_mul, Nat.pow_add]
        exact Nat.mul_lt_mul'' (sc_bd hq w hw n) (pr_bd hq t ht i (by omega))) (pwd_bd hq t i (by omega) (by omega)) (by omega)
      have e1 : (0 : Int) + (i : Int) = (i : Int) := by omega
      have r1 := lpower_ok q t 100 g' (q_bd hq) (by omega) (by omega)
      have r2 := lpower_ok q i 100 g' (q_bd hq) (by omega) (by omega)
      refine ⟨_, rfl, [some (.int q), some (rowsV q), some (.int t), some (.int w), some (.int n), some (.int (scF q w n * prF q t (i + 1))), some (.int (0 + (i : Nat)))], g', .inl ?_, _, rfl, rfl⟩
      simp only [sSet, bV, eOp, bE, eVar, fI0, fI, eCall, eArgs, aCons, aNil, List.set, List.getElem?_cons_zero, List.getElem?_cons_succ, List.append_nil, e1, r1, r2, c1, if_true, prF, Int.mul_assoc])
  rw [rng_len] at e
  rw [sSeq_nx (sFor_run (aVia_ok (show aCons (eVar 4) aNil _ g' = some (.ok [.int n], g') from rfl) (fRng1_nat (by omega))) e)]
  show some (Out.ok (MP.D.int (scF q w n * prF q t n)), g') = some (Out.ok (MP.D.int (scF q w n * prF q t (n : Int).toNat)), g')
  rw [Int.toNat_natCast]
/-! ### what the numbers are -/
theorem pq_2 : ∀ w : Fin 41, ∀ p : Fin 41, p ≤ w → scF 2 w.val (p.val : Int) * prF 2 p.val p.val = prF 2 w.val p.val ∧ prF 2 p.val p.val ≠ 0 := by decide +kernel
theorem pq_3 : ∀ w : Fin 41, ∀ p : Fin 41, p ≤ w → scF 3 w.val (p.val : Int) * prF 3 p.val p.val = prF 3 w.val p.val ∧ prF 3 p.val p.val ≠ 0 := by decide +kernel
theorem pq (q : Int) (hq : q = 2 ∨ q = 3) (w p : Nat) (hw : w ≤ 40) (hp : p ≤ w) : scF q w (p : Int) * prF q p p = prF q w p ∧ prF q p p ≠ 0 := by
  rcases hq with rfl | rfl
  · exact pq_2 ⟨w, by omega⟩ ⟨p, by omega⟩ hp
  · exact pq_3 ⟨w, by omega⟩ ⟨p, by omega⟩ hp
theorem tc_swap (q : Int) (hq : q = 2 ∨ q = 3) (t w : Nat) (ht : t ≤ 40) (hw : w ≤ 40) (r : Int) : tcF q w t r = tcF q t w r := by
  unfold tcF
  by_cases c1 : r < 0
  · rw [sc_out (Or.inl c1), sc_out (Or.inl c1)]; simp
  by_cases c2 : (t : Int) < r
  · rw [sc_out (Or.inr c2), pr_out (q := q) (t := t) (i := r.toNat) (by omega)]; simp
  by_cases c3 : (w : Int) < r
  · rw [sc_out (w := w) (Or.inr c3), pr_out (q := q) (t := w) (i := r.toNat) (by omega)]; simp
  obtain ⟨n, rfl⟩ : ∃ n : Nat, r = n := ⟨r.toNat, by omega⟩
  rw [Int.toNat_natCast]
  obtain ⟨h1, h0⟩ := pq q hq t n ht (by omega)
  obtain ⟨h2, _⟩ := pq q hq w n hw (by omega)
  rw [← h1, ← h2]
  rw [Int.mul_left_comm, Int.mul_comm (scF q t n)]
def sumTc (q : Int) (t w : Nat) : Int := ((List.range (w + 1)).map fun r : Nat => tcF q t w (r : Int)).sum
theorem sum_2 : ∀ t : Fin 41, ∀ w : Fin 8, sumTc 2 t.val w.val = 2 ^ (t.val * w.val) := by decide +kernel
theorem sum_3 : ∀ t : Fin 41, ∀ w : Fin 8, sumTc 3 t.val w.val = 3 ^ (t.val * w.val) := by decide +kernel
end HK74

set_option maxRecDepth 100000
set_option maxHeartbeats 1000000
namespace HK74
open PySem L2 MP
theorem tk {many : Int} (h0 : 0 < many) (h1 : many.natAbs.log2 < 9000) {g : G} (hg : HandOk g) : ∃ (v : Nat) (g' : G), m__law_take [.hand, .int many] g = some (.ok (.int (v : Int)), g') ∧ (v : Int) < many ∧ HandOk g' := by
  obtain ⟨v, g', e, a, b, h⟩ := take_ok many g h0 h1 hg
  exact ⟨v.toNat, g', by rw [e, Int.toNat_of_nonneg a], by rw [Int.toNat_of_nonneg a]; exact b, h⟩
theorem callTake {many : Int} {i : Nat} {ρ : MP.Env} {g g' : G} {d : MP.D} {e : SE} (hi : ρ[i]? = some (some .hand)) (he : e ρ g = some (.ok (.int many), g)) (h : m__law_take [.hand, .int many] g = some (.ok d, g')) : eCall m__law_take [] (aCons (eVar i) (aCons e aNil)) ρ g = some (.ok d, g') := by
  unfold eCall eArgs aCons
  have h1 : eVar i ρ g = some (.ok .hand, g) := by
    unfold eVar
    rw [hi]
  rw [h1]
  simp only [he]
  exact h
theorem call1 {m : FM} {a : SE} {ρ : MP.Env} {g g1 : G} {x : MP.D} {r : MP.R} (ha : a ρ g = some (.ok x, g1)) (h : m [x] g1 = r) : eCall m [] (aCons a aNil) ρ g = r := by
  unfold eCall eArgs aCons
  rw [ha]
  exact h
theorem call2 {m : FM} {a b : SE} {ρ : MP.Env} {g g1 g2 : G} {x y : MP.D} {r : MP.R} (ha : a ρ g = some (.ok x, g1)) (hb : b ρ g1 = some (.ok y, g2)) (h : m [x, y] g2 = r) : eCall m [] (aCons a (aCons b aNil)) ρ g = r := by
  unfold eCall eArgs aCons
  rw [ha]
  simp only
  rw [hb]
  exact h
theorem op2 {f : MP.D → MP.D → Option MP.D} {a b : SE} {ρ : MP.Env} {g g1 g2 : G} {x y z : MP.D} (ha : a ρ g = some (.ok x, g1)) (hb : b ρ g1 = some (.ok y, g2)) (h : f x y = some z) : eOp f a b ρ g = some (.ok z, g2) := by
  unfold eOp
  rw [ha, bE_ok, hb, bE_ok, h]
theorem only_b {e : SE} {ρ : MP.Env} {g g1 : G} {b : Bool} (h : e ρ g = some (.ok (.bl b), g1)) : onlyB e ρ g = some (.ok (.bl b), g1) := by
  unfold onlyB
  rw [h]
theorem beq_nat (v k : Nat) : ((v : Int) == (k : Int)) = decide (v = k) := by
  by_cases h : v = k
  · subst h; simp
  · have : ¬ ((v : Int) = (k : Int)) := by omega
    simp [h, this]
theorem number_ok {g : G} (hg : HandOk g) : ∃ (v : Nat) (g' : G), m__law_number [.hand] g = some (.ok (.int (v : Int)), g') ∧ v ≤ 40 ∧ HandOk g' := by
  obtain ⟨v0, g0, e0, b0, h0⟩ := tk (many := 2) (by decide) (by decide) hg
  unfold m__law_number
  have t0 : (onlyB (eOp fEq (eCall m__law_take [] (aCons (eVar 0) (aCons (eC (.int 2)) aNil))) (eC (.int 0)))) [some .hand] g = some (.ok (.bl (decide (v0 = 0))), g0) := only_b (op2 (callTake rfl rfl e0) (show eC (.int 0) _ g0 = some (.ok (.int 0), g0) from rfl) (by show some (MP.D.bl ((v0 : Int) == ((0 : Nat) : Int))) = _; rw [beq_nat]))
  by_cases c : v0 = 0
  · obtain ⟨v, g1, e1, b1, h1⟩ := tk (many := 41) (by decide) (by decide) h0
    refine ⟨v, g1, ?_, by omega, h1⟩
    rw [mkFn_eq (by rfl)]
    show fin (sRet _ [some .hand] g) = _
    rw [decide_eq_true c] at t0
    rw [sRet_ok ((eIf_T t0).trans (callTake rfl rfl e1))]
    rfl
  · obtain ⟨v, g1, e1, b1, h1⟩ := tk (many := 6) (by decide) (by decide) h0
    refine ⟨v, g1, ?_, by omega, h1⟩
    rw [mkFn_eq (by rfl)]
    show fin (sRet _ [some .hand] g) = _
    rw [decide_eq_false c] at t0
    rw [sRet_ok ((eIf_F t0).trans (callTake rfl rfl e1))]
    rfl
theorem part_ok {g : G} (hg : HandOk g) (w : Nat) (hw : w ≤ 40) : ∃ (p : Int) (g' : G), m__law_part [.hand, .int w] g = some (.ok (.int p), g') ∧ -40 ≤ p ∧ p ≤ 40 ∧ HandOk g' := by
  obtain ⟨v0, g0, e0, b0, h0⟩ := tk (many := 4) (by decide) (by decide) hg
  have s0 : sSet 2 (eCall m__law_take [] (aCons (eVar 0) (aCons (eC (.int 4)) aNil))) [some .hand, some (.int w), none] g = some (.nx [some .hand, some (.int w), some (.int v0)], g0) := sSet_ok (callTake rfl rfl e0)
  have t0 : ∀ k : Nat, (onlyB (eOp fEq (eVar 2) (eC (.int (k : Int))))) [some .hand, some (.int w), some (.int v0)] g0 = some (.ok (.bl (decide (v0 = k))), g0) := fun k => only_b (op2 (show eVar 2 _ g0 = some (.ok (.int (v0 : Int)), g0) from rfl) rfl (by show some (MP.D.bl ((v0 : Int) == (k : Int))) = _; rw [beq_nat]))
  have t00 : (onlyB (eOp fEq (eVar 2) (eC (.int 0)))) [some .hand, some (.int w), some (.int v0)] g0 = some (.ok (.bl (decide (v0 = 0))), g0) := t0 0
  have t01 : (onlyB (eOp fEq (eVar 2) (eC (.int 1)))) [some .hand, some (.int w), some (.int v0)] g0 = some (.ok (.bl (decide (v0 = 1))), g0) := t0 1
  by_cases c0 : v0 = 0
  · obtain ⟨v, g1, e1, b1, h1⟩ := tk (many := 81) (by decide) (by decide) h0
    refine ⟨(v : Int) - 40, g1, ?_, by omega, by omega, h1⟩
    unfold m__law_part
    rw [mkFn_eq (by rfl)]
    show fin (sSeq _ _ [some .hand, some (.int w), none] g) = _
    rw [decide_eq_true c0] at t00
    rw [sSeq_nx s0, sSeq_ret ((sIf_T t00).trans (sRet_ok (op2 (callTake rfl rfl e1) (show eC (.int 40) _ g1 = some (.ok (.int 40), g1) from rfl) (show (fI0 fun i j => i - j) (.int (v : Int)) (.int 40) = some (.int ((v : Int) - 40)) from rfl))))]
    rfl
  rw [decide_eq_false c0] at t00
  by_cases c1 : v0 = 1
  · rw [decide_eq_true c1] at t01
    have t2 : (onlyB (eOp (fB0 fun i j => decide (i < j)) (eVar 1) (eC (.int 40)))) [some .hand, some (.int w), some (.int v0)] g0 = some (.ok (.bl (decide ((w : Int) < 40))), g0) := rfl
    by_cases c2 : (w : Int) < 40
    · rw [decide_eq_true c2] at t2
      obtain ⟨v, g1, e1, b1, h1⟩ := tk (many := 4) (by decide) (by decide) h0
      obtain ⟨p, hp, k1, k2⟩ : ∃ p : Int, fIx (.tup [.int (-1), .int w, .int ((w : Int) + 1), .int 0]) (.int v) = some (.int p) ∧ -40 ≤ p ∧ p ≤ 40 := by
        have : v = 0 ∨ v = 1 ∨ v = 2 ∨ v = 3 := by omega
        rcases this with rfl | rfl | rfl | rfl
        · exact ⟨-1, rfl, by omega, by omega⟩
        · exact ⟨w, rfl, by omega, by omega⟩
        · exact ⟨(w : Int) + 1, rfl, by omega, by omega⟩
        · exact ⟨0, rfl, by omega, by omega⟩
      refine ⟨p, g1, ?_, k1, k2, h1⟩
      unfold m__law_part
      rw [mkFn_eq (by rfl)]
      show fin (sSeq _ _ [some .hand, some (.int w), none] g) = _
      rw [sSeq_nx s0, sSeq_nx ((sIf_F t00).trans rfl), sSeq_ret ((sIf_T t01).trans (sRet_ok ((eIf_T t2).trans (op2 (show (eArgs (pf fTup) _) _ g0 = some (.ok (.tup [.int (-1), .int w, .int ((w : Int) + 1), .int 0]), g0) by simp [eArgs, aCons, aNil, eUn, bE, eC, eVar, eOp, fNeg, fI0, pf, fTup, (szB_of (by decide) : szB 4 = true)]) (callTake rfl rfl e1) hp))))]
      rfl
    · rw [decide_eq_false c2] at t2
      obtain ⟨v, g1, e1, b1, h1⟩ := tk (many := 3) (by decide) (by decide) h0
      obtain ⟨p, hp, k1, k2⟩ : ∃ p : Int, fIx (.tup [.int (-1), .int 40, .int 0]) (.int v) = some (.int p) ∧ -40 ≤ p ∧ p ≤ 40 := by
        have : v = 0 ∨ v = 1 ∨ v = 2 := by omega
        rcases this with rfl | rfl | rfl
        · exact ⟨-1, rfl, by omega, by omega⟩
        · exact ⟨40, rfl, by omega, by omega⟩
        · exact ⟨0, rfl, by omega, by omega⟩
      refine ⟨p, g1, ?_, k1, k2, h1⟩
      unfold m__law_part
      rw [mkFn_eq (by rfl)]
      show fin (sSeq _ _ [some .hand, some (.int w), none] g) = _
      rw [sSeq_nx s0, sSeq_nx ((sIf_F t00).trans rfl), sSeq_ret ((sIf_T t01).trans (sRet_ok ((eIf_F t2).trans (op2 (show (eArgs (pf fTup) _) _ g0 = some (.ok (.tup [.int (-1), .int 40, .int 0]), g0) from rfl) (callTake rfl rfl e1) hp))))]
      rfl
  rw [decide_eq_false c1] at t01
  obtain ⟨v, g1, e1, b1, h1⟩ := tk (many := (w : Int) + 1) (by omega) (by
    by_cases z : ((w : Int) + 1).natAbs = 0
    · rw [z]; decide
    · exact (Nat.log2_lt z).mpr (Nat.lt_of_lt_of_le (show ((w : Int) + 1).natAbs < 2 ^ 6 by omega) (Nat.pow_le_pow_right (by decide) (by decide)))) h0
  refine ⟨v, g1, ?_, by omega, by omega, h1⟩
  unfold m__law_part
  rw [mkFn_eq (by rfl)]
  show fin (sSeq _ _ [some .hand, some (.int w), none] g) = _
  rw [sSeq_nx s0, sSeq_nx ((sIf_F t00).trans rfl), sSeq_nx ((sIf_F t01).trans rfl), sRet_ok (callTake rfl (show (eOp (fI0 fun i j => i + j) (eVar 1) (eC (.int 1))) _ g0 = some (.ok (.int ((w : Int) + 1)), g0) from rfl) e1)]
  rfl
end HK74

set_option maxRecDepth 100000
set_option maxHeartbeats 2000000
namespace HK74
open PySem L2 MP
theorem tru_b {e : SE} {ρ : MP.Env} {g g1 : G} {b : Bool} (h : e ρ g = some (.ok (.bl b), g1)) : eTru e ρ g = some (.ok (.bl b), g1) := by
  unfold eTru
  rw [h]
  rfl
theorem not_b {e : SE} {ρ : MP.Env} {g g1 : G} {b : Bool} (h : e ρ g = some (.ok (.bl b), g1)) : eNot e ρ g = some (.ok (.bl (!b)), g1) := by
  unfold eNot
  rw [h]
theorem and_F {a b : SE} {ρ : MP.Env} {g : G} (h1 : a ρ g = some (.ok (.bl false), g)) : eAnd a b ρ g = some (.ok (.bl false), g) := by
  unfold eAnd
  rw [h1]
theorem and_T {a b : SE} {ρ : MP.Env} {g : G} (h1 : a ρ g = some (.ok (.bl true), g)) : eAnd a b ρ g = b ρ g := by
  unfold eAnd
  rw [h1]
theorem var_ {i : Nat} {ρ : MP.Env} {g : G} {d : MP.D} (h : ρ[i]? = some (some d)) : eVar i ρ g = some (.ok d, g) := by
  unfold eVar
  rw [h]
theorem call3 {m : FM} {a b c : SE} {ρ : MP.Env} {g : G} {x y z : MP.D} {r : MP.R} (ha : a ρ g = some (.ok x, g)) (hb : b ρ g = some (.ok y, g)) (hc : c ρ g = some (.ok z, g)) (h : m [x, y, z] g = r) : eCall m [] (aCons a (aCons b (aCons c aNil))) ρ g = r := by
  unfold eCall eArgs aCons
  simp only [ha, hb, hc]
  exact h
theorem call4 {m : FM} {a b c d : SE} {ρ : MP.Env} {g : G} {x y z u : MP.D} {r : MP.R} (ha : a ρ g = some (.ok x, g)) (hb : b ρ g = some (.ok y, g)) (hc : c ρ g = some (.ok z, g)) (hd : d ρ g = some (.ok u, g)) (h : m [x, y, z, u] g = r) : eCall m [] (aCons a (aCons b (aCons c (aCons d aNil)))) ρ g = r := by
  unfold eCall eArgs aCons
  simp only [ha, hb, hc, hd]
  exact h
theorem call5 {m : FM} {a b c d e : SE} {ρ : MP.Env} {g : G} {x y z u v : MP.D} {r : MP.R} (ha : a ρ g = some (.ok x, g)) (hb : b ρ g = some (.ok y, g)) (hc : c ρ g = some (.ok z, g)) (hd : d ρ g = some (.ok u, g)) (he : e ρ g = some (.ok v, g)) (h : m [x, y, z, u, v] g = r) : eCall m [] (aCons a (aCons b (aCons c (aCons d (aCons e aNil))))) ρ g = r := by
  unfold eCall eArgs aCons
  simp only [ha, hb, hc, hd, he]
  exact h
theorem is_T {a b : SE} {ρ : MP.Env} {g : G} {i : Int} (ha : a ρ g = some (.ok (.int i), g)) (hb : b ρ g = some (.ok (.int i), g)) : eNot (eTru (eCall m__law_is [] (aCons a (aCons b aNil)))) ρ g = some (.ok (.bl false), g) := by
  have h : eCall m__law_is [] (aCons a (aCons b aNil)) ρ g = some (.ok (.bl true), g) := call2 ha hb (by rw [is_ok]; simp)
  exact not_b (tru_b h)
/-- the names of the law's frame -/
def fr (q : Int) (x4 x5 x6 x7 x8 x9 x10 x11 : Option MP.D) : MP.Env := [none, some .hand, some (.int q), some (rowsV q), x4, x5, x6, x7, x8, x9, x10, x11]
theorem flip_2 : ∀ w : Fin 41, ∀ p : Fin 41, p ≤ w → scF 2 w.val ((w.val : Int) - (p.val : Int)) = scF 2 w.val (p.val : Int) := by decide +kernel
theorem flip_3 : ∀ w : Fin 41, ∀ p : Fin 41, p ≤ w → scF 3 w.val ((w.val : Int) - (p.val : Int)) = scF 3 w.val (p.val : Int) := by decide +kernel
theorem sc_flip (q : Int) (hq : q = 2 ∨ q = 3) (w : Nat) (hw : w ≤ 40) (p : Int) : scF q w ((w : Int) - p) = scF q w p := by
  by_cases c1 : p < 0
  · rw [sc_out (Or.inl c1), sc_out (Or.inr (by omega))]
  by_cases c2 : (w : Int) < p
  · rw [sc_out (Or.inr c2), sc_out (Or.inl (by omega))]
  obtain ⟨n, rfl⟩ : ∃ n : Nat, p = n := ⟨p.toNat, by omega⟩
  have hn : n ≤ w := by omega
  rcases hq with rfl | rfl
  · exact flip_2 ⟨w, by omega⟩ ⟨n, by omega⟩ hn
  · exact flip_3 ⟨w, by omega⟩ ⟨n, by omega⟩ hn
theorem sum_ok (q : Int) (hq : q = 2 ∨ q = 3) (t w : Nat) (ht : t ≤ 40) (hw : w < 8) : sumTc q t w = q ^ (t * w) := by
  rcases hq with rfl | rfl
  · exact sum_2 ⟨t, by omega⟩ ⟨w, hw⟩
  · exact sum_3 ⟨t, by omega⟩ ⟨w, hw⟩
theorem onlyI_map (f : Nat → Int) : ∀ l : List Nat, onlyI (l.map fun i => MP.D.int (f i)) = some (l.map f)
  | [] => rfl
  | x :: r => by
    show (onlyI (r.map fun i => MP.D.int (f i))).map (f x :: ·) = _
    rw [onlyI_map f r]
    rfl
end HK74

set_option maxRecDepth 100000
set_option maxHeartbeats 4000000
namespace HK74
open PySem L2 MP
def turnS : SS := (sSeq (sSet 9 (eCall m__law_number [] (aCons (eVar 1) aNil))) (sSeq (sSet 10 (eCall m__law_part [] (aCons (eVar 1) (aCons (eVar 9) aNil)))) (sSeq (sIf (eNot (eTru (eCall m__law_is [] (aCons (eCall m_space_count [] (aCons (eVar 2) (aCons (eVar 9) (aCons (eVar 10) aNil)))) (aCons (eCall m__law_spaces [] (aCons (eVar 3) (aCons (eVar 9) (aCons (eVar 10) aNil)))) aNil))))) (sRet (eC (.bl false))) sPass) (sSeq (sIf (eAnd (onlyB (eOp (fB0 fun i j => decide (i ≤ j)) (eOp (fI0 fun i j => i - j) (eVar 9) (eVar 10)) (eC (.int 40)))) (eNot (eTru (eCall m__law_is [] (aCons (eCall m_space_count [] (aCons (eVar 2) (aCons (eVar 9) (aCons (eOp (fI0 fun i j => i - j) (eVar 9) (eVar 10)) aNil)))) (aCons (eCall m__law_spaces [] (aCons (eVar 3) (aCons (eVar 9) (aCons (eVar 10) aNil)))) aNil)))))) (sRet (eC (.bl false))) sPass) (sSeq (sSet 5 (eCall m__law_number [] (aCons (eVar 1) aNil))) (sSeq (sSet 11 (eCall m__law_part [] (aCons (eVar 1) (aCons (eVar 5) aNil)))) (sSeq (sIf (eNot (eTru (eCall m__law_is [] (aCons (eCall m_table_count [] (aCons (eVar 2) (aCons (eVar 5) (aCons (eVar 9) (aCons (eVar 11) aNil))))) (aCons (eCall m__law_tables [] (aCons (eVar 2) (aCons (eVar 3) (aCons (eVar 5) (aCons (eVar 9) (aCons (eVar 11) aNil)))))) aNil))))) (sRet (eC (.bl false))) sPass) (sIf (eNot (eTru (eCall m__law_is [] (aCons (eCall m_table_count [] (aCons (eVar 2) (aCons (eVar 9) (aCons (eVar 5) (aCons (eVar 11) aNil))))) (aCons (eCall m__law_tables [] (aCons (eVar 2) (aCons (eVar 3) (aCons (eVar 5) (aCons (eVar 9) (aCons (eVar 11) aNil)))))) aNil))))) (sRet (eC (.bl false))) sPass))))))))
theorem turn_ok (q : Int) (hq : q = 2 ∨ q = 3) (x4 x5 x6 x7 x8 x9 x10 x11 : Option MP.D) (g : G) (hg : HandOk g) : ∃ y4 y5 y6 y7 y8 y9 y10 y11 g', turnS (fr q x4 x5 x6 x7 x8 x9 x10 x11) g = some (.nx (fr q y4 y5 y6 y7 y8 y9 y10 y11), g') ∧ HandOk g' := by
  obtain ⟨w, g1, e1, hw, h1⟩ := number_ok hg
  obtain ⟨p, g2, e2, p1, p2, h2⟩ := part_ok h1 w hw
  obtain ⟨t, g3, e3, ht, h3⟩ := number_ok h2
  obtain ⟨r, g4, e4, r1, r2, h4⟩ := part_ok h3 t ht
  refine ⟨x4, some (.int t), x6, x7, x8, some (.int w), some (.int p), some (.int r), g4, ?_, h4⟩
  unfold turnS
  rw [sSeq_nx (sSet_ok (call1 (show eVar 1 (fr q x4 x5 x6 x7 x8 x9 x10 x11) g = some (.ok .hand, g) from rfl) e1))]
  show sSeq _ _ (fr q x4 x5 x6 x7 x8 (some (.int w)) x10 x11) g1 = _
  rw [sSeq_nx (sSet_ok (call2 (show eVar 1 (fr q x4 x5 x6 x7 x8 (some (.int w)) x10 x11) g1 = some (.ok .hand, g1) from rfl) (show eVar 9 _ g1 = some (.ok (.int w), g1) from rfl) e2))]
  show sSeq _ _ (fr q x4 x5 x6 x7 x8 (some (.int w)) (some (.int p)) x11) g2 = _
  have v2 : ∀ x5 x11 (g : G), eVar 2 (fr q x4 x5 x6 x7 x8 (some (.int w)) (some (.int p)) x11) g = some (.ok (.int q), g) := fun _ _ _ => rfl
  have v3 : ∀ x5 x11 (g : G), eVar 3 (fr q x4 x5 x6 x7 x8 (some (.int w)) (some (.int p)) x11) g = some (.ok (rowsV q), g) := fun _ _ _ => rfl
  have v9 : ∀ x5 x11 (g : G), eVar 9 (fr q x4 x5 x6 x7 x8 (some (.int w)) (some (.int p)) x11) g = some (.ok (.int w), g) := fun _ _ _ => rfl
  have v10 : ∀ x5 x11 (g : G), eVar 10 (fr q x4 x5 x6 x7 x8 (some (.int w)) (some (.int p)) x11) g = some (.ok (.int p), g) := fun _ _ _ => rfl
  have c1 := is_T (call3 (v2 x5 x11 g2) (v9 x5 x11 g2) (v10 x5 x11 g2) (space_ok q hq w hw p g2)) (call3 (v3 x5 x11 g2) (v9 x5 x11 g2) (v10 x5 x11 g2) (spaces_ok q hq w hw p g2))
  rw [sSeq_nx ((sIf_F c1).trans rfl)]
  have d9 : eOp (fI0 fun i j => i - j) (eVar 9) (eVar 10) (fr q x4 x5 x6 x7 x8 (some (.int w)) (some (.int p)) x11) g2 = some (.ok (.int ((w : Int) - p)), g2) := rfl
  have t1 : onlyB (eOp (fB0 fun i j => decide (i ≤ j)) (eOp (fI0 fun i j => i - j) (eVar 9) (eVar 10)) (eC (.int 40))) (fr q x4 x5 x6 x7 x8 (some (.int w)) (some (.int p)) x11) g2 = some (.ok (.bl (decide ((w : Int) - p ≤ 40))), g2) := rfl
  have c2 : eAnd (onlyB (eOp (fB0 fun i j => decide (i ≤ j)) (eOp (fI0 fun i j => i - j) (eVar 9) (eVar 10)) (eC (.int 40)))) (eNot (eTru (eCall m__law_is [] (aCons (eCall m_space_count [] (aCons (eVar 2) (aCons (eVar 9) (aCons (eOp (fI0 fun i j => i - j) (eVar 9) (eVar 10)) aNil)))) (aCons (eCall m__law_spaces [] (aCons (eVar 3) (aCons (eVar 9) (aCons (eVar 10) aNil)))) aNil))))) (fr q x4 x5 x6 x7 x8 (some (.int w)) (some (.int p)) x11) g2 = some (.ok (.bl false), g2) := by
    by_cases c : (w : Int) - p ≤ 40
    · rw [decide_eq_true c] at t1
      refine (and_T t1).trans (is_T (call3 (v2 x5 x11 g2) (v9 x5 x11 g2) d9 ((space_ok q hq w hw _ g2).trans ?_)) (call3 (v3 x5 x11 g2) (v9 x5 x11 g2) (v10 x5 x11 g2) (spaces_ok q hq w hw p g2)))
      rw [sc_flip q hq w hw p]
    · rw [decide_eq_false c] at t1
      exact and_F t1
  rw [sSeq_nx ((sIf_F c2).trans rfl)]
  rw [sSeq_nx (sSet_ok (call1 (show eVar 1 (fr q x4 x5 x6 x7 x8 (some (.int w)) (some (.int p)) x11) g2 = some (.ok .hand, g2) from rfl) e3))]
  show sSeq _ _ (fr q x4 (some (.int t)) x6 x7 x8 (some (.int w)) (some (.int p)) x11) g3 = _
  rw [sSeq_nx (sSet_ok (call2 (show eVar 1 (fr q x4 (some (.int t)) x6 x7 x8 (some (.int w)) (some (.int p)) x11) g3 = some (.ok .hand, g3) from rfl) (show eVar 5 _ g3 = some (.ok (.int t), g3) from rfl) e4))]
  show sSeq _ _ (fr q x4 (some (.int t)) x6 x7 x8 (some (.int w)) (some (.int p)) (some (.int r))) g4 = _
  have u5 : eVar 5 (fr q x4 (some (.int t)) x6 x7 x8 (some (.int w)) (some (.int p)) (some (.int r))) g4 = some (.ok (.int t), g4) := rfl
  have u11 : eVar 11 (fr q x4 (some (.int t)) x6 x7 x8 (some (.int w)) (some (.int p)) (some (.int r))) g4 = some (.ok (.int r), g4) := rfl
  have tb := call5 (v2 (some (.int t)) (some (.int r)) g4) (v3 _ _ g4) u5 (v9 _ _ g4) u11 (tables_ok q hq t w ht hw r r1 r2 g4)
  have c3 := is_T (call4 (v2 (some (.int t)) (some (.int r)) g4) u5 (v9 _ _ g4) u11 (table_ok q hq t w ht hw r r1 r2 g4)) tb
  rw [sSeq_nx ((sIf_F c3).trans rfl)]
  have c4 := is_T (call4 (v2 (some (.int t)) (some (.int r)) g4) (v9 _ _ g4) u5 u11 ((table_ok q hq w t hw ht r r1 r2 g4).trans (by rw [tc_swap q hq t w ht hw r]))) tb
  exact (sIf_F c4).trans rfl
end HK74

set_option maxRecDepth 100000
set_option maxHeartbeats 4000000
namespace HK74
open PySem L2 MP
theorem fr_eq (q : Int) (a b : Int) (x4 x5 x6 x7 x8 x9 x10 x11 : Option MP.D) : True := trivial
theorem comp_ok (q : Int) (hq : q = 2 ∨ q = 3) (t w : Nat) (ht : t ≤ 40) (hw : w < 8) (x4 x7 x8 x9 x10 x11 : Option MP.D) (g : G) :
    eUn fSum (eComp [11] (aVia fRng1 (aCons (eOp (fI0 fun i j => i + j) (eVar 6) (eC (.int 1))) aNil)) (gVar 11) eYes (eCall m_table_count [] (aCons (eVar 2) (aCons (eVar 5) (aCons (eVar 6) (aCons (eVar 11) aNil)))))) (fr q x4 (some (.int t)) (some (.int w)) x7 x8 x9 x10 x11) g = some (.ok (.int (q ^ (t * w))), g) := by
  have it : aVia fRng1 (aCons (eOp (fI0 fun i j => i + j) (eVar 6) (eC (.int 1))) aNil) (fr q x4 (some (.int t)) (some (.int w)) x7 x8 x9 x10 x11) g = some (.ok (rng 0 (w + 1)), g) :=
    aVia_ok (show aCons (eOp (fI0 fun i j => i + j) (eVar 6) (eC (.int 1))) aNil (fr q x4 (some (.int t)) (some (.int w)) x7 x8 x9 x10 x11) g = some (.ok [.int ((w + 1 : Nat) : Int)], g) from rfl) (fRng1_nat (by omega))
  have cg := compGo_map (f := gVar 11) (elt := (eCall m_table_count [] (aCons (eVar 2) (aCons (eVar 5) (aCons (eVar 6) (aCons (eVar 11) aNil)))))) (ρ := fr q x4 (some (.int t)) (some (.int w)) x7 x8 x9 x10 none) (g := g)
    (fun d => match d with | .int r => .int (tcF q t w r) | x => x) (rng 0 (w + 1)) [] (fun d hd => by
      obtain ⟨i, hi⟩ := List.mem_iff_getElem?.mp hd
      obtain ⟨h1, rfl⟩ := rng_at hi
      refine ⟨_, rfl, ?_⟩
      exact call4 (show eVar 2 _ g = some (.ok (.int q), g) from rfl) (show eVar 5 _ g = some (.ok (.int t), g) from rfl) (show eVar 6 _ g = some (.ok (.int w), g) from rfl) (show eVar 11 _ g = some (.ok (.int (0 + (i : Nat))), g) from rfl) (table_ok q hq t w ht (by omega) _ (by omega) (by omega) g)) (by rw [rng_len]; simp; omega)
  have e := eComp_run (own := [11]) it cg
  have l : ([] ++ (rng 0 (w + 1)).map (fun d => match d with | .int r => .int (tcF q t w r) | x => x) : List MP.D) = (List.range (w + 1)).map fun r : Nat => MP.D.int (tcF q t w (r : Int)) := by
    unfold rng
    rw [List.nil_append, List.map_map]
    apply List.map_congr_left
    intro a _
    show MP.D.int (tcF q t w (0 + (a : Int))) = _
    rw [Int.zero_add]
  rw [l] at e
  unfold eUn
  rw [e, bE_ok]
  show (match (onlyI ((List.range (w + 1)).map fun r : Nat => MP.D.int (tcF q t w (r : Int)))).map fun ns => MP.D.int ns.sum with
    | some z => some (Out.ok z, g)
    | none => none) = _
  rw [onlyI_map]
  show some (Out.ok (MP.D.int (sumTc q t w)), g) = _
  rw [sum_ok q hq t w ht hw]
theorem pow_zero_ok (e : Nat) (he : e ≤ 40) (g : G) : m_power_of [.int 0, .int e] g = some (.ok (.int (if ((e : Int) == 0) = true then 1 else 0)), g) := by
  rw [power_ok 0 e 1 g (by decide) (by omega) (by omega)]
  by_cases c : e = 0
  · subst c; rfl
  · have : ((e : Int) == 0) = false := by simpa using c
    rw [this]
    have : (0 : Int) ^ e = 0 := by
      obtain ⟨k, rfl⟩ : ∃ k, e = k + 1 := ⟨e - 1, by omega⟩
      rw [Int.pow_succ]; simp
    rw [this]
    rfl
theorem base_ok {g : G} (hg : HandOk g) (ρ : MP.Env) (hρ : ρ[1]? = some (some .hand)) : ∃ (b : Int) (g' : G), (eIf (onlyB (eOp fEq (eCall m__law_take [] (aCons (eVar 1) (aCons (eC (.int 2)) aNil))) (eC (.int 0)))) (eOp (fI0 fun i j => i - j) (eCall m__law_take [] (aCons (eVar 1) (aCons (eOp (fI cMul fun i j => i * j) (eC (.int 2)) (eOp (fI cPow fun i j => i ^ j.toNat) (eC (.int 10)) (eC (.int 29)))) aNil))) (eOp (fI cPow fun i j => i ^ j.toNat) (eC (.int 10)) (eC (.int 29)))) (eOp (fI0 fun i j => i - j) (eCall m__law_take [] (aCons (eVar 1) (aCons (eC (.int 9)) aNil))) (eC (.int 4)))) ρ g = some (.ok (.int b), g') ∧ b.natAbs < 2 ^ 100 ∧ HandOk g' := by
  obtain ⟨v0, g0, e0, b0, h0⟩ := tk (many := 2) (by decide) (by decide) hg
  have t0 : (onlyB (eOp fEq (eCall m__law_take [] (aCons (eVar 1) (aCons (eC (.int 2)) aNil))) (eC (.int 0)))) ρ g = some (.ok (.bl (decide (v0 = 0))), g0) := only_b (op2 (callTake hρ rfl e0) (show eC (.int 0) _ g0 = some (.ok (.int 0), g0) from rfl) (by show some (MP.D.bl ((v0 : Int) == ((0 : Nat) : Int))) = _; rw [beq_nat]))
  have p29 : ∀ g : G, (eOp (fI cPow fun i j => i ^ j.toNat) (eC (.int 10)) (eC (.int 29))) ρ g = some (.ok (.int 100000000000000000000000000000), g) := fun g => op2 rfl rfl (by kernel_rfl)
  by_cases c : v0 = 0
  · rw [decide_eq_true c] at t0
    obtain ⟨v, g1, e1, b1, h1⟩ := tk (many := 200000000000000000000000000000) (by decide) (by decide +kernel) h0
    refine ⟨(v : Int) - 100000000000000000000000000000, g1, ?_, by omega, h1⟩
    exact (eIf_T t0).trans (op2 (callTake hρ (op2 (show eC (.int 2) ρ g0 = some (.ok (.int 2), g0) from rfl) (p29 g0) (by kernel_rfl)) e1) (p29 g1) rfl)
  · rw [decide_eq_false c] at t0
    obtain ⟨v, g1, e1, b1, h1⟩ := tk (many := 9) (by decide) (by decide) h0
    refine ⟨(v : Int) - 4, g1, ?_, by omega, h1⟩
    exact (eIf_F t0).trans (op2 (callTake hρ rfl e1) (show eC (.int 4) _ g1 = some (.ok (.int 4), g1) from rfl) rfl)
theorem law_true : LawTrue := fun ns _ => by
  have hg := hand0_ok ns
  obtain ⟨v, g1, e1, b1, h1⟩ := tk (many := 2) (by decide) (by decide) hg
  obtain ⟨q, hqv, hq⟩ : ∃ q : Int, q = 2 + (v : Int) ∧ (q = 2 ∨ q = 3) := ⟨_, rfl, by omega⟩
  have s1 : sSet 2 (eOp (fI0 fun i j => i + j) (eC (.int 2)) (eCall m__law_take [] (aCons (eVar 1) (aCons (eC (.int 2)) aNil)))) [none, some .hand, none, none, none, none, none, none, none, none, none, none] (hand0 ns) = some (.nx [none, some .hand, some (.int q), none, none, none, none, none, none, none, none, none], g1) := by
    rw [sSet_ok (op2 (show eC (.int 2) _ (hand0 ns) = some (.ok (.int 2), hand0 ns) from rfl) (callTake rfl rfl e1) (show (fI0 fun i j => i + j) (.int 2) (.int (v : Int)) = some (.int q) by rw [hqv]; rfl))]
    rfl
  have s2 : sSet 3 (eCall m__law_rows [] (aCons (eVar 2) (aCons (eC (.int 40)) aNil))) [none, some .hand, some (.int q), none, none, none, none, none, none, none, none, none] g1 = some (.nx (fr q none none none none none none none none), g1) := by
    rw [sSet_ok (call2 (show eVar 2 _ g1 = some (.ok (.int q), g1) from rfl) (show eC (.int 40) _ g1 = some (.ok (.int 40), g1) from rfl) (rows_ok q hq g1))]
    rfl
  obtain ⟨ρ', g2, e2, y4, y5, y6, y7, y8, y9, y10, y11, rfl, h2⟩ := forGo_inv (f := gVar 4) (body := turnS) (ds := rng 0 4)
    (fun i ρ g' => ∃ y4 y5 y6 y7 y8 y9 y10 y11, ρ = fr q y4 y5 y6 y7 y8 y9 y10 y11 ∧ HandOk g') (ρ := fr q none none none none none none none none) (g := g1) ⟨none, none, none, none, none, none, none, none, rfl, h1⟩ (by
      rintro i ρ g' d hd ⟨y4, y5, y6, y7, y8, y9, y10, y11, rfl, hh⟩
      obtain ⟨z4, z5, z6, z7, z8, z9, z10, z11, g'', e, h''⟩ := turn_ok q hq (some d) y5 y6 y7 y8 y9 y10 y11 g' hh
      exact ⟨_, rfl, _, g'', .inl e, z4, z5, z6, z7, z8, z9, z10, z11, rfl, h''⟩)
  obtain ⟨t, g3, e3, ht, h3⟩ := number_ok h2
  obtain ⟨w, g4, e4, hw, h4⟩ := tk (many := 8) (by decide) (by decide) h3
  have hv1 : ∀ (x4 x5 x6 x7 x8 x9 x10 x11 : Option MP.D), (fr q x4 x5 x6 x7 x8 x9 x10 x11)[1]? = some (some .hand) := fun _ _ _ _ _ _ _ _ => rfl
  obtain ⟨b, g5, e5, hb, h5⟩ := base_ok h4 (fr q y4 (some (.int t)) (some (.int w)) y7 y8 y9 y10 y11) rfl
  obtain ⟨n, g6, e6, hn, h6⟩ := number_ok h5
  refine ⟨g6, ?_⟩
  unfold turnS at e2
  unfold s_law
  show sSeq _ _ [none, some .hand, none, none, none, none, none, none, none, none, none, none] (hand0 ns) = _
  rw [sSeq_nx s1, sSeq_nx s2]
  rw [sSeq_nx (sFor_run (aVia_ok (show aCons (eC (.int 4)) aNil (fr q none none none none none none none none) g1 = some (.ok [.int ((4 : Nat) : Int)], g1) from rfl) (fRng1_nat (by omega))) e2)]
  rw [sSeq_nx (sSet_ok (call1 (show eVar 1 (fr q y4 y5 y6 y7 y8 y9 y10 y11) g2 = some (.ok .hand, g2) from rfl) e3))]
  show sSeq _ _ (fr q y4 (some (.int t)) y6 y7 y8 y9 y10 y11) g3 = _
  rw [sSeq_nx (sSet_ok (callTake rfl rfl e4))]
  show sSeq _ _ (fr q y4 (some (.int t)) (some (.int w)) y7 y8 y9 y10 y11) g4 = _
  have cm : cMul (t : Int) (w : Int) = true := cMul_r (by omega)
  have tw : t * w ≤ 40 * 7 := Nat.mul_le_mul ht (by omega)
  have c1 : (onlyB (eOp fNe (eUn fSum (eComp [11] (aVia fRng1 (aCons (eOp (fI0 fun i j => i + j) (eVar 6) (eC (.int 1))) aNil)) (gVar 11) eYes (eCall m_table_count [] (aCons (eVar 2) (aCons (eVar 5) (aCons (eVar 6) (aCons (eVar 11) aNil))))))) (eCall m__law_power [] (aCons (eVar 2) (aCons (eOp (fI cMul fun i j => i * j) (eVar 5) (eVar 6)) aNil))))) (fr q y4 (some (.int t)) (some (.int w)) y7 y8 y9 y10 y11) g4 = some (.ok (.bl false), g4) :=
    only_b (op2 (comp_ok q hq t w ht (by omega) y4 y7 y8 y9 y10 y11 g4) (call2 (show eVar 2 (fr q y4 (some (.int t)) (some (.int w)) y7 y8 y9 y10 y11) g4 = some (.ok (.int q), g4) from rfl) (op2 (show eVar 5 _ g4 = some (.ok (.int t), g4) from rfl) (show eVar 6 _ g4 = some (.ok (.int w), g4) from rfl) (show (fI cMul fun i j => i * j) (.int t) (.int w) = some (.int ((t * w : Nat) : Int)) by simp [fI, cm])) (lpower_ok q (t * w) 2 g4 (by rcases hq with rfl | rfl <;> decide) (by omega) (by omega))) (by simp [fNe, eqB]))
  rw [sSeq_nx ((sIf_F c1).trans rfl)]
  rw [sSeq_nx (sSet_ok e5)]
  show sSeq _ _ (fr q y4 (some (.int t)) (some (.int w)) (some (.int b)) y8 y9 y10 y11) g5 = _
  rw [sSeq_nx (sSet_ok (call1 (show eVar 1 (fr q y4 (some (.int t)) (some (.int w)) (some (.int b)) y8 y9 y10 y11) g5 = some (.ok .hand, g5) from rfl) e6))]
  show sSeq _ _ (fr q y4 (some (.int t)) (some (.int w)) (some (.int b)) (some (.int n)) y9 y10 y11) g6 = _
  have v7 : eVar 7 (fr q y4 (some (.int t)) (some (.int w)) (some (.int b)) (some (.int n)) y9 y10 y11) g6 = some (.ok (.int b), g6) := rfl
  have v8 : eVar 8 (fr q y4 (some (.int t)) (some (.int w)) (some (.int b)) (some (.int n)) y9 y10 y11) g6 = some (.ok (.int n), g6) := rfl
  have d1 := is_T (call2 v7 v8 (power_ok b n 100 g6 hb (by omega) (by omega))) (call2 v7 v8 (lpower_ok b n 100 g6 hb (by omega) (by omega)))
  have d2 := is_T (call2 (show eC (.int 0) (fr q y4 (some (.int t)) (some (.int w)) (some (.int b)) (some (.int n)) y9 y10 y11) g6 = some (.ok (.int 0), g6) from rfl) v8 (pow_zero_ok n hn g6)) (show eUn fInt (eOp fEq (eVar 8) (eC (.int 0))) (fr q y4 (some (.int t)) (some (.int w)) (some (.int b)) (some (.int n)) y9 y10 y11) g6 = some (.ok (.int (if ((n : Int) == 0) = true then 1 else 0)), g6) from rfl)
  rw [sSeq_nx ((sIf_F ((or_F d1).trans d2)).trans rfl)]
  have nb : eUn fNeg (eVar 7) (fr q y4 (some (.int t)) (some (.int w)) (some (.int b)) (some (.int n)) y9 y10 y11) g6 = some (.ok (.int (-b)), g6) := rfl
  have hnb : (-b).natAbs < 2 ^ 100 := by rw [Int.natAbs_neg]; exact hb
  exact sRet_ok (call2 (call2 nb v8 (power_ok (-b) n 100 g6 hnb (by omega) (by omega))) (call2 nb v8 (lpower_ok (-b) n 100 g6 hnb (by omega) (by omega))) (by rw [is_ok]; simp))
end HK74

set_option maxRecDepth 100000
set_option maxHeartbeats 0
open PySem PySem.W PySem.Calls PyProof.Rows
theorem PySem.Challenge.cw_rankwords_k74_whole_numbers_of_spaces_an_holds : PySem.Challenge.rw_rankwords_k74_whole_numbers_of_spaces_an.Holds := by
  w_on; o_law
  refine HandSHeadRun.head_any (r := OpenLaw.row PySem.Challenge.rw_rankwords_k74_whole_numbers_of_spaces_an) (q := view (OpenLaw.row PySem.Challenge.rw_rankwords_k74_whole_numbers_of_spaces_an).prog [16]) (H := HK74.hk) (ob := HK74.ob) (M := 2000) (loose := HK74.loose) (d := HandSHeadRun.topDef (OpenLaw.row PySem.Challenge.rw_rankwords_k74_whole_numbers_of_spaces_an).prog 16) (kwd := []) HK74.ob_eq
    (by kernel_rfl) (fun s => by kernel_rfl) HK74.run (by kernel_rfl) (by kernel_rfl) (by kernel_rfl) (by rfl) (by first | assumption | decide +kernel) (by decide +kernel) ⟨rfl, rfl, rfl, rfl, rfl, by decide +kernel⟩ ?hw ?hc
  case hw => w_witness2
  case hc =>
    refine L2.walk_ofE (l := PySem.Challenge.rw_rankwords_k74_whole_numbers_of_spaces_an) (n := 63) (k := 5) (x := "_law_script") (CX := L2.CX0) rfl (by decide) (by kernel_rfl) ⟨rfl, by decide, by decide⟩ ?F (fun _ _ _ _ z => z)
    intro w mg fa h Y G hmg0
    obtain ⟨K, KX, c⟩ := Y
    have hmg : mg ("law" : PySem.Str) = some (.ref fa) := by
      have e : (HandSHeadRun.topDef (OpenLaw.row PySem.Challenge.rw_rankwords_k74_whole_numbers_of_spaces_an).prog 16).name = ("law" : PySem.Str) := by kernel_rfl
      rw [← e]
      exact hmg0
    have Z : ∀ mg' : PySem.Str → Option PySem.Value, ∀ h' : PySem.Heap, K.In h' → h'.Ns mainGlobals mg' → MP.Pk HK74.fa HK74.fn K mg' := fun mg' h' a b => ⟨c, h', a, b⟩
    have ef : fa = He.ga K "law" := by
      have := (Z mg h KX G).glo 14 (x := "law") rfl
      rw [hmg] at this
      cases this
      rfl
    subst ef
    obtain ⟨fd, F⟩ := c.def_ 14 (d := HK74.d14) rfl
    refine ⟨K, fd, HK74.spLaw K, KX, fun s u => L2.FunD.bindsA (ps := ["_law_script"]) F (fun _ _ _ _ _ _ us hl => match us, hl with | [_], _ => rfl) s [u] rfl, fun H a ns hl _ hS => ⟨a, ns, rfl, hS, hl, fun _ => rfl⟩, fun base kb nb => ?_⟩
    exact HK74.ok_lawF (Z mg base kb nb) HK74.law_true F
