/- The checks of package plain as closures: what each function value tells in whatever world behind it. Condition: rows are in memory. -/
import Derived.Test.YtknfjajmnlpfjaaGreatRecC
import Derived.Test.YtknfjajmnlpfjaaGreatRecB
import Derived.Test.YtknfjajmnlpfjaaGreatTupF
import Derived.Test.YtknfjajmnlpfjaaGreatSpecPlain
import Derived.Shelf.Abstract
namespace Go.Proofs.YtknfjajmnlpfjaaGreat
open Go.RowKit
open Go.Lib (strCells compareBytes)

/-- a slice value that holds these values -/
def IsVals (w : World) (B : Nat) (v : Value) (l : List TVal) : Prop := ∃ A n c, v = .slice A n c ∧ n ≤ c ∧ c ≤ maxLen ∧ HasVals w B A n l ∧ ∀ u ∈ l, InI64 u.n
/-- a slice value that holds these numbers -/
def IsInts (w : World) (B : Nat) (v : Value) (l : List Int) : Prop := ∃ A n c, v = .slice A n c ∧ n ≤ c ∧ c ≤ maxLen ∧ HasInts w B A n l ∧ ∀ x ∈ l, InI64 x
theorem IsVals.belowOf {w w' : World} {B C : Nat} {v : Value} {l : List TVal} (h : IsVals w B v l) (hb : Below C w w') (hC : B ≤ C) : IsVals w' B v l := by
  obtain ⟨A, n, c, e, h1, h2, h3, h4⟩ := h
  exact ⟨A, n, c, e, h1, h2, h3.belowOf hb hC, h4⟩
theorem IsInts.belowOf {w w' : World} {B C : Nat} {v : Value} {l : List Int} (h : IsInts w B v l) (hb : Below C w w') (hC : B ≤ C) : IsInts w' B v l := by
  obtain ⟨A, n, c, e, h1, h2, h3, h4⟩ := h
  exact ⟨A, n, c, e, h1, h2, h3.belowOf hb hC, h4⟩
theorem IsVals.more {w : World} {B B' : Nat} {v : Value} {l : List TVal} (h : IsVals w B v l) (hB : B ≤ B') : IsVals w B' v l := by
  obtain ⟨A, n, c, e, h1, h2, h3, h4⟩ := h
  exact ⟨A, n, c, e, h1, h2, h3.more hB, h4⟩
theorem IsInts.more {w : World} {B B' : Nat} {v : Value} {l : List Int} (h : IsInts w B v l) (hB : B ≤ B') : IsInts w B' v l := by
  obtain ⟨A, n, c, e, h1, h2, h3, h4⟩ := h
  exact ⟨A, n, c, e, h1, h2, ⟨h3.1, h3.2.more hB⟩, h4⟩

/-- the function value f, called in whatever world behind w, answers c -/
def Told (w : World) (f : Value) (c : Int) : Prop :=
  ∃ (g : Nat) (lb : Array Value), f = .func (.func g) #[] lb ∧ (∀ args W, (callFunc g args).run Tryz.prog W = .ok (.enter g args) W) ∧
    ∀ w', Below w.heap.size w w' → Calls Tryz.prog g lb w' fun x w'' => x = .returned (.int .i64 c) ∧ Below w'.heap.size w' w''
theorem Told.up {w w' : World} {f : Value} {c : Int} (h : Told w f c) (hb : Below w.heap.size w w') : Told w' f c := by
  obtain ⟨g, lb, e, h1, h2⟩ := h
  exact ⟨g, lb, e, h1, fun w'' hb' => h2 w'' (hb.trans (hb'.mono hb.size))⟩
theorem below_alloc (w : World) (o : Obj) : Below w.heap.size w (w.alloc o) := (Below.refl _ w).alloc (Nat.le_refl _) o
theorem Told.alloc {w : World} {f : Value} {c : Int} (h : Told w f c) (o : Obj) : Told (w.alloc o) f c := h.up (below_alloc w o)
/-- what a maker of a check leaves -/
def Tells (c : Int) (w : World) (e : Ending) (w' : World) : Prop := ∃ g lb, e = .returned (.func (.func g) #[] lb) ∧ Told w' (.func (.func g) #[] lb) c ∧ Below w.heap.size w w'

theorem made_at {w : World} {g : Nat} (hg : w.heap.size = g) (t : TypeId) (cs : Array Value) : Box (w.alloc (.cells cs t)) g t cs := hg ▸ Box.made w t cs

def keyE (s : ByteArray) : Nat := if keyOk s.data.toList then 0 else 1
def inE (n lo hi : Int) : Nat := if n < lo ∨ hi < n then 1 else 0
def oldE (l : List TVal) : Nat := if l.length = 0 then 0 else recErr l

set_option maxRecDepth 100000 in
theorem key1_any (s : ByteArray) (g : Nat) (w : World) (hc : w.cell? ⟨g, 0, none⟩ = some (.string s)) :
    Calls Tryz.prog 112 #[.pointer (some ⟨g, 0, none⟩)] w fun e w' => e = .returned (.int .i64 (keyE s : Int)) ∧ Below w.heap.size w w' := by
  go_enter Tryz.func112, Tryz.ntmps112
  cases h : keyOk s.data.toList with
  | true =>
    have E : Hid (keyE s = 0) := Lib.hid (by simp [keyE, h])
    go_wp2_with fail
    refine (recKey_any s _).mono ?_
    rintro e w' ⟨rfl, rfl⟩
    go_wp2
    go_ret
    exact ⟨by rw [E.out]; rfl, Below.refl _ _⟩
  | false =>
    have E : Hid (keyE s = 1) := Lib.hid (by simp [keyE, h])
    go_wp2_with fail
    refine (recKey_any s _).mono ?_
    rintro e w' ⟨rfl, rfl⟩
    go_wp2
    go_ret
    exact ⟨by rw [E.out]; rfl, Below.refl _ _⟩

set_option maxRecDepth 100000 in
theorem key0_any (s : ByteArray) (w : World) : Calls Tryz.prog 77 #[.string s] w (Tells (keyE s) w) := by
  go_enter Tryz.func77, Tryz.ntmps77
  go_wp2
  go_ret
  exact ⟨_, _, rfl, ⟨_, _, rfl, enters_of Tryz.func112 (by kernel_rfl) rfl, fun w' hb => key1_any s _ w' ((hb.cell (by simp)).trans (by simp))⟩, below_alloc _ _⟩

set_option maxRecDepth 100000 in
theorem rec1_any (r : Value) (l : List TVal) (B g : Nat) (w : World) (hr : IsVals w B r l) (hB : B ≤ w.heap.size) (hc : w.cell? ⟨g, 0, none⟩ = some r) :
    Calls Tryz.prog 113 #[.pointer (some ⟨g, 0, none⟩)] w fun e w' => e = .returned (.int .i64 (recErr l : Int)) ∧ Below w.heap.size w w' := by
  obtain ⟨A, n, c, rfl, h1, h2, h3, h4⟩ := hr
  have H := Lib.hid (recCheck_any A n c B l w h3 (by omega) hB h4)
  clear h3 h4
  go_enter Tryz.func113, Tryz.ntmps113
  go_wp2_with fail
  refine H.out.mono ?_
  rintro e w' ⟨rfl, hb⟩
  go_wp2
  go_ret
  exact ⟨rfl, hb⟩
set_option maxRecDepth 100000 in
theorem rec0_any (r : Value) (l : List TVal) (B : Nat) (w : World) (hr : IsVals w B r l) (hB : B ≤ w.heap.size) : Calls Tryz.prog 78 #[r] w (Tells (recErr l) w) := by
  have Hr := Lib.hid hr
  obtain ⟨A, n, c, rfl, -⟩ := hr
  go_enter Tryz.func78, Tryz.ntmps78
  go_wp2
  go_ret
  refine ⟨_, _, rfl, ⟨_, _, rfl, enters_of Tryz.func113 (by kernel_rfl) rfl, fun w' hb => rec1_any _ l B _ w' (Hr.out.belowOf ((below_alloc _ _).trans (hb.mono (by simp))) hB) (by have := hb.size; simp at this; omega) ((hb.cell (by simp)).trans (by simp))⟩, below_alloc _ _⟩

set_option maxRecDepth 100000 in
theorem old1_any (r : Value) (l : List TVal) (B g : Nat) (w : World) (hr : IsVals w B r l) (hB : B ≤ w.heap.size) (hc : w.cell? ⟨g, 0, none⟩ = some r) :
    Calls Tryz.prog 114 #[.pointer (some ⟨g, 0, none⟩)] w fun e w' => e = .returned (.int .i64 (oldE l : Int)) ∧ Below w.heap.size w w' := by
  obtain ⟨A, n, c, rfl, h1, h2, h3, h4⟩ := hr
  have Hl := Lib.hid h3.1
  have H := Lib.hid (recCheck_any A n c B l w h3 (by omega) hB h4)
  clear h3 h4
  by_cases h0 : n = 0
  · have E : Hid (oldE l = 0) := Lib.hid (by unfold oldE; rw [if_pos (by have := Hl.out; omega)])
    subst h0
    go_enter Tryz.func114, Tryz.ntmps114
    go_wp2
    go_ret
    exact ⟨by rw [E.out]; rfl, Below.refl _ _⟩
  · have E : Hid (oldE l = recErr l) := Lib.hid (by unfold oldE; rw [if_neg (by have := Hl.out; omega)])
    have hb0 : ((n : Int) == 0) = false := by simp; omega
    clear h0
    go_enter Tryz.func114, Tryz.ntmps114
    go_wp2_with fail
    refine H.out.mono ?_
    rintro e w' ⟨rfl, hb⟩
    go_wp2
    go_ret
    exact ⟨by rw [E.out]; rfl, hb⟩
set_option maxRecDepth 100000 in
theorem old0_any (r : Value) (l : List TVal) (B : Nat) (w : World) (hr : IsVals w B r l) (hB : B ≤ w.heap.size) : Calls Tryz.prog 79 #[r] w (Tells (oldE l) w) := by
  have Hr := Lib.hid hr
  obtain ⟨A, n, c, rfl, -⟩ := hr
  go_enter Tryz.func79, Tryz.ntmps79
  go_wp2
  go_ret
  refine ⟨_, _, rfl, ⟨_, _, rfl, enters_of Tryz.func114 (by kernel_rfl) rfl, fun w' hb => old1_any _ l B _ w' (Hr.out.belowOf ((below_alloc _ _).trans (hb.mono (by simp))) hB) (by have := hb.size; simp at this; omega) ((hb.cell (by simp)).trans (by simp))⟩, below_alloc _ _⟩

set_option maxRecDepth 100000 in
theorem row1_any (r : Value) (l : List TVal) (B g : Nat) (w : World) (hr : IsVals w B r l) (hB : B ≤ w.heap.size) (hc : w.cell? ⟨g, 0, none⟩ = some r) :
    Calls Tryz.prog 116 #[.pointer (some ⟨g, 0, none⟩)] w fun e w' => e = .returned (.int .i64 (rowErr l : Int)) ∧ Below w.heap.size w w' := by
  obtain ⟨A, n, c, rfl, h1, h2, h3, h4⟩ := hr
  have H := Lib.hid (key_any A n c B l w h3 (by omega) hB h4)
  clear h3 h4
  go_enter Tryz.func116, Tryz.ntmps116
  go_wp2_with fail
  refine H.out.mono ?_
  rintro e w' ⟨rfl, hb⟩
  unfold textErr
  go_wp2
  go_ret
  exact ⟨rfl, hb⟩
set_option maxRecDepth 100000 in
theorem row0_any (r : Value) (l : List TVal) (B : Nat) (w : World) (hr : IsVals w B r l) (hB : B ≤ w.heap.size) : Calls Tryz.prog 82 #[r] w (Tells (rowErr l) w) := by
  have Hr := Lib.hid hr
  obtain ⟨A, n, c, rfl, -⟩ := hr
  go_enter Tryz.func82, Tryz.ntmps82
  go_wp2
  go_ret
  refine ⟨_, _, rfl, ⟨_, _, rfl, enters_of Tryz.func116 (by kernel_rfl) rfl, fun w' hb => row1_any _ l B _ w' (Hr.out.belowOf ((below_alloc _ _).trans (hb.mono (by simp))) hB) (by have := hb.size; simp at this; omega) ((hb.cell (by simp)).trans (by simp))⟩, below_alloc _ _⟩

set_option maxRecDepth 100000 in
theorem fields1_any (r : Value) (l : List Int) (B g : Nat) (w : World) (hr : IsInts w B r l) (hB : B ≤ w.heap.size) (hc : w.cell? ⟨g, 0, none⟩ = some r) :
    Calls Tryz.prog 117 #[.pointer (some ⟨g, 0, none⟩)] w fun e w' => e = .returned (.int .i64 (idxErr 1 l : Int)) ∧ Below w.heap.size w w' := by
  obtain ⟨A, n, c, rfl, h1, h2, h3, h4⟩ := hr
  have H := Lib.hid (checkIndex_any 1 A n c B l w h3 (by omega) hB)
  clear h3 h4
  go_enter Tryz.func117, Tryz.ntmps117
  go_wp2_with fail
  refine H.out.mono ?_
  rintro e w' ⟨rfl, hb⟩
  go_wp2
  go_ret
  exact ⟨rfl, hb⟩
set_option maxRecDepth 100000 in
theorem fields0_any (r : Value) (l : List Int) (B : Nat) (w : World) (hr : IsInts w B r l) (hB : B ≤ w.heap.size) : Calls Tryz.prog 83 #[r] w (Tells (idxErr 1 l) w) := by
  have Hr := Lib.hid hr
  obtain ⟨A, n, c, rfl, -⟩ := hr
  go_enter Tryz.func83, Tryz.ntmps83
  go_wp2
  go_ret
  refine ⟨_, _, rfl, ⟨_, _, rfl, enters_of Tryz.func117 (by kernel_rfl) rfl, fun w' hb => fields1_any _ l B _ w' (Hr.out.belowOf ((below_alloc _ _).trans (hb.mono (by simp))) hB) (by have := hb.size; simp at this; omega) ((hb.cell (by simp)).trans (by simp))⟩, below_alloc _ _⟩

set_option maxRecDepth 100000 in
theorem within1_any (n lo hi : Int) (g0 g1 g2 : Nat) (w : World) (h0 : w.cell? ⟨g0, 0, none⟩ = some (.int .i64 n)) (h1 : w.cell? ⟨g1, 0, none⟩ = some (.int .i64 lo)) (h2 : w.cell? ⟨g2, 0, none⟩ = some (.int .i64 hi)) :
    Calls Tryz.prog 115 #[.pointer (some ⟨g0, 0, none⟩), .pointer (some ⟨g1, 0, none⟩), .pointer (some ⟨g2, 0, none⟩)] w fun e w' => e = .returned (.int .i64 (inE n lo hi : Int)) ∧ Below w.heap.size w w' := by
  by_cases hl : n < lo
  · have E : Hid (inE n lo hi = 1) := Lib.hid (by unfold inE; rw [if_pos (.inl hl)])
    go_enter Tryz.func115, Tryz.ntmps115
    go_wp2
    go_ret
    exact ⟨by rw [E.out]; rfl, Below.refl _ _⟩
  · by_cases hh : hi < n
    · have E : Hid (inE n lo hi = 1) := Lib.hid (by unfold inE; rw [if_pos (.inr hh)])
      go_enter Tryz.func115, Tryz.ntmps115
      go_wp2
      go_ret
      exact ⟨by rw [E.out]; rfl, Below.refl _ _⟩
    · have E : Hid (inE n lo hi = 0) := Lib.hid (by unfold inE; rw [if_neg (by omega)])
      go_enter Tryz.func115, Tryz.ntmps115
      go_wp2
      go_ret
      exact ⟨by rw [E.out]; rfl, Below.refl _ _⟩
set_option maxRecDepth 100000 in
theorem within0_any (n lo hi : Int) (w : World) : Calls Tryz.prog 81 #[.int .i64 n, .int .i64 lo, .int .i64 hi] w (Tells (inE n lo hi) w) := by
  go_enter Tryz.func81, Tryz.ntmps81
  go_wp2
  go_ret
  refine ⟨_, _, rfl, ⟨_, _, rfl, enters_of Tryz.func115 (by kernel_rfl) rfl, fun w' hb => ?_⟩, ((below_alloc _ _).alloc (by simp) _).alloc (by simp; omega) _⟩
  refine within1_any n lo hi w.heap.size (w.heap.size + 1) (w.heap.size + 1 + 1) w' ?_ ?_ ?_
  · refine (hb.cell (by simp; omega)).trans ?_
    exact (((Box.made w 3 #[.int .i64 n]).alloc _).alloc _).cell 0
  · refine (hb.cell (by simp)).trans ?_
    exact ((made_at (g := w.heap.size + 1) (by simp) 3 #[.int .i64 lo]).alloc _).cell 0
  · refine (hb.cell (by simp)).trans ?_
    exact (made_at (g := w.heap.size + 1 + 1) (by simp) 3 #[.int .i64 hi]).cell 0
set_option maxRecDepth 100000 in
theorem size0_any (s : ByteArray) (lo hi : Int) (w : World) : Calls Tryz.prog 80 #[.string s, .int .i64 lo, .int .i64 hi] w (Tells (inE (s.size : Int) lo hi) w) := by
  go_enter Tryz.func80, Tryz.ntmps80
  go_wp2_with fail
  refine (within0_any _ lo hi _).mono ?_
  rintro e w' ⟨g, lb, rfl, ht, hb⟩
  go_wp2
  go_ret
  exact ⟨g, lb, rfl, ht, hb⟩
set_option maxRecDepth 100000 in
theorem arg1_any (w : World) : Calls Tryz.prog 84 #[] w fun e w' => e = .returned (.int .i64 ((1 : Nat) : Int)) ∧ Below w.heap.size w w' := by
  go_enter Tryz.func84, Tryz.ntmps84
  go_wp2
  go_ret
  exact ⟨rfl, Below.refl _ _⟩
theorem arg_told (w : World) : Told w (.func (.func 84) #[] #[]) ((1 : Nat) : Int) :=
  ⟨_, _, rfl, enters_of Tryz.func84 (by kernel_rfl) rfl, fun w' _ => arg1_any w'⟩
end Go.Proofs.YtknfjajmnlpfjaaGreat
