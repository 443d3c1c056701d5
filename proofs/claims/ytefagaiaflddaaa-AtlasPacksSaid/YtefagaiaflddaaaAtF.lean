/- Maps that are answered: what stands in the cell of a result; Start, and the document's. No condition. -/
import Derived.Test.YtefagaiaflddaaaAtE
namespace Go.Proofs.Ytefagaiaflddaaa
open Go.RowKit
open Go.Lib (strCells compareBytes)

theorem set2q {W : World} {g : Nat} {t : TypeId} {x y : Value} (x' y' : Value) (h : Box W g t #[x, y]) : Box ((W.setCell ⟨g, 0, none⟩ x').setCell ⟨g, 1, none⟩ y') g t #[x', y'] := by
  have := (h.set_ 0 x').set_ 1 y'
  simpa using this
/-- a row of parts beside a store -/
theorem OwnPts.far {w : World} {B g i : Nat} {v u : Value} {l : List Pt} (h : OwnPts w B v l) (hne : v.ownBlock ≠ some g) : OwnPts (w.setCell ⟨g, i, none⟩ u) B v l := by
  unfold OwnPts at h ⊢
  refine ⟨h.1, ?_⟩
  rcases h.2 with hn | ⟨g', cap, cur, hv, hB, hg, rest⟩
  · exact .inl hn
  · exact .inr ⟨g', cap, cur, hv, hB, (Below.heap_setCell _ _ _ _ (fun e => hne (by rw [hv]; exact congrArg some e))).trans hg, rest⟩
theorem own_lit1 (w : World) (p : Pt) : OwnPts (w.alloc (.cells #[.string p.lo, .int .i64 p.n] 46)) w.heap.size (.slice (some ⟨w.heap.size, 0, none⟩) 1 1) [p] :=
  ⟨rfl, .inr ⟨w.heap.size, 1, _, rfl, Nat.le_refl _, heap_alloc_new w _, Nat.le_refl _, by simp [maxLen], rfl, rfl⟩⟩
theorem OwnPts.base {w : World} {B B' : Nat} {v : Value} {l : List Pt} (h : OwnPts w B v l) (hB : B' ≤ B) : OwnPts w B' v l := own_baseN h hB
/-- what is answered: a map, and an error -/
def MapPost (r : MapR) (w : World) (e : Ending) (w' : World) : Prop := ∃ v, e = .returned (.tuple #[.agg #[.int .i64 r.1, v], .int .i64 r.2.2]) ∧ OwnPts w' w.heap.size v r.2.1 ∧ Below w.heap.size w w'
theorem MapPost.err {w w' : World} (z : Int) (hb : Below w.heap.size w w') : MapPost (0, [], z) w (.returned (.tuple #[.agg #[.int .i64 0, .slice none 0 0], .int .i64 z])) w' := ⟨_, rfl, OwnPts.nil _ _, hb⟩
def startT (node : Int) : MapR := if 1 ≤ node ∧ node ≤ 4 then (1, [⟨⟨#[]⟩, node⟩], 0) else (0, [], 1)
/-- the result of a call, with its new part, made -/
theorem start_end (w : World) (node : Int) :
    let W3 := (w.alloc (.cells #[.int .i64 1, .slice (some ⟨w.heap.size + 1, 0, none⟩) 1 1] 24)).alloc (.cells #[.string ⟨#[]⟩, .int .i64 node] 46)
    Box W3 w.heap.size 24 #[.int .i64 1, .slice (some ⟨w.heap.size + 1, 0, none⟩) 1 1] ∧ OwnPts W3 w.heap.size (.slice (some ⟨w.heap.size + 1, 0, none⟩) 1 1) [⟨⟨#[]⟩, node⟩] ∧ Below w.heap.size w W3 := by
  intro W3
  have h2 : OwnPts W3 (w.heap.size + 1) (.slice (some ⟨w.heap.size + 1, 0, none⟩) 1 1) [⟨⟨#[]⟩, node⟩] := by
    have := own_lit1 (w.alloc (.cells #[.int .i64 1, .slice (some ⟨w.heap.size + 1, 0, none⟩) 1 1] 24)) ⟨⟨#[]⟩, node⟩
    rw [World.size_alloc] at this
    exact this
  exact ⟨(Box.made w _ _).alloc _, h2.base (Nat.le_succ _), (below_box _).alloc (by simp) _⟩
set_option maxRecDepth 100000 in
theorem start_any (node : Int) (w : World) : Calls Try.prog 15 #[.int .i64 node] w (MapPost (startT node) w) := by
  have Hn := Lib.hid (isNode_any node (w.alloc (.cells #[.int .i64 0, .slice none 0 0] 24)))
  obtain ⟨r, hr⟩ : ∃ r, startT node = r := ⟨_, rfl⟩
  rw [hr]
  by_cases h : 1 ≤ node ∧ node ≤ 4
  · rw [decide_eq_true h] at Hn
    obtain rfl : r = (1, [⟨⟨#[]⟩, node⟩], 0) := by rw [← hr]; exact if_pos h
    clear hr h
    obtain ⟨h1, h2, h3⟩ := start_end w node
    have HE := Lib.hid (And.intro h2 h3)
    clear h1 h2 h3
    go_enter Try.func15, Try.ntmps15
    go_wp2_with fail
    refine Hn.out.mono ?_
    rintro e w1 ⟨rfl, rfl⟩
    go_wp2
    refine bodyPost_ret (v := .tuple #[.agg #[.int .i64 1, .slice (some ⟨w.heap.size + 1, 0, none⟩) 1 1], .int .i64 0]) ?_ rfl ⟨_, rfl, HE.out.1, HE.out.2⟩
    simp [results, Try.results15, go_sem]
  · rw [decide_eq_false h] at Hn
    obtain rfl : r = (0, [], 1) := by rw [← hr]; exact if_neg h
    have HB := Lib.hid (below_box (w := w) (Obj.cells #[.int .i64 0, .slice none 0 0] 24))
    clear hr h
    go_enter Try.func15, Try.ntmps15
    go_wp2_with fail
    refine Hn.out.mono ?_
    rintro e w1 ⟨rfl, rfl⟩
    go_wp2
    refine bodyPost_ret (v := .tuple #[.agg #[.int .i64 0, .slice none 0 0], .int .i64 1]) ?_ rfl (MapPost.err 1 HB.out)
    simp [results, Try.results15, go_sem]
set_option maxRecDepth 100000 in
theorem refStart_any (node : Int) (w : World) : Calls Try.prog 16 #[.int .i64 node] w (MapPost (startT node) w) := by
  obtain ⟨r, hr⟩ : ∃ r, startT node = r := ⟨_, rfl⟩
  rw [hr]
  by_cases h : 1 ≤ node ∧ node ≤ 4
  · have hn1 : ¬ node < 1 := by omega
    obtain rfl : r = (1, [⟨⟨#[]⟩, node⟩], 0) := by rw [← hr]; exact if_pos h
    have hn4 : ¬ 4 < node := by omega
    clear hr h
    obtain ⟨h1, h2, h3⟩ := start_end w node
    have HE := Lib.hid (And.intro h2 h3)
    clear h1 h2 h3
    go_enter Try.func16, Try.ntmps16
    go_wp2
    refine bodyPost_ret (v := .tuple #[.agg #[.int .i64 1, .slice (some ⟨w.heap.size + 1, 0, none⟩) 1 1], .int .i64 0]) ?_ rfl ⟨_, rfl, HE.out.1, HE.out.2⟩
    simp [results, Try.results16, go_sem]
  · by_cases hn1 : node < 1
    · obtain rfl : r = (0, [], 1) := by rw [← hr]; exact if_neg h
      have HB := Lib.hid (below_box (w := w) (Obj.cells #[.int .i64 0, .slice none 0 0] 24))
      clear hr h
      go_enter Try.func16, Try.ntmps16
      go_wp2
      refine bodyPost_ret (v := .tuple #[.agg #[.int .i64 0, .slice none 0 0], .int .i64 1]) ?_ rfl (MapPost.err 1 HB.out)
      simp [results, Try.results16, go_sem]
    · have hn4 : 4 < node := by omega
      obtain rfl : r = (0, [], 1) := by rw [← hr]; exact if_neg h
      have HB := Lib.hid (below_box (w := w) (Obj.cells #[.int .i64 0, .slice none 0 0] 24))
      clear hr h
      go_enter Try.func16, Try.ntmps16
      go_wp2
      refine bodyPost_ret (v := .tuple #[.agg #[.int .i64 0, .slice none 0 0], .int .i64 1]) ?_ rfl (MapPost.err 1 HB.out)
      simp [results, Try.results16, go_sem]
end Go.Proofs.Ytefagaiaflddaaa
