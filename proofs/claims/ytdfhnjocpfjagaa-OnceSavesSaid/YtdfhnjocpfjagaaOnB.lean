/- Package once: a copy of an answer; New. Condition: the answer's record is in memory. -/
import Derived.Test.YtdfhnjocpfjagaaOnA
import Derived.Test.YtdfhnjocpfjagaaClone
namespace Go.Proofs.Ytdfhnjocpfjagaa
open Go.RowKit
open Go.Lib (strCells)

/-- a reply stored in a box: five stores -/
theorem store5 {w W : World} {g : Nat} {t : TypeId} {y0 y1 y2 y3 y4 x0 x1 x2 x3 x4 : Value} (h : Box w g t #[y0, y1, y2, y3, y4]) (hW : (((((w.setCell ⟨g, 0, none⟩ x0).setCell ⟨g, 1, none⟩ x1).setCell ⟨g, 2, none⟩ x2).setCell ⟨g, 3, none⟩ x3).setCell ⟨g, 4, none⟩ x4) = W) :
    Box W g t #[x0, x1, x2, x3, x4] ∧ w.grownBy W (some g) ∧ W.heap.size = w.heap.size := by
  subst hW
  have b0 : Box _ g t #[x0, y1, y2, y3, y4] := h.set_ 0 x0
  have b1 : Box _ g t #[x0, x1, y2, y3, y4] := b0.set_ 1 x1
  have b2 : Box _ g t #[x0, x1, x2, y3, y4] := b1.set_ 2 x2
  have b3 : Box _ g t #[x0, x1, x2, x3, y4] := b2.set_ 3 x3
  have b4 : Box _ g t #[x0, x1, x2, x3, x4] := b3.set_ 4 x4
  have gr : ∀ (w : World) (i : Nat) (u : Value), w.grownBy (w.setCell ⟨g, i, none⟩ u) (some g) := fun w i u =>
    ⟨rfl, rfl, rfl, by simp, fun k _ hne => Below.heap_setCell w ⟨g, i, none⟩ u k (fun e => hne (by rw [e]))⟩
  have tr : ∀ {a b c : World}, a.grownBy b (some g) → b.grownBy c (some g) → a.grownBy c (some g) := fun h1 h2 =>
    ⟨h2.os.trans h1.os, h2.tape.trans h1.tape, h2.output.trans h1.output, Nat.le_trans h1.size h2.size, fun k hk hne => (h2.block k (Nat.lt_of_lt_of_le hk h1.size) hne).trans (h1.block k hk hne)⟩
  exact ⟨b4, tr (tr (tr (tr (gr _ 0 x0) (gr _ 1 x1)) (gr _ 2 x2)) (gr _ 3 x3)) (gr _ 4 x4), by simp⟩
theorem grown_set (w : World) (g i : Nat) (u : Value) : w.grownBy (w.setCell ⟨g, i, none⟩ u) (some g) :=
  ⟨rfl, rfl, rfl, by simp, fun k _ hne => Below.heap_setCell w ⟨g, i, none⟩ u k (fun e => hne (by rw [e]))⟩
set_option maxRecDepth 100000 in
theorem onceNew_any (w : World) : Calls Try.prog 49 #[] w fun e w' => ∃ sb, e = .returned (.pointer (some ⟨sb, 0, none⟩)) ∧ TabAt w' (addF (fun _ => False) w w') sb [] ∧ Below w.heap.size w w' := by
  obtain ⟨w1, hw1⟩ : ∃ w1, (w.alloc (.map #[] 0)).alloc (.cells #[.map (some w.heap.size)] 125) = w1 := ⟨_, rfl⟩
  have hsz : w1.heap.size = w.heap.size + 1 + 1 := by rw [← hw1]; simp
  have hbox : Box w1 (w.heap.size + 1) 125 #[.map (some w.heap.size)] := by
    have := Box.made (w.alloc (.map #[] 0)) 125 #[.map (some w.heap.size)]
    rw [World.size_alloc, hw1] at this
    exact this
  have hown : w1.ownsMap Try.prog 3 Rn w.heap.size 0 (gmap PV.v []) := hw1 ▸ (World.ownsMap_made w Try.prog 3 Rn).alloc _
  have H : Hid (TabAt w1 (addF (fun _ => False) w w1) (w.heap.size + 1) []) := Lib.hid ⟨_, [], ⟨.inr (by omega), .inr (by omega), fun i hi => hi.elim False.elim (fun hi => hi.2), hbox, hown, List.Pairwise.nil, (fun k p hp => by cases hp), (fun k p k' p' hp => by cases hp), (fun k p hp => by cases hp)⟩, rfl⟩
  have HB : Hid (Below w.heap.size w w1) := Lib.hid (hw1 ▸ ((Below.refl _ w).alloc (Nat.le_refl _) _).alloc (by simp) _)
  clear hbox hown hsz
  have hmk := run_makeMap (P := Try.prog) 123 w
  go_enter Try.func49, Try.ntmps49
  go_wp2
  go_ret
  exact ⟨_, rfl, H.out, HB.out⟩

/-- what is known while a record is copied: the new reply's box q, k values of it -/
structure CopR (w : World) (r : Rp) (k : Nat) (v : Value) (wr : World) : Prop where
  box : Box wr (w.heap.size + 2) 82 #[.int .i64 r.code, .bool r.there, v, .slice none 0 0, .int .i64 r.id]
  row : OwnVals wr (w.heap.size + 3) v (r.rc.take k)
  res : Box wr (w.heap.size + 1) 82 #[.int .i64 0, .bool false, .slice none 0 0, .slice none 0 0, .int .i64 0]
  below : Below w.heap.size w wr
theorem cop_next {w w6 w7 : World} {code id : Int} {there : Bool} {rc : List TVal} {k c5 : Nat} {A5 : Option Addr} {v7 : Value} {u : TVal} {cs : Array Value} {t : TypeId} (bq : Box w6 (w.heap.size + 2) 82 #[.int .i64 code, .bool there, .slice A5 k c5, .slice none 0 0, .int .i64 id])
    (br : Box w6 (w.heap.size + 1) 82 #[.int .i64 0, .bool false, .slice none 0 0, .slice none 0 0, .int .i64 0]) (bw : Below w.heap.size w w6) (hown : w6.ownsRow (w.heap.size + 3) 47 3 (.slice A5 k c5) k (valCells (rc.take k)))
    (g7 : (w6.alloc (.cells cs t)).grownBy w7 (Value.slice A5 k c5).ownBlock) (o7 : w7.ownsRow (w.heap.size + 3) 47 3 v7 (k + 1) (valCells (rc.take k) ++ valCells [u])) (hT : rc.take (k + 1) = rc.take k ++ [u]) (hkl : (rc.take k).length = k) :
    Box w7 (w.heap.size + 2) 82 #[.int .i64 code, .bool there, .slice A5 k c5, .slice none 0 0, .int .i64 id] ∧ CopR w ⟨code, there, rc, id⟩ (k + 1) v7 (w7.setCell ⟨w.heap.size + 2, 2, none⟩ v7) := by
  have hg7 : ∀ g, (Value.slice A5 k c5).ownBlock = some g → w.heap.size + 3 ≤ g := fun g hg => (hown.lt g hg).1
  have bq7 := (bq.alloc (.cells cs t)).grown g7 (fun e => by have := hg7 _ e.symm; omega)
  have br7 := (br.alloc (.cells cs t)).grown g7 (fun e => by have := hg7 _ e.symm; omega)
  have bw7 := (bw.alloc bw.size (.cells cs t)).grown g7 (le_alloc bw.size _) (fun g hg => by have := hg7 g hg; omega)
  have ne7 : ∀ g, v7.ownBlock = some g → g ≠ w.heap.size + 2 := fun g hg => by have := (World.ownsRow.lt o7 g hg).1; omega
  refine ⟨bq7, bq7.set_ 2 v7, ?_, br7.far (by show w.heap.size + 1 ≠ w.heap.size + 2; omega) _, bw7.setCell (by show w.heap.size ≤ w.heap.size + 2; omega) _⟩
  unfold OwnVals
  simp only
  rw [hT, List.length_append, hkl, valCells_app]
  exact ownL_keep o7 fun g hg => Below.heap_setCell w7 ⟨w.heap.size + 2, 2, none⟩ v7 g (ne7 g hg)
set_option maxRecDepth 100000 in
set_option maxHeartbeats 3200000 in
theorem copied_any (r : Rp) (A : Option Addr) (n c m : Nat) (X : Option Addr) (d B : Nat) (w : World) (h : HasVals w B A n r.rc) (hB : B ≤ w.heap.size) (hn : n ≤ 100000) (hs : ∀ v ∈ r.rc, v.s.size ≤ 140737488355328) :
    Calls Try.prog 87 #[.agg #[.int .i64 r.code, .bool r.there, .slice A n c, .slice X m d, .int .i64 r.id]] w fun e w' => ∃ A' c', e = .returned (.agg #[.int .i64 r.code, .bool r.there, .slice A' r.rc.length c', .slice none 0 0, .int .i64 r.id]) ∧ OwnVals w' w.heap.size (.slice A' r.rc.length c') r.rc ∧ Below w.heap.size w w' := by
  obtain ⟨code, there, rc, id⟩ := r
  simp only at h hs
  obtain ⟨w1, hw1⟩ : ∃ w1, (w.alloc (.cells #[.int .i64 code, .bool there, .slice A n c, .slice X m d, .int .i64 id] 82)).alloc (.cells #[.int .i64 0, .bool false, .slice none 0 0, .slice none 0 0, .int .i64 0] 82) = w1 := ⟨_, rfl⟩
  have z1 : w1.heap.size = w.heap.size + 1 + 1 := by rw [← hw1]; simp
  have x1 : Box w1 w.heap.size 82 #[.int .i64 code, .bool there, .slice A n c, .slice X m d, .int .i64 id] := hw1 ▸ (Box.made _ _ _).alloc _
  have y1 : Box w1 (w.heap.size + 1) 82 #[.int .i64 0, .bool false, .slice none 0 0, .slice none 0 0, .int .i64 0] := by
    have := Box.made (w.alloc (.cells #[.int .i64 code, .bool there, .slice A n c, .slice X m d, .int .i64 id] 82)) 82 #[.int .i64 0, .bool false, .slice none 0 0, .slice none 0 0, .int .i64 0]
    rwa [World.size_alloc, hw1] at this
  have b1 : Below w.heap.size w w1 := hw1 ▸ (below_box _).alloc (by simp) _
  obtain ⟨w2, hw2⟩ : ∃ w2, w1.alloc (.cells #[.int .i64 0, .bool false, .slice none 0 0, .slice none 0 0, .int .i64 0] 82) = w2 := ⟨_, rfl⟩
  have q2 : Box w2 (w.heap.size + 2) 82 #[.int .i64 0, .bool false, .slice none 0 0, .slice none 0 0, .int .i64 0] := by
    have := Box.made w1 82 #[.int .i64 0, .bool false, .slice none 0 0, .slice none 0 0, .int .i64 0]
    rw [hw2, z1] at this
    exact this
  have b2 : Below w.heap.size w w2 := hw2 ▸ b1.alloc (by omega) _
  obtain ⟨w3, hw3⟩ : ∃ w3, (((((w2.setCell ⟨w.heap.size + 2, 0, none⟩ (.int .i64 code)).setCell ⟨w.heap.size + 2, 1, none⟩ (.bool there)).setCell ⟨w.heap.size + 2, 2, none⟩ (.slice none 0 0)).setCell ⟨w.heap.size + 2, 3, none⟩ (.slice none 0 0)).setCell ⟨w.heap.size + 2, 4, none⟩ (.int .i64 id)) = w3 := ⟨_, rfl⟩
  obtain ⟨q3, g3, s3⟩ := store5 q2 hw3
  have s2 : w2.heap.size = w.heap.size + 3 := by rw [← hw2]; simp [z1]
  have b3 : Below w.heap.size w w3 := b2.grown g3 b2.size (fun g hg => by injection hg with hg; omega)
  have y3 : Box w3 (w.heap.size + 1) 82 #[.int .i64 0, .bool false, .slice none 0 0, .slice none 0 0, .int .i64 0] := (hw2 ▸ y1.alloc _ : Box w2 _ _ _).grown g3 (fun e => by injection e with e; omega)
  have x3 : Box w3 w.heap.size 82 #[.int .i64 code, .bool there, .slice A n c, .slice X m d, .int .i64 id] := (hw2 ▸ x1.alloc _ : Box w2 _ _ _).grown g3 (fun e => by injection e with e; omega)
  have HC : Hid (CopR w ⟨code, there, rc, id⟩ 0 (.slice none 0 0) w3) := Lib.hid ⟨q3, OwnVals.nil _ _, y3, b3⟩
  have Hsrc := Lib.hid h
  have Hl := Lib.hid h.1
  have Hs := Lib.hid hs
  have p0 : w1.cell? ⟨w.heap.size, 0, none⟩ = some (.int .i64 code) := x1.cell 0
  have p1 : w1.cell? ⟨w.heap.size, 1, none⟩ = some (.bool there) := x1.cell 1
  have p4 : w1.cell? ⟨w.heap.size, 4, none⟩ = some (.int .i64 id) := x1.cell 4
  have p2 : w3.cell? ⟨w.heap.size, 2, none⟩ = some (.slice A n c) := x3.cell 2
  have k0 : w2.cell? ⟨w.heap.size + 2, 0, none⟩ = some (.int .i64 0) := q2.cell 0
  have k1 : w2.cell? ⟨w.heap.size + 2, 1, none⟩ = some (.bool false) := q2.cell 1
  have k2 : w2.cell? ⟨w.heap.size + 2, 2, none⟩ = some (.slice none 0 0) := q2.cell 2
  have k3 : w2.cell? ⟨w.heap.size + 2, 3, none⟩ = some (.slice none 0 0) := q2.cell 3
  have k4 : w2.cell? ⟨w.heap.size + 2, 4, none⟩ = some (.int .i64 0) := q2.cell 4
  have f0 : w2.frozen? ⟨w.heap.size + 2, 0, none⟩ = false := q2.frozen 0
  have f1 : w2.frozen? ⟨w.heap.size + 2, 1, none⟩ = false := q2.frozen 1
  have f2 : w2.frozen? ⟨w.heap.size + 2, 2, none⟩ = false := q2.frozen 2
  have f3 : w2.frozen? ⟨w.heap.size + 2, 3, none⟩ = false := q2.frozen 3
  have f4 : w2.frozen? ⟨w.heap.size + 2, 4, none⟩ = false := q2.frozen 4
  clear h hs x1 y1 b1 q2 b2 q3 g3 s3 s2 b3 y3 x3
  go_enter Try.func87, Try.ntmps87
  go_wp2
  go_loopw [16] (fun i wr => ∃ (k : Nat) (v : Value), k ≤ n ∧ i = .int .i64 (k : Int) ∧ Hid (CopR w ⟨code, there, rc, id⟩ k v wr)) (fun i _ => n - (intOf i).toNat)
  case atStart => exact ⟨0, _, by omega, rfl, HC⟩
  case round =>
    obtain ⟨k, v, hk, rfl, HR⟩ := hrel
    clear p0 p1 p2 p4 k0 k1 k2 k3 k4 f0 f1 f2 f3 f4 hw1 hw2 hw3 HC z1
    have hsz := HR.out.below.size
    have hq : w.heap.size + 2 < wr.heap.size := HR.out.box.lt
    by_cases hlt : k < n
    · obtain ⟨a, ⟨uk, un, us⟩, rfl, _, hu, c0, c1, c2⟩ := (Hsrc.out.belowOf HR.out.below hB).at_ hlt
      simp only at c0 c1 c2
      obtain ⟨A5, c5, rfl, hl5, -, -⟩ := own_sliceN HR.out.row
      have hkl : (rc.take k).length = k := by rw [List.length_take]; have := Hl.out; omega
      rw [hkl] at hl5 HR
      have HT : Hid (rc.take (k + 1) = rc.take k ++ [⟨uk, un, us⟩]) := Lib.hid (by rw [List.take_add_one, hu]; rfl)
      have hus : us.size ≤ 140737488355328 := Hs.out _ (List.mem_of_getElem? hu)
      obtain ⟨wz, hwz⟩ : ∃ wz, wr.alloc (.cells #[.int .i64 0, .int .i64 0, .string ⟨#[]⟩] 47) = wz := ⟨_, rfl⟩
      have hzb : Box wz wr.heap.size 47 #[.int .i64 0, .int .i64 0, .string ⟨#[]⟩] := hwz ▸ Box.made _ _ _
      have hzw : Below wr.heap.size wr wz := hwz ▸ below_box _
      obtain ⟨w4, hw4⟩ : ∃ w4, ((wz.setCell ⟨wr.heap.size, 0, none⟩ (.int .i64 uk)).setCell ⟨wr.heap.size, 1, none⟩ (.int .i64 un)).setCell ⟨wr.heap.size, 2, none⟩ (.string us) = w4 := ⟨_, rfl⟩
      have hb4 : Box w4 wr.heap.size 47 #[.int .i64 uk, .int .i64 un, .string us] := hw4 ▸ ((hzb.set_ 0 (.int .i64 uk)).set_ 1 (.int .i64 un)).set_ 2 (.string us)
      have hbw4 : Below wr.heap.size wr w4 := hw4 ▸ ((hzw.setCell (Nat.le_refl _) _).setCell (Nat.le_refl _) _).setCell (Nat.le_refl _) _
      have e0 : wz.cell? ⟨wr.heap.size, 0, none⟩ = some (.int .i64 0) := hzb.cell 0
      have e1 : wz.cell? ⟨wr.heap.size, 1, none⟩ = some (.int .i64 0) := hzb.cell 1
      have e2 : wz.cell? ⟨wr.heap.size, 2, none⟩ = some (.string ⟨#[]⟩) := hzb.cell 2
      have r0 : wz.frozen? ⟨wr.heap.size, 0, none⟩ = false := hzb.frozen 0
      have r1 : wz.frozen? ⟨wr.heap.size, 1, none⟩ = false := hzb.frozen 1
      have r2 : wz.frozen? ⟨wr.heap.size, 2, none⟩ = false := hzb.frozen 2
      have v2 : w4.cell? ⟨wr.heap.size, 2, none⟩ = some (.string us) := hb4.cell 2
      have hk0 : (0 : Int) ≤ (k : Int) := by omega
      have hk1 : (k : Int) < (n : Int) := by omega
      have Hb4 := Lib.hid (And.intro hb4 hbw4)
      clear hu hzb hzw hb4 hbw4 hl5
      go_wp2_with fail
      refine (clone_any us w4 hus).mono ?_
      rintro e w5 ⟨rfl, hb5⟩
      have bx5 : Box w5 wr.heap.size 47 #[.int .i64 uk, .int .i64 un, .string us] := Hb4.out.1.below hb5 Hb4.out.1.lt
      have bw5 : Below wr.heap.size wr w5 := Hb4.out.2.trans (hb5.mono Hb4.out.2.size)
      have s2 : w5.cell? ⟨wr.heap.size, 2, none⟩ = some (.string us) := bx5.cell 2
      have t2 : w5.frozen? ⟨wr.heap.size, 2, none⟩ = false := bx5.frozen 2
      obtain ⟨w6, hw6⟩ : ∃ w6, w5.setCell ⟨wr.heap.size, 2, none⟩ (.string us) = w6 := ⟨_, rfl⟩
      have bx6 : Box w6 wr.heap.size 47 #[.int .i64 uk, .int .i64 un, .string us] := hw6 ▸ bx5.set_ 2 (.string us)
      have bw6 : Below wr.heap.size wr w6 := hw6 ▸ bw5.setCell (Nat.le_refl _) _
      have m0 : w6.cell? ⟨wr.heap.size, 0, none⟩ = some (.int .i64 uk) := bx6.cell 0
      have m1 : w6.cell? ⟨wr.heap.size, 1, none⟩ = some (.int .i64 un) := bx6.cell 1
      have m2 : w6.cell? ⟨wr.heap.size, 2, none⟩ = some (.string us) := bx6.cell 2
      have bq6 := HR.out.box.below bw6 hq
      have n2 : w6.cell? ⟨w.heap.size + 2, 2, none⟩ = some (.slice A5 k c5) := bq6.cell 2
      have hB6 : w.heap.size + 3 ≤ w6.heap.size := by have := bw6.size; omega
      have Hown6 := Lib.hid (own_belowN HR.out.row bw6)
      have H6 := Lib.hid (And.intro bq6 (And.intro (HR.out.res.below bw6 (by omega)) (HR.out.below.trans (bw6.mono hsz))))
      rw [hkl] at Hown6
      clear hb5 bx5 bw5 bx6 bw6 bq6 Hb4
      go_wp2_with (at_builtin; go_loud (refine wpList_append_hasN rfl (.tmp 25) (.tmp 27) _ rfl 47 val_elem (by omega) Try.underlying79 rfl (Hown6.out.alloc _) rfl (vals_lit w6 uk un us) (valCells_one _) (by simp only [maxLen]; omega) (by omega) (le_alloc hB6 _) ?_; intro v7 w7 o7 g7 z7; obtain ⟨A7, c7, rfl, -, -, -⟩ := own_sliceN o7; obtain ⟨bq7, hE⟩ := cop_next H6.out.1 H6.out.2.1 H6.out.2.2 Hown6.out g7 o7 HT.out hkl; have y7 : w7.cell? ⟨w.heap.size + 2, 2, none⟩ = some (.slice A5 k c5) := bq7.cell 2; have f7 : w7.frozen? ⟨w.heap.size + 2, 2, none⟩ = false := bq7.frozen 2; have HE := Lib.hid hE; clear bq7 hE g7 z7 o7))
      go_roundw
      case rel => exact ⟨k + 1, _, by omega, by go_num, HE⟩
      case measure => simp [intOf]; omega
    · have hkn : k = n := by omega
      subst hkn
      obtain ⟨A5, c5, rfl, -, -, -⟩ := own_sliceN HR.out.row
      have hkl : rc.take k = rc := List.take_of_length_le (by have := Hl.out; omega)
      have hlk : (rc.take k).length = k := by rw [hkl]; exact Hl.out
      rw [hlk] at HR
      obtain ⟨bq, hrow, br, bw⟩ := HR.out
      have t0 : wr.cell? ⟨w.heap.size + 2, 0, none⟩ = some (.int .i64 code) := bq.cell 0
      have t1 : wr.cell? ⟨w.heap.size + 2, 1, none⟩ = some (.bool there) := bq.cell 1
      have t2 : wr.cell? ⟨w.heap.size + 2, 2, none⟩ = some (.slice A5 k c5) := bq.cell 2
      have t3 : wr.cell? ⟨w.heap.size + 2, 3, none⟩ = some (.slice none 0 0) := bq.cell 3
      have t4 : wr.cell? ⟨w.heap.size + 2, 4, none⟩ = some (.int .i64 id) := bq.cell 4
      have d0 : wr.cell? ⟨w.heap.size + 1, 0, none⟩ = some (.int .i64 0) := br.cell 0
      have d1 : wr.cell? ⟨w.heap.size + 1, 1, none⟩ = some (.bool false) := br.cell 1
      have d2 : wr.cell? ⟨w.heap.size + 1, 2, none⟩ = some (.slice none 0 0) := br.cell 2
      have d3 : wr.cell? ⟨w.heap.size + 1, 3, none⟩ = some (.slice none 0 0) := br.cell 3
      have d4 : wr.cell? ⟨w.heap.size + 1, 4, none⟩ = some (.int .i64 0) := br.cell 4
      have e0 : wr.frozen? ⟨w.heap.size + 1, 0, none⟩ = false := br.frozen 0
      have e1 : wr.frozen? ⟨w.heap.size + 1, 1, none⟩ = false := br.frozen 1
      have e2 : wr.frozen? ⟨w.heap.size + 1, 2, none⟩ = false := br.frozen 2
      have e3 : wr.frozen? ⟨w.heap.size + 1, 3, none⟩ = false := br.frozen 3
      have e4 : wr.frozen? ⟨w.heap.size + 1, 4, none⟩ = false := br.frozen 4
      obtain ⟨W, hW⟩ : ∃ W, (((((wr.setCell ⟨w.heap.size + 1, 0, none⟩ (.int .i64 code)).setCell ⟨w.heap.size + 1, 1, none⟩ (.bool there)).setCell ⟨w.heap.size + 1, 2, none⟩ (.slice A5 k c5)).setCell ⟨w.heap.size + 1, 3, none⟩ (.slice none 0 0)).setCell ⟨w.heap.size + 1, 4, none⟩ (.int .i64 id)) = W := ⟨_, rfl⟩
      obtain ⟨bW, gW, -⟩ := store5 br hW
      have hrow' : OwnVals wr (w.heap.size + 3) (.slice A5 k c5) rc := by rw [hkl] at hrow; exact hrow
      have hrw : OwnVals W w.heap.size (.slice A5 k c5) rc := own_baseN (ownL_keep hrow' fun g hg => gW.block g (World.ownsRow.lt hrow' g hg).2 (fun e => by injection e with e; have := (World.ownsRow.lt hrow' g hg).1; omega)) (by omega)
      have g0 : W.cell? ⟨w.heap.size + 1, 0, none⟩ = some (.int .i64 code) := bW.cell 0
      have g1 : W.cell? ⟨w.heap.size + 1, 1, none⟩ = some (.bool there) := bW.cell 1
      have g2 : W.cell? ⟨w.heap.size + 1, 2, none⟩ = some (.slice A5 k c5) := bW.cell 2
      have g3 : W.cell? ⟨w.heap.size + 1, 3, none⟩ = some (.slice none 0 0) := bW.cell 3
      have g4 : W.cell? ⟨w.heap.size + 1, 4, none⟩ = some (.int .i64 id) := bW.cell 4
      have HE := Lib.hid (And.intro hrw (bw.grown gW bw.size (fun g hg => by injection hg with hg; omega)))
      clear bq hrow br bw bW gW hrow' hrw hkl hlk
      go_wp2
      refine bodyPost_ret (v := .agg #[.int .i64 code, .bool there, .slice A5 k c5, .slice none 0 0, .int .i64 id]) ?_ rfl ⟨A5, c5, ?_, ?_, HE.out.2⟩
      · simp [results, Try.results87, go_sem, g0, g1, g2, g3, g4]
      · rw [Hl.out]
      · rw [Hl.out]; exact HE.out.1
end Go.Proofs.Ytdfhnjocpfjagaa
