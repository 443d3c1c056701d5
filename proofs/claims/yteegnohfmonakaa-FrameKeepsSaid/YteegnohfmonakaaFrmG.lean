/- The document's First of layer 6 gives what the plain text (SpecFrame) gives. Condition: the bytes are in memory. -/
import Derived.Test.YteegnohfmonakaaFrmF
import Derived.Test.YteegnohfmonakaaConv
import Derived.WalkKit
namespace Go.Proofs.Yteegnohfmonakaa
open Go.RowKit
open Go.Lib (strCells)

/-- what the document's First answers of the bytes l -/
def RefFirst (l : List UInt8) (w : World) (e : Ending) (w' : World) : Prop :=
  Below w.heap.size w w' ∧
  ((firstErr l ≠ 0 ∧ e = .returned (.agg #[.slice none 0 0, .int .i64 0, .int .i64 (firstErr l : Int)])) ∨
  (firstErr l = 0 ∧ ∃ v, e = .returned (.agg #[v, .int .i64 (8 + (sizeAt l : Int)), .int .i64 0]) ∧ w'.ownsRow w.heap.size 5 1 v (sizeAt l) (byteCells (payAt l))))
theorem below_drews {B : Nat} {a w : World} (h : Below B a w) (n : Nat) : Below B a (w.drewN n) := ⟨h.os, h.tape, h.output, h.size, h.block⟩
theorem Box.drewN {W : World} {g : Nat} {t : TypeId} {cs : Array Value} (h : Box W g t cs) (n : Nat) : Box (W.drewN n) g t cs := h
theorem box_cells {W : World} {g : Nat} {t : TypeId} {x y z : Value} (h : Box W g t #[x, y, z]) : W.cell? ⟨g, 0, none⟩ = some x ∧ W.cell? ⟨g, 1, none⟩ = some y ∧ W.cell? ⟨g, 2, none⟩ = some z ∧
    W.frozen? ⟨g, 0, none⟩ = false ∧ W.frozen? ⟨g, 1, none⟩ = false ∧ W.frozen? ⟨g, 2, none⟩ = false := ⟨h.cell 0, h.cell 1, h.cell 2, h.frozen 0, h.frozen 1, h.frozen 2⟩
theorem got_set {W : World} {g : Nat} {t : TypeId} {x y z : Value} (x' y' z' : Value) (h : Box W g t #[x, y, z]) : Box (((W.setCell ⟨g, 0, none⟩ x').setCell ⟨g, 1, none⟩ y').setCell ⟨g, 2, none⟩ z') g t #[x', y', z'] := by
  have := ((h.set_ 0 x').set_ 1 y').set_ 2 z'
  simpa using this
theorem below_set3 {W w : World} {B g : Nat} (x' y' z' : Value) (h : Below B w W) (hg : B ≤ g) : Below B w (((W.setCell ⟨g, 0, none⟩ x').setCell ⟨g, 1, none⟩ y').setCell ⟨g, 2, none⟩ z') := ((h.setCell hg _).setCell hg _).setCell hg _
theorem own_row0 {W : World} {B S c : Nat} {e : TypeId} {A : Option Addr} {xs : List Value} (h : W.ownsRow B e 1 (.slice A (0 + S) c) (0 + S) ([] ++ xs)) : W.ownsRow B e 1 (.slice A S c) S xs := by
  rwa [Nat.zero_add, List.nil_append] at h
theorem own_far3 {W : World} {B g m m' : Nat} {t e : TypeId} {cs : Array Value} {v : Value} {xs : List Value} {x' y' z' : Value} (h : W.ownsRow B e 1 v m xs) (hb : Box W g t cs) (hm : m = m') (hne : t ≠ e) :
    (((W.setCell ⟨g, 0, none⟩ x').setCell ⟨g, 1, none⟩ y').setCell ⟨g, 2, none⟩ z').ownsRow B e 1 v m' xs := by
  subst hm
  refine own_keep1 h fun k hk => ?_
  obtain ⟨cur, hc⟩ := own_type1 h hk
  have hne' : k ≠ g := fun e' => by
    subst e'
    unfold Box at hb
    rw [hb] at hc
    injection hc with hc
    injection hc with _ ht _
    exact hne ht
  rw [Below.heap_setCell _ _ _ _ hne', Below.heap_setCell _ _ _ _ hne', Below.heap_setCell _ _ _ _ hne']
theorem refFirst_err {l : List UInt8} {w w' : World} {k : Nat} (h : firstErr l = k) (hk : k ≠ 0) (hb : Below w.heap.size w w') : RefFirst l w (.returned (.agg #[.slice none 0 0, .int .i64 0, .int .i64 (k : Int)])) w' :=
  ⟨hb, .inl ⟨by rw [h]; exact hk, by rw [h]⟩⟩
theorem refFirst_ok {l : List UInt8} {w w' : World} {S : Nat} {v : Value} (h : firstErr l = 0) (hS : sizeAt l = S) (hv : w'.ownsRow w.heap.size 5 1 v S (byteCells (payAt l))) (hb : Below w.heap.size w w') :
    RefFirst l w (.returned (.agg #[v, .int .i64 (8 + (S : Int)), .int .i64 0])) w' := ⟨hb, .inr ⟨h, v, by rw [hS], by rw [hS]; exact hv⟩⟩
/-- the first four bytes -/
theorem size_bytes {l : List UInt8} (h : 4 ≤ l.length) : sizeAt l = (l[0]?.getD 0).toNat * 16777216 + (l[1]?.getD 0).toNat * 65536 + (l[2]?.getD 0).toNat * 256 + (l[3]?.getD 0).toNat := by
  unfold sizeAt
  match l, h with
  | a :: b :: c :: d :: r, _ =>
    simp [sumNum]
    omega
theorem four_bytes {w : World} {B n : Nat} {A : Option Addr} {l : List UInt8} (h : HasBytes w B A n l) (hn : 4 ≤ n) : ∃ a, A = some a ∧ w.cell? a = some (.int .u8 ((l[0]?.getD 0).toNat : Int)) ∧
    w.cell? ⟨a.block, a.off + 1, none⟩ = some (.int .u8 ((l[1]?.getD 0).toNat : Int)) ∧ w.cell? ⟨a.block, a.off + 2, none⟩ = some (.int .u8 ((l[2]?.getD 0).toNat : Int)) ∧ w.cell? ⟨a.block, a.off + 3, none⟩ = some (.int .u8 ((l[3]?.getD 0).toNat : Int)) := by
  have ad0 : ∀ a : Addr, a.add 0 = a := fun a => by simp [Addr.add]
  have ad : ∀ (a : Addr) (k : Nat), 0 < k → a.add k = ⟨a.block, a.off + k, none⟩ := fun a k hk => by unfold Addr.add; rw [if_neg (by omega)]
  obtain ⟨a, rfl, _, h0⟩ := h.byte (k := 0) (by omega)
  obtain ⟨a1, e1, _, h1⟩ := h.byte (k := 1) (by omega)
  obtain ⟨a2, e2, _, h2⟩ := h.byte (k := 2) (by omega)
  obtain ⟨a3, e3, _, h3⟩ := h.byte (k := 3) (by omega)
  injection e1 with e1
  injection e2 with e2
  injection e3 with e3
  subst e1; subst e2; subst e3
  rw [ad0] at h0
  rw [ad _ _ (by omega)] at h1 h2 h3
  exact ⟨a, rfl, h0, h1, h2, h3⟩

set_option maxHeartbeats 3200000 in
theorem refFirst_any (A : Option Addr) (n c B : Nat) (l : List UInt8) (w : World) (h : HasBytes w B A n l) (hB : B ≤ w.heap.size) (hn : n ≤ 1000000) (hnc : n ≤ c) :
    Calls Try.prog 12 #[.slice A n c] w (RefFirst l w) := by
  have hl := h.len
  by_cases h8 : n < 8
  · have He : Hid (firstErr l = 2) := Lib.hid (by unfold firstErr; rw [hl, if_pos h8])
    clear h hl
    go_enter Try.func12, Try.ntmps12
    go_wp2
    have hbx := Box.made w 30 #[.slice none 0 0, .int .i64 0, .int .i64 2]
    have p0 := hbx.cell 0
    have p1 := hbx.cell 1
    have p2 := hbx.cell 2
    refine bodyPost_ret (v := .agg #[.slice none 0 0, .int .i64 0, .int .i64 2]) ?_ rfl (refFirst_err (k := 2) He.out (by decide) ((Below.refl _ _).alloc (Nat.le_refl _) _))
    simp [results, Try.results12, go_sem, p0, p1, p2]
  · obtain ⟨S, hS⟩ : ∃ S, sizeAt l = S := ⟨_, rfl⟩
    have hsz := size_bytes (l := l) (by omega)
    have H0 := Lib.hid (h.alloc hB (.cells #[.slice none 0 0, .int .i64 0, .int .i64 0] 30))
    obtain ⟨a, rfl, q0, q1, q2, q3⟩ := four_bytes H0.out (by omega)
    have hb0 := (l[0]?.getD 0).toNat_lt
    have hb1 := (l[1]?.getD 0).toNat_lt
    have hb2 := (l[2]?.getD 0).toNat_lt
    have hb3 := (l[3]?.getD 0).toNat_lt
    generalize (l[0]?.getD 0).toNat = b0 at *
    generalize (l[1]?.getD 0).toNat = b1 at *
    generalize (l[2]?.getD 0).toNat = b2 at *
    generalize (l[3]?.getD 0).toNat = b3 at *
    rw [hS] at hsz
    have hSi : (b0 : Int) * 16777216 + (b1 : Int) * 65536 + (b2 : Int) * 256 + (b3 : Int) = (S : Int) := by omega
    have hS32 : S < 4294967296 := by omega
    clear hsz
    by_cases hbig : 65536 < S
    · have He : Hid (firstErr l = 4) := Lib.hid (by unfold firstErr; rw [hl, hS, if_neg h8, if_pos hbig])
      clear h hl hS
      go_enter Try.func12, Try.ntmps12
      go_wp2
      go_quiet (fail)
      go_wp2
      have hbx := got_set (.slice none 0 0) (.int .i64 0) (.int .i64 4) (Box.drewN (Box.made w 30 #[.slice none 0 0, .int .i64 0, .int .i64 0]) nq)
      have p0 := hbx.cell 0
      have p1 := hbx.cell 1
      have p2 := hbx.cell 2
      refine bodyPost_ret (v := .agg #[.slice none 0 0, .int .i64 0, .int .i64 4]) ?_ rfl (refFirst_err (k := 4) He.out (by decide) (below_set3 _ _ _ (below_drews ((Below.refl _ _).alloc (Nat.le_refl _) _) _) (Nat.le_refl _)))
      simp [results, Try.results12, go_sem, p0, p1, p2]
    · by_cases hsh : n < 8 + S
      · have He : Hid (firstErr l = 2) := Lib.hid (by unfold firstErr; rw [hl, hS, if_neg h8, if_neg hbig, if_pos hsh])
        clear h hl hS
        go_enter Try.func12, Try.ntmps12
        go_wp2
        go_quiet (fail)
        go_wp2
        have hbx := got_set (.slice none 0 0) (.int .i64 0) (.int .i64 2) (Box.drewN (Box.made w 30 #[.slice none 0 0, .int .i64 0, .int .i64 0]) nq)
        have p0 := hbx.cell 0
        have p1 := hbx.cell 1
        have p2 := hbx.cell 2
        refine bodyPost_ret (v := .agg #[.slice none 0 0, .int .i64 0, .int .i64 2]) ?_ rfl (refFirst_err (k := 2) He.out (by decide) (below_set3 _ _ _ (below_drews ((Below.refl _ _).alloc (Nat.le_refl _) _) _) (Nat.le_refl _)))
        simp [results, Try.results12, go_sem, p0, p1, p2]
      · have hrest := HasBytes.part h (k := 8) (cap := c) (by omega) hnc
        obtain ⟨D, hD⟩ : ∃ D, (if c = 8 then some a else some (⟨a.block, a.off + 8, none⟩ : Addr)) = D := ⟨_, rfl⟩
        rw [map_add8, show Option.map (fun x : Addr => (⟨x.block, x.off + 8, none⟩ : Addr)) (some a) = some ⟨a.block, a.off + 8, none⟩ from rfl, hD] at hrest
        have hpay : HasBytes w B D S (payAt l) := by
          have := HasBytes.head hrest (k := S) (by omega)
          unfold payAt
          rwa [hS]
        have hhead := HasBytes.head h (k := 8 + S) (by omega)
        have H := Lib.hid h
        have Hpay := Lib.hid hpay
        have Hhead := Lib.hid hhead
        have HB := Lib.hid hB
        have HS := Lib.hid hS
        have Hl := Lib.hid hl
        have Hsame := Lib.hid (frame_same (b := l) (by rw [hl]; exact h8) (by rw [hl, hS]; exact hsh))
        have He : Hid (firstErr l = if frameOf (payAt l) = l.take (8 + S) then 0 else 5) := Lib.hid (by
          rw [← hS]
          simp only [Hsame.out]
          unfold firstErr
          rw [hl, hS, if_neg h8, if_neg hbig, if_neg hsh])
        clear h hl hS hrest hpay hhead hB
        have c8 : (8 : Int) ≤ (c : Int) := by omega
        have n8 : (8 : Int) + (S : Int) ≤ (c : Int) := by omega
        have w8 : IntKind.i64.wrap (8 + (S : Int)) = 8 + (S : Int) := by rw [IntKind.wrap_i64]; omega
        have z8 : (0 : Int) ≤ 8 + (S : Int) := by omega
        have y8 : (8 : Int) ≤ 8 + (S : Int) := by omega
        have t8 : (8 + (S : Int)).toNat = 8 + S := by omega
        go_enter Try.func12, Try.ntmps12
        go_wp2
        go_quiet (fail)
        go_wp2_with fail
        refine (refWrap_any D S (c - 8) B (payAt l) _ ?_ ?_ (by omega)).mono ?_
        · exact Hpay.out.alloc HB.out _
        · exact le_alloc HB.out _
        rintro e w1 ⟨v1, rfl, hown1, hb1⟩
        have hb1' : Below (w.heap.size + 1) (w.alloc (.cells #[.slice none 0 0, .int .i64 0, .int .i64 0] 30)) w1 := (below_drews (Below.refl _ _) _).trans (hb1.mono (by simp [World.drewN]))
        have hbx := (Box.made w 30 #[.slice none 0 0, .int .i64 0, .int .i64 0]).below hb1' (Nat.lt_succ_self _)
        have Hbx := Lib.hid hbx
        have Hlt : Hid (w.heap.size < w1.heap.size) := Lib.hid (by have := hb1'.size; simp at this; omega)
        have Hb1 : Hid (Below w.heap.size w w1) := Lib.hid (((Below.refl _ _).alloc (Nat.le_refl _) _).trans (hb1'.mono (Nat.le_succ _)))
        obtain ⟨A1, c1, rfl, hc1, hcm1, hh1⟩ := own_slice hown1
        have hh1' : HasBytes w1 w1.heap.size A1 (8 + S) (frameOf (payAt l)) := hh1
        have hcv1 := fun k => string_run (w := w1.drewN k) hh1' c1
        have hcv2 := fun k => string_run (w := w1.drewN k) (Hhead.out.belowOf (below_drews Hb1.out k) HB.out) c
        have H1 := Lib.hid (H.out.belowOf Hb1.out HB.out)
        clear hb1 hb1' hbx hown1 hcm1 hh1 hh1' q0 q1 q2 q3 hSi
        by_cases hfr : frameOf (payAt l) = l.take (8 + S)
        · have He0 : Hid (firstErr l = 0) := Lib.hid (by rw [He.out, if_pos hfr])
          simp only [hfr] at hcv1
          go_wp2
          go_quiet (fail)
          go_wp2_with (at_builtin; refine wpList_append_has rfl (.tmp 58) (.tmp 62) _ rfl 5 u8_elem Try.underlying22 rfl (empty_own (w1.drewN _) w.heap.size Hb1.out.size 5) rfl ((Hpay.out.belowOf (below_drews Hb1.out _) HB.out).alloc (Nat.le_trans HB.out Hb1.out.size) _) (byteCells_one _) (by simp only [maxLen]; omega) (by omega) (le_alloc Hb1.out.size _) ?_; intro v2 w2 hown2 hg2 hz2; obtain ⟨A2, c2, rfl, hc2, hm2, hh2⟩ := own_slice hown2; have Hown2 := Lib.hid (own_row0 hown2); have Hb2 : Hid (Below w.heap.size w w2) := Lib.hid (below_own ((below_drews Hb1.out _).alloc Hb1.out.size _) (empty_own (w1.drewN _) w.heap.size Hb1.out.size 5) hg2 (le_alloc Hb1.out.size _)); have Hbx2 : Hid (Box w2 w.heap.size 30 #[.slice none 0 0, .int .i64 0, .int .i64 0]) := Lib.hid (((Hbx.out.drewN _).alloc _).grown hg2 (show some _ ≠ some _ from fun e => by injection e with e; exact absurd e (Nat.ne_of_lt Hlt.out))); clear hown2 hg2 hz2 hc2 hm2 hh2; obtain ⟨q0, q1, q2, f0, f1, f2⟩ := box_cells Hbx2.out)
          have hbx2 := got_set (.slice A2 S c2) (.int .i64 (8 + (S : Int))) (.int .i64 0) Hbx2.out
          have p0 := hbx2.cell 0
          have p1 := hbx2.cell 1
          have p2 := hbx2.cell 2
          refine bodyPost_ret (v := .agg #[.slice A2 S c2, .int .i64 (8 + (S : Int)), .int .i64 0]) ?_ rfl (refFirst_ok He0.out HS.out (own_far3 Hown2.out Hbx2.out rfl (by decide)) (below_set3 _ _ _ Hb2.out (Nat.le_refl _)))
          simp [results, Try.results12, go_sem, p0, p1, p2]
        · have He0 : Hid (firstErr l = 5) := Lib.hid (by rw [He.out, if_neg hfr])
          have hfb : (frameOf (payAt l) == l.take (8 + S)) = false := by simpa using hfr
          go_wp2
          go_quiet (fail)
          obtain ⟨q0, q1, q2, f0, f1, f2⟩ := box_cells (Hbx.out.drewN nq)
          go_wp2
          have hbx2 := got_set (.slice none 0 0) (.int .i64 0) (.int .i64 5) (Box.drewN Hbx.out nq)
          have p0 := hbx2.cell 0
          have p1 := hbx2.cell 1
          have p2 := hbx2.cell 2
          refine bodyPost_ret (v := .agg #[.slice none 0 0, .int .i64 0, .int .i64 5]) ?_ rfl (refFirst_err (k := 5) He0.out (by decide) (below_set3 _ _ _ (below_drews Hb1.out _) (Nat.le_refl _)))
          simp [results, Try.results12, go_sem, p0, p1, p2]

end Go.Proofs.Yteegnohfmonakaa
