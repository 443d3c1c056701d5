/- A road's method bring. Condition: the road is in memory. -/
import Derived.Test.YtaljojjpgkmiiaaMSesP
import Derived.Test.YtaljojjpgkmiiaaMSes
import Derived.Deep.RegionLaw
import Derived.Deep.RegionHeld3
namespace Go.Proofs.Ytaljojjpgkmiiaa
open Go.RowKit

/-- rows of numbers stay -/
structure KT (w w' : World) : Prop where
  size : w.heap.size ≤ w'.heap.size
  typed : ∀ (i : Nat) (cs : Array Value), w.heap[i]? = some (.cells cs 3 (0, 0)) → w'.heap[i]? = some (.cells cs 3 (0, 0))
theorem KT.of {w w' : World} (h : Below w.heap.size w w') : KT w w' := ⟨h.size, fun i _ hi => (h.block i (Array.getElem?_eq_some_iff.1 hi).1).trans hi⟩
theorem KT.trans {w w1 w2 : World} (h : KT w w1) (k : KT w1 w2) : KT w w2 := ⟨Nat.le_trans h.size k.size, fun i cs hi => k.typed i cs (h.typed i cs hi)⟩
theorem KT.own {w w' : World} (k : KT w w') {C m : Nat} {v : Value} {xs : List Value} (h : w.ownsRow C 3 1 v m xs) : w'.ownsRow C 3 1 v m xs :=
  own_keepN h fun i hi => by
    obtain ⟨cs, hc⟩ := own_typeS h hi
    rw [hc]
    exact k.typed i cs hc
theorem KT.keptE {w w' : World} {g : Nat} {v : Value} (k : KeptE g v w w') {t : TypeId} {cs : Array Value} (hb : Box w g t cs) (ht : t ≠ 3) {C m : Nat} {xs : List Value} (hv : w.ownsRow C 9 1 v m xs) : KT w w' :=
  ⟨k.size, fun i ds hi => (k.block i (Array.getElem?_eq_some_iff.1 hi).1 (fun e => by
    subst e
    unfold Box at hb
    rw [hb] at hi
    injection hi with hi
    injection hi with _ hi _
    exact ht hi) fun e => by
    obtain ⟨ds', h9⟩ := own_typeS hv e
    rw [h9] at hi
    injection hi with hi
    injection hi with _ hi _
    exact absurd hi (by decide)).trans hi⟩
theorem KT.kept2 {w w' : World} {sb mb B d : Nat} {N : List NEn} (k : Kept2 sb mb w w') (h : NetAt w B sb mb N d) : KT w w' :=
  ⟨k.size, fun i ds hi => (k.block i (Array.getElem?_eq_some_iff.1 hi).1 (fun e => by
    subst e
    have hb := h.box
    unfold Box at hb
    rw [hb] at hi
    injection hi with hi
    injection hi with _ hi _
    exact absurd hi (by decide)) fun e => by
    subst e
    obtain ⟨es, c, hm⟩ := mapN_block h.own
    rw [hm] at hi
    cases hi).trans hi⟩
/-- what bring leaves -/
def BringRP (B rb sb mb : Nat) (g : Nat → Nat) (E : Es) (X : Xs) (N : List NEn) (d : Nat) (w : World) (e : Ending) (w' : World) : Prop :=
  e = .returned (.tuple #[]) ∧ ∃ u', Road w' B rb sb mb g u' E X N d ∧ Below B w w' ∧ KT w w'
theorem bits0 : bits BinOp.and IntKind.i64 0 1 = 0 := by decide +kernel
theorem bits1 : bits BinOp.and IntKind.i64 1 1 = 1 := by decide +kernel
section
variable {w : World} {B rb sb mb d : Nat} {g : Nat → Nat} {u : Nat → Value} {E : Nat → SE} {X : Nat → List ByteArray} {N : List NEn}
theorem Road.boxEnd {w' : World} (h : Road w B rb sb mb g u E X N d) {i : Nat} (hi : i < 2) (k : KeptE (g i) (u i) w w') {b : Nat} {t : TypeId} {cs : Array Value} (hb : Box w b t cs) (h1 : t ≠ 107) (h2 : 9 ≠ t) : Box w' b t cs :=
  (k.block b hb.lt (box_box_ne hb (h.ends i hi).box h1) fun e => own_no_box (h.ends i hi).own hb h2 b e rfl).trans hb
set_option maxRecDepth 100000 in
set_option maxHeartbeats 6400000 in
theorem bring2_any (h : Road w B rb sb mb g u E X N d) {t : Nat} (ht : t < 2) (a : Int) (b : ByteArray) (Ap : Option Addr) (cp : Nat) (Ai : Option Addr) (ci : Nat) : Calls Try.prog 37 #[.pointer (some ⟨rb, 0, none⟩), .agg #[.int .i64 2, .int .i64 0, .int .i64 (t : Int), .int .i64 a, .int .i64 0, .int .i64 0, .int .i64 0, .string ⟨#[]⟩, .string ⟨#[]⟩, .slice Ap 0 cp, .slice Ai 0 ci, .int .i64 0, .bool false, .string b]] w (BringRP B rb sb mb g (upd E t ((E t).acked a).1) X N d w) := by
  have h2 := ht
  rcases (show t = 0 ∨ t = 1 by omega) with rfl | rfl
  · obtain ⟨w1, hw1⟩ : ∃ w1, w.alloc (.cells #[.int .i64 2, .int .i64 0, .int .i64 0, .int .i64 a, .int .i64 0, .int .i64 0, .int .i64 0, .string ⟨#[]⟩, .string ⟨#[]⟩, .slice Ap 0 cp, .slice Ai 0 ci, .int .i64 0, .bool false, .string b] 69) = w1 := ⟨_, rfl⟩
    have b1 : Below w.heap.size w w1 := hw1 ▸ below_box _
    have xb : Box w1 w.heap.size 69 #[.int .i64 2, .int .i64 0, .int .i64 0, .int .i64 a, .int .i64 0, .int .i64 0, .int .i64 0, .string ⟨#[]⟩, .string ⟨#[]⟩, .slice Ap 0 cp, .slice Ai 0 ci, .int .i64 0, .bool false, .string b] := hw1 ▸ Box.made _ _ _
    have Hx := Lib.hid xb
    have KT1 := Lib.hid (KT.of (b1.trans ((Below.refl _ w1).drew.mono b1.size)))
    have H1 := Lib.hid (And.intro (h.below b1) ((Below.refl B w).trans (b1.mono h.lo)))
    have x0 : w1.cell? ⟨w.heap.size, 0, none⟩ = some (.int .i64 2) := xb.cell 0
    have x2 : w1.cell? ⟨w.heap.size, 2, none⟩ = some (.int .i64 0) := xb.cell 2
    have x3 : w1.cell? ⟨w.heap.size, 3, none⟩ = some (.int .i64 a) := xb.cell 3
    have x13 : w1.cell? ⟨w.heap.size, 13, none⟩ = some (.string b) := xb.cell 13
    have p0 := H1.out.1.cells.1
    have p1 := H1.out.1.cells.2.1
    have Hd := Lib.hid (And.intro (H1.out.1.below (Below.refl _ w1).drew) (Hx.out.below (Below.refl _ w1).drew Hx.out.lt))
    have hbt := bits0
    clear b1 xb
    have HA := Lib.hid (sesAcked_any (Hd.out.1.ends 0 h2) a)
    go_enter Try.func37, Try.ntmps37
    go_wp2
    go_region_held3 (fun wx => wx.cell? ⟨rb, 0, none⟩ = some (.pointer (some ⟨g 0, 0, none⟩)) ∧ wx.cell? ⟨rb, 1, none⟩ = some (.pointer (some ⟨g 1, 0, none⟩)) ∧ wx.cell? ⟨w.heap.size, 3, none⟩ = some (.int .i64 a) ∧ wx.cell? ⟨w.heap.size, 13, none⟩ = some (.string b))
      (first | exact ⟨Hd.out.1.cells.1, Hd.out.1.cells.2.1, Hd.out.2.cell 3, Hd.out.2.cell 13⟩ | exact ⟨r3.1.cells.1, r3.1.cells.2.1, y3.cell 3, y3.cell 13⟩)
      (first
        | (go_at_call 24; refine HA.out.mono ?_; rintro e w3 ⟨v3, rfl, h3, k3, n3⟩; have r3 := Hd.out.1.atEnd h2 h3 k3 n3.toW; have y3 := Hd.out.1.boxEnd h2 k3 Hd.out.2 (by decide) (by decide)))
    all_goals
      have HF := Lib.hid (And.intro r3.1 (And.intro ((H1.out.2.drew).trans r3.2) (KT1.out.trans (KT.keptE k3 (Hd.out.1.ends 0 h2).box (by decide) (Hd.out.1.ends 0 h2).own))))
      clear h3 k3 n3 r3 y3
      go_wp2
      refine bodyPost_ret (results_none rfl _ _ _) rfl ?_
      exact ⟨rfl, _, HF.out.1, HF.out.2.1, HF.out.2.2⟩
  · obtain ⟨w1, hw1⟩ : ∃ w1, w.alloc (.cells #[.int .i64 2, .int .i64 0, .int .i64 1, .int .i64 a, .int .i64 0, .int .i64 0, .int .i64 0, .string ⟨#[]⟩, .string ⟨#[]⟩, .slice Ap 0 cp, .slice Ai 0 ci, .int .i64 0, .bool false, .string b] 69) = w1 := ⟨_, rfl⟩
    have b1 : Below w.heap.size w w1 := hw1 ▸ below_box _
    have xb : Box w1 w.heap.size 69 #[.int .i64 2, .int .i64 0, .int .i64 1, .int .i64 a, .int .i64 0, .int .i64 0, .int .i64 0, .string ⟨#[]⟩, .string ⟨#[]⟩, .slice Ap 0 cp, .slice Ai 0 ci, .int .i64 0, .bool false, .string b] := hw1 ▸ Box.made _ _ _
    have Hx := Lib.hid xb
    have KT1 := Lib.hid (KT.of (b1.trans ((Below.refl _ w1).drew.mono b1.size)))
    have H1 := Lib.hid (And.intro (h.below b1) ((Below.refl B w).trans (b1.mono h.lo)))
    have x0 : w1.cell? ⟨w.heap.size, 0, none⟩ = some (.int .i64 2) := xb.cell 0
    have x2 : w1.cell? ⟨w.heap.size, 2, none⟩ = some (.int .i64 1) := xb.cell 2
    have x3 : w1.cell? ⟨w.heap.size, 3, none⟩ = some (.int .i64 a) := xb.cell 3
    have x13 : w1.cell? ⟨w.heap.size, 13, none⟩ = some (.string b) := xb.cell 13
    have p0 := H1.out.1.cells.1
    have p1 := H1.out.1.cells.2.1
    have Hd := Lib.hid (And.intro (H1.out.1.below (Below.refl _ w1).drew) (Hx.out.below (Below.refl _ w1).drew Hx.out.lt))
    have hbt := bits1
    clear b1 xb
    have HA := Lib.hid (sesAcked_any (Hd.out.1.ends 1 h2) a)
    go_enter Try.func37, Try.ntmps37
    go_wp2
    go_region_held3 (fun wx => wx.cell? ⟨rb, 0, none⟩ = some (.pointer (some ⟨g 0, 0, none⟩)) ∧ wx.cell? ⟨rb, 1, none⟩ = some (.pointer (some ⟨g 1, 0, none⟩)) ∧ wx.cell? ⟨w.heap.size, 3, none⟩ = some (.int .i64 a) ∧ wx.cell? ⟨w.heap.size, 13, none⟩ = some (.string b))
      (first | exact ⟨Hd.out.1.cells.1, Hd.out.1.cells.2.1, Hd.out.2.cell 3, Hd.out.2.cell 13⟩ | exact ⟨r3.1.cells.1, r3.1.cells.2.1, y3.cell 3, y3.cell 13⟩)
      (first
        | (go_at_call 24; refine HA.out.mono ?_; rintro e w3 ⟨v3, rfl, h3, k3, n3⟩; have r3 := Hd.out.1.atEnd h2 h3 k3 n3.toW; have y3 := Hd.out.1.boxEnd h2 k3 Hd.out.2 (by decide) (by decide)))
    all_goals
      have HF := Lib.hid (And.intro r3.1 (And.intro ((H1.out.2.drew).trans r3.2) (KT1.out.trans (KT.keptE k3 (Hd.out.1.ends 1 h2).box (by decide) (Hd.out.1.ends 1 h2).own))))
      clear h3 k3 n3 r3 y3
      go_wp2
      refine bodyPost_ret (results_none rfl _ _ _) rfl ?_
      exact ⟨rfl, _, HF.out.1, HF.out.2.1, HF.out.2.2⟩
set_option maxRecDepth 100000 in
set_option maxHeartbeats 12800000 in
theorem bring1_any (h : Road w B rb sb mb g u E X N d) {t : Nat} (ht : t < 2) (a : Int) (b : ByteArray) (Ap : Option Addr) (cp : Nat) (Ai : Option Addr) (ci : Nat) (hXl : (X (4 + t)).length ≤ 1000000) : Calls Try.prog 37 #[.pointer (some ⟨rb, 0, none⟩), .agg #[.int .i64 1, .int .i64 0, .int .i64 (t : Int), .int .i64 a, .int .i64 0, .int .i64 0, .int .i64 0, .string ⟨#[]⟩, .string ⟨#[]⟩, .slice Ap 0 cp, .slice Ai 0 ci, .int .i64 0, .bool false, .string b]] w (BringRP B rb sb mb g (bringP E X 1 t a b).1 (bringP E X 1 t a b).2 N d w) := by
  have h2 := ht
  rcases (show t = 0 ∨ t = 1 by omega) with rfl | rfl
  · obtain ⟨w1, hw1⟩ : ∃ w1, w.alloc (.cells #[.int .i64 1, .int .i64 0, .int .i64 0, .int .i64 a, .int .i64 0, .int .i64 0, .int .i64 0, .string ⟨#[]⟩, .string ⟨#[]⟩, .slice Ap 0 cp, .slice Ai 0 ci, .int .i64 0, .bool false, .string b] 69) = w1 := ⟨_, rfl⟩
    have b1 : Below w.heap.size w w1 := hw1 ▸ below_box _
    have xb : Box w1 w.heap.size 69 #[.int .i64 1, .int .i64 0, .int .i64 0, .int .i64 a, .int .i64 0, .int .i64 0, .int .i64 0, .string ⟨#[]⟩, .string ⟨#[]⟩, .slice Ap 0 cp, .slice Ai 0 ci, .int .i64 0, .bool false, .string b] := hw1 ▸ Box.made _ _ _
    have Hx := Lib.hid xb
    have KT1 := Lib.hid (KT.of (b1.trans ((Below.refl _ w1).drew.mono b1.size)))
    have H1 := Lib.hid (And.intro (h.below b1) ((Below.refl B w).trans (b1.mono h.lo)))
    have x0 : w1.cell? ⟨w.heap.size, 0, none⟩ = some (.int .i64 1) := xb.cell 0
    have x2 : w1.cell? ⟨w.heap.size, 2, none⟩ = some (.int .i64 0) := xb.cell 2
    have x3 : w1.cell? ⟨w.heap.size, 3, none⟩ = some (.int .i64 a) := xb.cell 3
    have x13 : w1.cell? ⟨w.heap.size, 13, none⟩ = some (.string b) := xb.cell 13
    have p0 := H1.out.1.cells.1
    have p1 := H1.out.1.cells.2.1
    have Hd := Lib.hid (And.intro (H1.out.1.below (Below.refl _ w1).drew) (Hx.out.below (Below.refl _ w1).drew Hx.out.lt))
    have hbt := bits0
    clear b1 xb
    obtain ⟨⟨E1, b0⟩, hE⟩ : ∃ r, (E 0).take a = r := ⟨_, rfl⟩
    have HE := Lib.hid hE
    have HTk := Lib.hid (sesTake_any (Hd.out.1.ends 0 h2) a b)
    rw [hE] at HTk
    obtain ⟨EE, XX, hB⟩ : ∃ EE XX, bringP E X 1 0 a b = (EE, XX) := ⟨_, _, rfl⟩
    have HB : Hid ((EE, XX) = bringP E X 1 0 a b) := Lib.hid hB.symm
    rw [hB]
    obtain ⟨L, hL⟩ : ∃ L, (X 4).length = L := ⟨_, rfl⟩
    have HL : Hid ((X 4).length = L ∧ L ≤ 1000000) := Lib.hid ⟨hL, by rw [← hL]; exact hXl⟩
    clear h hE hB hL hXl
    go_enter Try.func37, Try.ntmps37
    go_wp2
    go_region_held3 (fun wx => wx.cell? ⟨rb, 0, none⟩ = some (.pointer (some ⟨g 0, 0, none⟩)) ∧ wx.cell? ⟨rb, 1, none⟩ = some (.pointer (some ⟨g 1, 0, none⟩)) ∧ wx.cell? ⟨w.heap.size, 3, none⟩ = some (.int .i64 a) ∧ wx.cell? ⟨w.heap.size, 13, none⟩ = some (.string b))
      (first | exact ⟨Hd.out.1.cells.1, Hd.out.1.cells.2.1, Hd.out.2.cell 3, Hd.out.2.cell 13⟩ | exact ⟨r3.1.cells.1, r3.1.cells.2.1, y3.cell 3, y3.cell 13⟩)
      (first
        | (go_at_call 22; refine HTk.out.mono ?_; rintro e w3 ⟨rfl, h3, k3⟩; have r3 := Hd.out.1.atEnd h2 h3 k3 (NewW.refl _ _); have y3 := Hd.out.1.boxEnd h2 k3 Hd.out.2 (by decide) (by decide)))
    all_goals
      have HF := Lib.hid (And.intro r3.1 (And.intro ((H1.out.2.drew).trans r3.2) y3))
      have HKT := Lib.hid (KT1.out.trans (KT.keptE k3 (Hd.out.1.ends 0 h2).box (by decide) (Hd.out.1.ends 0 h2).own))
      have hue : upd u 0 (u 0) = u := upd_id u 0
      rw [hue] at HF
      clear h3 k3 r3 y3 hue x0 x2 x3 x13 p0 p1 hw1
      cases b0
      · have HFe : Hid (EE = E ∧ XX = X) := Lib.hid (by
          have h9 := HB.out
          unfold bringP at h9
          rw [if_neg (by omega), HE.out] at h9
          injection h9 with h9 h10
          exact ⟨h9, h10⟩)
        have hE1 : Hid (upd E 0 E1 = E) := Lib.hid (by
          have h9 := HE.out
          unfold SE.take at h9
          split at h9
          · injection h9 with _ h9; cases h9
          · injection h9 with h9 _; rw [← h9]; exact upd_id E 0)
        go_wp2
        go_end0
        exact ⟨rfl, _, by rw [HFe.out.1, HFe.out.2]; have h9 := HF.out.1; rw [hE1.out] at h9; exact h9, HF.out.2.1, HKT.out⟩
      · have HFe : Hid (EE = upd E 0 E1 ∧ XX = upd X 4 (X 4 ++ [b])) := Lib.hid (by
          have h9 := HB.out
          unfold bringP at h9
          rw [if_neg (by omega), HE.out, if_pos rfl] at h9
          injection h9 with h9 h10
          exact ⟨h9, h10⟩)
        obtain ⟨Au, cu, hu, -, -, -⟩ := (HF.out.1.rows 4 (by omega) (by omega)).slice
        rw [HL.out.1] at hu
        have Hu := Lib.hid hu
        have HX : Hid (∀ wx, Below w3.heap.size w3 wx → wx.cell? ⟨rb, 4, none⟩ = some (.slice Au L cu) ∧ wx.cell? ⟨w.heap.size, 13, none⟩ = some (.string b) ∧ wx.frozen? ⟨rb, 4, none⟩ = false) := Lib.hid fun wx hx => by
          have h9 := (HF.out.1.below hx)
          have h8 : wx.cell? ⟨rb, 4, none⟩ = some (u 4) := h9.box.cell 4
          rw [Hu.out] at h8
          exact ⟨h8, (HF.out.2.2.below hx HF.out.2.2.lt).cell 13, h9.box.frozen 4⟩
        have Ho : Hid (w3.ownsRow B 9 1 (.slice Au L cu) L ((X 4).map Value.string)) := Lib.hid (by have h9 := HF.out.1.rows 4 (by omega) (by omega); unfold OwnTx at h9; rw [HL.out.1, Hu.out] at h9; exact h9)
        obtain ⟨z1, z2, -⟩ := HX.out w3 (Below.refl _ _)
        obtain ⟨d1, d2, -⟩ := HX.out w3.drew (Below.refl _ _).drew
        have hba : Below w3.heap.size w3 (w3.drew.alloc (Obj.cells #[.string b] 9)) := (Below.refl _ w3).drew.alloc (Nat.le_refl _) _
        obtain ⟨a1, a2, -⟩ := HX.out _ hba
        have hbb : Below w3.heap.size w3 (w3.alloc (Obj.cells #[.string b] 9)) := (Below.refl _ w3).alloc (Nat.le_refl _) _
        obtain ⟨q1, q2, -⟩ := HX.out _ hbb
        clear hu
        go_wp2
        go_region_law (first
          | (refine step_append_hasN (by rfl) _ _ _ (by rfl) 9 tx_elem (by omega) Try.underlying27 (by rfl) (own_belowN Ho.out hba) (by rfl) (Has.lit w3.drew #[.string b] 9) (fun u hu => by simp at hu; subst hu; rfl) (by have := HL.out.2; simp only [maxLen]; omega) (by have := HL.out.2; omega) (Nat.le_trans HF.out.1.lo hba.size) ?_; intro vA wA oA gA zA; obtain ⟨AA, cA, rfl, -, -, -⟩ := own_sliceN oA; have hbx := (HF.out.1.box.below hba HF.out.1.box.lt).grown gA (fun e => own_no_box Ho.out HF.out.1.box (by decide) rb e.symm rfl); have c7 : wA.cell? ⟨rb, 4, none⟩ = some (.slice Au L cu) := (hbx.cell 4).trans (congrArg some Hu.out); have f7 := hbx.frozen 4))
        all_goals
          have HR := Lib.hid (HF.out.1.app (i := 4) (x := b) (by omega) hba (by rw [HL.out.1]; exact oA) (by rw [Hu.out]; exact gA) (by rw [Hu.out]; exact zA))
          have HKF := Lib.hid (HKT.out.trans ((KT.of hba).trans (KT.keptE ((KeptE.grown gA (.inr rfl)).trans (.inl rfl) (box_set_kept (v := .slice Au L cu) (g := rb) (i := 4) (u := .slice AA (L + 1) cA))) (HF.out.1.box.below hba HF.out.1.box.lt) (by decide) (own_belowN Ho.out hba))))
          clear oA gA zA hbx hba hbb z1 z2 d1 d2 a1 a2 q1 q2 c7 f7
          go_wp2
          go_end0
          exact ⟨rfl, _, by rw [HFe.out.1, HFe.out.2]; exact HR.out.1, HF.out.2.1.trans HR.out.2, HKF.out⟩
  · obtain ⟨w1, hw1⟩ : ∃ w1, w.alloc (.cells #[.int .i64 1, .int .i64 0, .int .i64 1, .int .i64 a, .int .i64 0, .int .i64 0, .int .i64 0, .string ⟨#[]⟩, .string ⟨#[]⟩, .slice Ap 0 cp, .slice Ai 0 ci, .int .i64 0, .bool false, .string b] 69) = w1 := ⟨_, rfl⟩
    have b1 : Below w.heap.size w w1 := hw1 ▸ below_box _
    have xb : Box w1 w.heap.size 69 #[.int .i64 1, .int .i64 0, .int .i64 1, .int .i64 a, .int .i64 0, .int .i64 0, .int .i64 0, .string ⟨#[]⟩, .string ⟨#[]⟩, .slice Ap 0 cp, .slice Ai 0 ci, .int .i64 0, .bool false, .string b] := hw1 ▸ Box.made _ _ _
    have Hx := Lib.hid xb
    have KT1 := Lib.hid (KT.of (b1.trans ((Below.refl _ w1).drew.mono b1.size)))
    have H1 := Lib.hid (And.intro (h.below b1) ((Below.refl B w).trans (b1.mono h.lo)))
    have x0 : w1.cell? ⟨w.heap.size, 0, none⟩ = some (.int .i64 1) := xb.cell 0
    have x2 : w1.cell? ⟨w.heap.size, 2, none⟩ = some (.int .i64 1) := xb.cell 2
    have x3 : w1.cell? ⟨w.heap.size, 3, none⟩ = some (.int .i64 a) := xb.cell 3
    have x13 : w1.cell? ⟨w.heap.size, 13, none⟩ = some (.string b) := xb.cell 13
    have p0 := H1.out.1.cells.1
    have p1 := H1.out.1.cells.2.1
    have Hd := Lib.hid (And.intro (H1.out.1.below (Below.refl _ w1).drew) (Hx.out.below (Below.refl _ w1).drew Hx.out.lt))
    have hbt := bits1
    clear b1 xb
    obtain ⟨⟨E1, b0⟩, hE⟩ : ∃ r, (E 1).take a = r := ⟨_, rfl⟩
    have HE := Lib.hid hE
    have HTk := Lib.hid (sesTake_any (Hd.out.1.ends 1 h2) a b)
    rw [hE] at HTk
    obtain ⟨EE, XX, hB⟩ : ∃ EE XX, bringP E X 1 1 a b = (EE, XX) := ⟨_, _, rfl⟩
    have HB : Hid ((EE, XX) = bringP E X 1 1 a b) := Lib.hid hB.symm
    rw [hB]
    obtain ⟨L, hL⟩ : ∃ L, (X 5).length = L := ⟨_, rfl⟩
    have HL : Hid ((X 5).length = L ∧ L ≤ 1000000) := Lib.hid ⟨hL, by rw [← hL]; exact hXl⟩
    clear h hE hB hL hXl
    go_enter Try.func37, Try.ntmps37
    go_wp2
    go_region_held3 (fun wx => wx.cell? ⟨rb, 0, none⟩ = some (.pointer (some ⟨g 0, 0, none⟩)) ∧ wx.cell? ⟨rb, 1, none⟩ = some (.pointer (some ⟨g 1, 0, none⟩)) ∧ wx.cell? ⟨w.heap.size, 3, none⟩ = some (.int .i64 a) ∧ wx.cell? ⟨w.heap.size, 13, none⟩ = some (.string b))
      (first | exact ⟨Hd.out.1.cells.1, Hd.out.1.cells.2.1, Hd.out.2.cell 3, Hd.out.2.cell 13⟩ | exact ⟨r3.1.cells.1, r3.1.cells.2.1, y3.cell 3, y3.cell 13⟩)
      (first
        | (go_at_call 22; refine HTk.out.mono ?_; rintro e w3 ⟨rfl, h3, k3⟩; have r3 := Hd.out.1.atEnd h2 h3 k3 (NewW.refl _ _); have y3 := Hd.out.1.boxEnd h2 k3 Hd.out.2 (by decide) (by decide)))
    all_goals
      have HF := Lib.hid (And.intro r3.1 (And.intro ((H1.out.2.drew).trans r3.2) y3))
      have HKT := Lib.hid (KT1.out.trans (KT.keptE k3 (Hd.out.1.ends 1 h2).box (by decide) (Hd.out.1.ends 1 h2).own))
      have hue : upd u 1 (u 1) = u := upd_id u 1
      rw [hue] at HF
      clear h3 k3 r3 y3 hue x0 x2 x3 x13 p0 p1 hw1
      cases b0
      · have HFe : Hid (EE = E ∧ XX = X) := Lib.hid (by
          have h9 := HB.out
          unfold bringP at h9
          rw [if_neg (by omega), HE.out] at h9
          injection h9 with h9 h10
          exact ⟨h9, h10⟩)
        have hE1 : Hid (upd E 1 E1 = E) := Lib.hid (by
          have h9 := HE.out
          unfold SE.take at h9
          split at h9
          · injection h9 with _ h9; cases h9
          · injection h9 with h9 _; rw [← h9]; exact upd_id E 1)
        go_wp2
        go_end0
        exact ⟨rfl, _, by rw [HFe.out.1, HFe.out.2]; have h9 := HF.out.1; rw [hE1.out] at h9; exact h9, HF.out.2.1, HKT.out⟩
      · have HFe : Hid (EE = upd E 1 E1 ∧ XX = upd X 5 (X 5 ++ [b])) := Lib.hid (by
          have h9 := HB.out
          unfold bringP at h9
          rw [if_neg (by omega), HE.out, if_pos rfl] at h9
          injection h9 with h9 h10
          exact ⟨h9, h10⟩)
        obtain ⟨Au, cu, hu, -, -, -⟩ := (HF.out.1.rows 5 (by omega) (by omega)).slice
        rw [HL.out.1] at hu
        have Hu := Lib.hid hu
        have HX : Hid (∀ wx, Below w3.heap.size w3 wx → wx.cell? ⟨rb, 5, none⟩ = some (.slice Au L cu) ∧ wx.cell? ⟨w.heap.size, 13, none⟩ = some (.string b) ∧ wx.frozen? ⟨rb, 5, none⟩ = false) := Lib.hid fun wx hx => by
          have h9 := (HF.out.1.below hx)
          have h8 : wx.cell? ⟨rb, 5, none⟩ = some (u 5) := h9.box.cell 5
          rw [Hu.out] at h8
          exact ⟨h8, (HF.out.2.2.below hx HF.out.2.2.lt).cell 13, h9.box.frozen 5⟩
        have Ho : Hid (w3.ownsRow B 9 1 (.slice Au L cu) L ((X 5).map Value.string)) := Lib.hid (by have h9 := HF.out.1.rows 5 (by omega) (by omega); unfold OwnTx at h9; rw [HL.out.1, Hu.out] at h9; exact h9)
        obtain ⟨z1, z2, -⟩ := HX.out w3 (Below.refl _ _)
        obtain ⟨d1, d2, -⟩ := HX.out w3.drew (Below.refl _ _).drew
        have hba : Below w3.heap.size w3 (w3.drew.alloc (Obj.cells #[.string b] 9)) := (Below.refl _ w3).drew.alloc (Nat.le_refl _) _
        obtain ⟨a1, a2, -⟩ := HX.out _ hba
        have hbb : Below w3.heap.size w3 (w3.alloc (Obj.cells #[.string b] 9)) := (Below.refl _ w3).alloc (Nat.le_refl _) _
        obtain ⟨q1, q2, -⟩ := HX.out _ hbb
        clear hu
        go_wp2
        go_region_law (first
          | (refine step_append_hasN (by rfl) _ _ _ (by rfl) 9 tx_elem (by omega) Try.underlying27 (by rfl) (own_belowN Ho.out hba) (by rfl) (Has.lit w3.drew #[.string b] 9) (fun u hu => by simp at hu; subst hu; rfl) (by have := HL.out.2; simp only [maxLen]; omega) (by have := HL.out.2; omega) (Nat.le_trans HF.out.1.lo hba.size) ?_; intro vA wA oA gA zA; obtain ⟨AA, cA, rfl, -, -, -⟩ := own_sliceN oA; have hbx := (HF.out.1.box.below hba HF.out.1.box.lt).grown gA (fun e => own_no_box Ho.out HF.out.1.box (by decide) rb e.symm rfl); have c7 : wA.cell? ⟨rb, 5, none⟩ = some (.slice Au L cu) := (hbx.cell 5).trans (congrArg some Hu.out); have f7 := hbx.frozen 5))
        all_goals
          have HR := Lib.hid (HF.out.1.app (i := 5) (x := b) (by omega) hba (by rw [HL.out.1]; exact oA) (by rw [Hu.out]; exact gA) (by rw [Hu.out]; exact zA))
          have HKF := Lib.hid (HKT.out.trans ((KT.of hba).trans (KT.keptE ((KeptE.grown gA (.inr rfl)).trans (.inl rfl) (box_set_kept (v := .slice Au L cu) (g := rb) (i := 5) (u := .slice AA (L + 1) cA))) (HF.out.1.box.below hba HF.out.1.box.lt) (by decide) (own_belowN Ho.out hba))))
          clear oA gA zA hbx hba hbb z1 z2 d1 d2 a1 a2 q1 q2 c7 f7
          go_wp2
          go_end0
          exact ⟨rfl, _, by rw [HFe.out.1, HFe.out.2]; exact HR.out.1, HF.out.2.1.trans HR.out.2, HKF.out⟩
end
end Go.Proofs.Ytaljojjpgkmiiaa
