/- cut, Start, Sync, Crash of package disk. Condition: a disk in memory, of at most a million bytes. -/
import Derived.Test.YtghcmlipbmmfjaaDskB
namespace Go.Proofs.Ytghcmlipbmmfjaa
open Go.RowKit
open Go.Lib (strCells)

theorem scanF_le : ∀ (f : Nat) (b : List UInt8), (scanF f b).2 ≤ b.length
  | 0, _ => Nat.zero_le _
  | f + 1, b => by
    unfold scanF
    by_cases e : firstErr b = 0
    · have hl := (firstErr_len e).1
      have ih := scanF_le f (b.drop (8 + sizeAt b))
      rw [List.length_drop] at ih
      rw [if_pos e]
      show 8 + sizeAt b + (scanF f (b.drop (8 + sizeAt b))).2 ≤ b.length
      omega
    · rw [if_neg e]
      exact Nat.zero_le _
theorem scanT_le (b : List UInt8) : (scanT b).2 ≤ b.length := scanF_le _ b

section
variable {w : World} {B sb : Nat} {D : Nat → Prop} {S : DState}
theorem disk_set {cp lg ws cp' lg' ws' u : Value} {S' : DState} {i : Nat} (hs : D sb) (hd : Dsk (w.setCell ⟨sb, i, none⟩ u) B sb cp' lg' ws' S') (hD : ∀ g, DBlk sb cp lg ws g → D g) (hb : ∀ g, DBlk sb cp' lg' ws' g → DBlk sb cp lg ws g) :
    Disk (w.setCell ⟨sb, i, none⟩ u) B sb D S' ∧ Keeps D w (w.setCell ⟨sb, i, none⟩ u) ∧ (w.setCell ⟨sb, i, none⟩ u).heap.size = w.heap.size :=
  ⟨⟨cp', lg', ws', hd, fun g hg => hD g (hb g hg)⟩, Keeps.set hs, by simp [World.setCell]⟩
theorem set_other {sb i : Nat} {u : Value} : ∀ g, g < w.heap.size → g ≠ sb → (w.setCell ⟨sb, i, none⟩ u).heap[g]? = w.heap[g]? := fun _ _ hne => Below.heap_setCell _ _ _ _ hne

theorem cut_any {z : Bool} (h : DiskZ w B sb D z S) (q : Int) (n : Nat) (hq : q = (n : Int)) (hn : n ≤ S.L.length) :
    Calls Try.prog 30 #[.pointer (some ⟨sb, 0, none⟩), .int .i64 q] w fun e w' => e = .returned (.tuple #[]) ∧ Disk w' B sb D { S with L := S.L.take n, k := z } ∧ Keeps D w w' ∧ w'.heap.size = w.heap.size := by
  subst hq
  obtain ⟨cp, lg, ws, h, hD, hz⟩ := h
  obtain ⟨-, -, -, q3, -⟩ := h.cells
  obtain ⟨-, -, -, f3, -⟩ := h.marks
  obtain ⟨A, c, hl, hc, hcm, -⟩ := h.lrow.slice
  have Hend := Lib.hid (disk_set (cp := cp) (lg := lg) (ws := ws) (i := 3) (hD sb (.inl rfl)) (h.cutLog hl hz hn set_other ((h.box.set_ 3 (.slice A n n)))) hD (by
    rintro g (h1 | h1 | h1 | h1)
    · exact .inl h1
    · exact .inr (.inl h1)
    · refine .inr (.inr (.inl ?_))
      rw [hl]
      cases A <;> exact h1
    · exact .inr (.inr (.inr h1))))
  subst hl
  have n0 : (0 : Int) ≤ (n : Int) := by omega
  have nc : (n : Int) ≤ (c : Int) := by omega
  clear h hD hz hcm hc
  go_enter Try.func30, Try.ntmps30
  go_wp2
  go_end0
  exact ⟨rfl, Hend.out⟩

theorem sync_any (h : Disk w B sb D S) (hon : S.on = true) : Calls Try.prog 28 #[.pointer (some ⟨sb, 0, none⟩)] w fun e w' => e = .returned (.int .i64 0) ∧ Disk w' B sb D { S with W := [] } ∧ Keeps D w w' ∧ w'.heap.size = w.heap.size := by
  obtain ⟨cp, lg, ws, h, hD⟩ := h
  obtain ⟨-, q1, -, -, q4⟩ := h.cells
  obtain ⟨-, -, -, -, f4⟩ := h.marks
  rw [hon] at q1
  have Hend := Lib.hid (disk_set (cp := cp) (lg := lg) (ws := ws) (i := 4) (hD sb (.inl rfl)) (h.noWaits set_other ((h.box.set_ 4 (.slice none 0 0)))) hD (by
    rintro g (h1 | h1 | h1 | h1)
    · exact .inl h1
    · exact .inr (.inl h1)
    · exact .inr (.inr (.inl h1))
    · cases h1))
  clear h hD
  go_enter Try.func28, Try.ntmps28
  go_wp2
  go_ret
  exact ⟨rfl, Hend.out⟩

theorem OwnRs.kept {w w' : World} {B : Nat} {v : Value} {rs : Brs} (h : OwnRs w B v rs) (hk : ∀ g, B ≤ g → g < w.heap.size → w'.heap[g]? = w.heap[g]?) : OwnRs w' B v rs :=
  ⟨own_keep1 h.own fun g hg => hk g (h.own.lt g hg).1 (h.own.lt g hg).2, fun r hr => own_keep1 (h.rows r hr) fun g hg => hk g ((h.rows r hr).lt g hg).1 ((h.rows r hr).lt g hg).2, h.apart⟩
/-- what Start answers and leaves -/
def StartPost (B sb : Nat) (D : Nat → Prop) (z : Bool) (S : DState) (w : World) (e : Ending) (w' : World) : Prop :=
  ∃ s v rs m, e = .returned (.tuple #[s, v, .int .i64 0]) ∧ Disk w' B sb D { S with on := true, L := S.L.take (scanT S.L).2, k := z } ∧ OwnRs w' w.heap.size v rs ∧ brLists rs = (scanT S.L).1 ∧
    w'.ownsRow m 5 1 s S.C.length (byteCells S.C) ∧ Keeps D w w' ∧ w.heap.size ≤ m ∧ (∀ g, v.ownBlock = some g → g < m) ∧ ∀ r ∈ rs, ∀ g, r.1.ownBlock = some g → g < m
theorem start_end {w w1 w2 w3 w4 : World} {B sb : Nat} {D : Nat → Prop} {z : Bool} {S : DState} {cp lg ws cp2 lg2 ws2 s v : Value} {rs : Brs} (h : Dsk w B sb cp lg ws S) (hD : ∀ g, DBlk sb cp lg ws g → D g) (hown : OwnRs w1 w.heap.size v rs) (hl : brLists rs = (scanT S.L).1) (hb1 : Below w.heap.size w w1)
    (h2 : Dsk w2 B sb cp2 lg2 ws2 { S with L := S.L.take (scanT S.L).2, k := z }) (hD2 : ∀ g, DBlk sb cp2 lg2 ws2 g → DBlk sb cp lg ws g) (k2 : Keeps (DBlk sb cp lg ws) w1 w2) (s2 : w2.heap.size = w1.heap.size) (hw3 : w2.setCell ⟨sb, 1, none⟩ (.bool true) = w3) (hs : w4.ownsRow w3.heap.size 5 1 s S.C.length (byteCells S.C)) (hb4 : Below w3.heap.size w3 w4) :
    StartPost B sb D z S w (.returned (.tuple #[s, v, .int .i64 0])) w4 := by
  have s3 : w3.heap.size = w1.heap.size := by rw [← hw3, ← s2]; simp [World.setCell]
  have k3 : Keeps (DBlk sb cp lg ws) w2 w3 := hw3 ▸ Keeps.set (.inl rfl)
  have k4 : Keeps (DBlk sb cp lg ws) w3 w4 := Keeps.of hb4
  have kk : Keeps (DBlk sb cp lg ws) w w4 := (((Keeps.of hb1).trans k2 fun g hg => .inl hg).trans k3 fun g hg => .inl hg).trans k4 fun g hg => .inl hg
  have hrow : ∀ g, w.heap.size ≤ g → g < w1.heap.size → w4.heap[g]? = w1.heap[g]? := fun g h1 h2 => by
    have hn : ¬ DBlk sb cp lg ws g := fun e => by have := (h.lt e).2; omega
    rw [k4.block g (by omega) hn, k3.block g (by omega) hn, k2.block g h2 hn]
  have hd3 : Dsk w3 B sb cp2 lg2 ws2 { S with on := true, L := S.L.take (scanT S.L).2, k := z } := by
    subst hw3
    exact h2.turn set_other (h2.box.set_ 1 (.bool true))
  refine ⟨s, v, rs, w3.heap.size, rfl, ⟨cp2, lg2, ws2, hd3.below hb4, fun g hg => hD g (hD2 g hg)⟩, hown.kept hrow, hl, hs, ⟨kk.os, kk.tape, kk.output, kk.size, fun i hi hn => kk.block i hi fun e => hn (hD i e)⟩, ?_, fun g hg => ?_, fun r hr g hg => ?_⟩
  · rw [s3]; exact hb1.size
  · rw [s3]; exact (hown.own.lt g hg).2
  · rw [s3]; exact ((hown.rows r hr).lt g hg).2
theorem start_any {z : Bool} (h : DiskZ w B sb D z S) (hoff : S.on = false) (hL : S.L.length ≤ 1000000) (hC : S.C.length ≤ 1000000) :
    Calls Try.prog 21 #[.pointer (some ⟨sb, 0, none⟩)] w (StartPost B sb D z S w) := by
  obtain ⟨cp, lg, ws, h, hD, hz⟩ := h
  obtain ⟨-, q1, -, q3, -⟩ := h.cells
  rw [hoff] at q1
  obtain ⟨A, c, hlg, hc, -, hh⟩ := h.lrow.slice
  have Hscan := Lib.hid (scan_any A S.L.length c w.heap.size S.L w hh (Nat.le_refl _) hL hc)
  have H := Lib.hid h
  have HD := Lib.hid hD
  have Hz := Lib.hid hz
  rw [hlg] at q3
  have Hlg := Lib.hid hlg
  clear h hD hz hlg hh hc
  go_enter Try.func21, Try.ntmps21
  go_wp2_with fail
  refine Hscan.out.mono ?_
  rintro e w1 ⟨v, rs, rfl, hown, hl, hb1⟩
  obtain ⟨Av, cv, rfl, -⟩ := own_slice hown.own
  have Hown := Lib.hid hown
  have Hl := Lib.hid hl
  have Hb1 := Lib.hid hb1
  clear hown hl hb1
  have Hcut := Lib.hid (cut_any (z := z) (D := DBlk sb cp lg ws) (w := w1) ⟨cp, lg, ws, H.out.below Hb1.out, fun g hg => hg, Hz.out⟩ _ (scanT S.L).2 rfl (scanT_le _))
  go_wp2_with fail
  refine Hcut.out.mono ?_
  rintro e w2 ⟨rfl, ⟨cp2, lg2, ws2, hd2, hD2⟩, k2, s2⟩
  obtain ⟨-, p1, -⟩ := hd2.cells
  obtain ⟨-, m1, -⟩ := hd2.marks
  obtain ⟨w3, hw3⟩ : ∃ w3, w2.setCell ⟨sb, 1, none⟩ (.bool true) = w3 := ⟨_, rfl⟩
  have hbx : Box w3 sb 58 _ := hw3 ▸ hd2.box.set_ 1 (.bool true)
  have c2 := hbx.cell 2
  obtain ⟨Ac, cc, rfl, -, -, hc2⟩ := own_slice hd2.crow
  have hk3 : ∀ g, g < w2.heap.size → g ≠ sb → w3.heap[g]? = w2.heap[g]? := hw3 ▸ set_other
  have hc3 : HasBytes w3 w3.heap.size Ac S.C.length S.C := by
    obtain ⟨_, _, e, -, -, hh⟩ := own_slice (own_keep1 hd2.crow fun g hg => hk3 g (hd2.crow.lt g hg).2 (box_ne hd2.box (by decide) hd2.crow hg))
    injection e with e1 e2 e3
    subst e1
    exact hh
  have Hd2 := Lib.hid hd2
  have HD2 := Lib.hid hD2
  have K2 := Lib.hid k2
  have S2 := Lib.hid s2
  have Hw3 := Lib.hid hw3
  have Hc3 := Lib.hid hc3
  clear hd2 hD2 k2 s2 hbx hc2 hk3 hc3
  go_wp2_with fail
  refine (bclone_any Ac cc w3.heap.size S.C w3 Hc3.out (by omega) (Nat.le_refl _)).mono ?_
  rintro e w4 ⟨s, rfl, hs, hb4⟩
  go_wp2
  go_ret3
  exact start_end H.out HD.out Hown.out Hl.out Hb1.out Hd2.out HD2.out K2.out S2.out Hw3.out hs hb4
end

end Go.Proofs.Ytghcmlipbmmfjaa
