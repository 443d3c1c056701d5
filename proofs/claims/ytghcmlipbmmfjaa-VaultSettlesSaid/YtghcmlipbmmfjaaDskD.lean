/- Crash, Checkpoint, Resize, Flip of package disk. Condition: a disk in memory, of at most a million bytes. -/
import Derived.Test.YtghcmlipbmmfjaaDskC
namespace Go.Proofs.Ytghcmlipbmmfjaa
open Go.RowKit
open Go.Lib (strCells)

section
variable {w : World} {B sb : Nat} {D : Nat → Prop} {S : DState}
theorem off_end {w w' w1 w2 : World} {B sb : Nat} {D : Nat → Prop} {S : DState} {cp lg ws : Value} (h : Dsk w' B sb cp lg ws S) (hD : ∀ g, DBlk sb cp lg ws g → D g) (k : Keeps D w w') (s : w'.heap.size = w.heap.size) (h1 : w'.setCell ⟨sb, 4, none⟩ (.slice none 0 0) = w1) (h2 : w1.setCell ⟨sb, 1, none⟩ (.bool false) = w2) :
    Disk w2 B sb D { S with on := false, W := [] } ∧ Keeps D w w2 ∧ w2.heap.size = w.heap.size := by
  subst h1
  have e1 : Box (w'.setCell ⟨sb, 4, none⟩ (.slice none 0 0)) sb 58 #[.int .i64 (S.room : Int), .bool S.on, cp, lg, .slice none 0 0] := h.box.set_ 4 (.slice none 0 0)
  have hd1 : Dsk (w'.setCell ⟨sb, 4, none⟩ (.slice none 0 0)) B sb cp lg (.slice none 0 0) { S with W := [] } := h.noWaits set_other e1
  subst h2
  have hd2 := hd1.turn (w' := (w'.setCell ⟨sb, 4, none⟩ (.slice none 0 0)).setCell ⟨sb, 1, none⟩ (.bool false)) set_other (room := S.room) (on := false) (e1.set_ 1 (.bool false))
  refine ⟨⟨_, _, _, hd2, fun g hg => ?_⟩, (k.trans (Keeps.set (hD sb (.inl rfl))) fun g hg => .inl hg).trans (Keeps.set (hD sb (.inl rfl))) fun g hg => .inl hg, by simp [World.setCell, s]⟩
  rcases hg with hg | hg | hg | hg
  · exact hD g (.inl hg)
  · exact hD g (.inr (.inl hg))
  · exact hD g (.inr (.inr (.inl hg)))
  · cases hg
theorem crash_all (h : Disk w B sb D S) (hon : S.on = true) (keep torn : Int) (K : Nat) (hK : (if keep < 0 then 0 else keep) = (K : Int)) (hW : S.W.length ≤ K) :
    Calls Try.prog 15 #[.pointer (some ⟨sb, 0, none⟩), .int .i64 keep, .int .i64 torn] w fun e w' => e = .returned (.tuple #[]) ∧ Disk w' B sb D { S with on := false, W := [] } ∧ Keeps D w w' ∧ w'.heap.size = w.heap.size := by
  obtain ⟨cp, lg, ws, h, hD⟩ := h
  obtain ⟨-, q1, -, -, q4⟩ := h.cells
  obtain ⟨-, f1, -, -, f4⟩ := h.marks
  rw [hon] at q1
  obtain ⟨A, c, rfl, -⟩ := own_slice h.wrow
  obtain ⟨w1, hw1⟩ : ∃ w1, w.setCell ⟨sb, 4, none⟩ (.slice none 0 0) = w1 := ⟨_, rfl⟩
  have hb1 : Box w1 sb 58 _ := hw1 ▸ h.box.set_ 4 (.slice none 0 0)
  obtain ⟨w2, hw2⟩ : ∃ w2, w1.setCell ⟨sb, 1, none⟩ (.bool false) = w2 := ⟨_, rfl⟩
  have c1 := hb1.cell 1
  have g1 := hb1.frozen 1
  have hlt : (S.W.length : Int) ≤ (K : Int) := by omega
  have Hend := Lib.hid (off_end (w := w) h hD (Keeps.of (Below.refl _ _)) rfl hw1 hw2)
  clear h hD hb1 hW hon
  go_enter Try.func15, Try.ntmps15
  go_wp2
  go_end0
  exact ⟨rfl, Hend.out⟩
set_option maxHeartbeats 800000 in
theorem crash_at (h : Disk w B sb D S) (hon : S.on = true) (keep torn : Int) (K b e T t : Nat) (hK : (if keep < 0 then 0 else keep) = (K : Int)) (hW : S.W.length ≤ 1000000) (hb : S.W[K]? = some b) (he1 : K + 1 < S.W.length → S.W[K + 1]? = some e) (he2 : S.W.length = K + 1 → S.L.length = e) (hbe : b < e) (heL : e ≤ S.L.length) (hL : S.L.length ≤ 1000000)
    (hT : (if torn < 0 then 0 else torn) = (T : Int)) (ht : t = min T (e - 1 - b)) :
    Calls Try.prog 15 #[.pointer (some ⟨sb, 0, none⟩), .int .i64 keep, .int .i64 torn] w fun e w' => e = .returned (.tuple #[]) ∧ Disk w' B sb D { S with on := false, L := S.L.take (b + t), W := [], k := false } ∧ Keeps D w w' ∧ w'.heap.size = w.heap.size := by
  have hKW := (List.getElem?_eq_some_iff.1 hb).1
  have Hend : Hid (∀ j : Nat, Calls Try.prog 29 #[.pointer (some ⟨sb, 0, none⟩), .int .i64 (K : Int)] (w.drewN j) fun x w' => x = .returned (.int .i64 (e : Int)) ∧ w.drewN j = w') := Lib.hid (by
    intro j
    have hj := h.below (below_drews (Below.refl w.heap.size w) j)
    by_cases e0 : K + 1 < S.W.length
    · exact end_in hj (he1 e0) (by omega)
    · have := end_out hj (k := K) (by omega) (by omega)
      rwa [he2 (by omega)] at this)
  obtain ⟨cp, lg, ws, h, hD⟩ := h
  obtain ⟨-, q1, -, -, q4⟩ := h.cells
  rw [hon] at q1
  have hw := h.wrow
  obtain ⟨A, c, rfl, -⟩ := own_slice hw
  obtain ⟨g, rfl, -⟩ := own_at hw (by omega)
  have hcK : w.cell? ⟨g, K, none⟩ = some (.int .i64 (b : Int)) := by
    rw [hw.cellAt K (by omega)]
    simp [natCells, hb]
  have H := Lib.hid h
  have HD := Lib.hid hD
  obtain ⟨n, hn⟩ : ∃ n, S.W.length = n := ⟨_, rfl⟩
  rw [hn] at q4 hKW hW
  have K0 : (0 : Int) ≤ (K : Int) := by omega
  have K1 : (K : Int) < (n : Int) := by omega
  have HeL := Lib.hid heL
  have HL := Lib.hid hL
  have heb : e ≤ 1000000 := by omega
  have hmin : (if (e : Int) - 1 - (b : Int) < (T : Int) then (e : Int) - 1 - (b : Int) else (T : Int)) = (t : Int) := by subst ht; split <;> omega
  have hcut : ((b : Int) + (t : Int)) = ((b + t : Nat) : Int) := by omega
  have Hcut := Lib.hid hcut
  have htl : t ≤ e - 1 - b := by omega
  clear ht
  clear h hD hn hb he1 he2 hon heL hw hL hcut
  go_enter Try.func15, Try.ntmps15
  go_wp2
  go_quiet (first | (go_at_call 29; refine quietS (Hend.out _)))
  have Hcall := Lib.hid (cut_any (z := false) (w := w.drewN nq) ⟨cp, lg, _, H.out.below (below_drews (Below.refl _ _) _), HD.out, fun e => by cases e⟩ ((b : Int) + (t : Int)) (b + t) Hcut.out (by have := HeL.out; omega))
  have Hkd : Hid (Keeps D w (w.drewN nq)) := Lib.hid (Keeps.of (below_drews (Below.refl _ _) _))
  go_wp2_with fail
  refine Hcall.out.mono ?_
  rintro x w1 ⟨rfl, ⟨cp1, lg1, ws1, hd1, hD1⟩, k1, s1⟩
  obtain ⟨-, p1, -, -, p4⟩ := hd1.cells
  obtain ⟨-, f1, -, -, f4⟩ := hd1.marks
  obtain ⟨w2, hw2⟩ : ∃ w2, w1.setCell ⟨sb, 4, none⟩ (.slice none 0 0) = w2 := ⟨_, rfl⟩
  have hb2 : Box w2 sb 58 _ := hw2 ▸ hd1.box.set_ 4 (.slice none 0 0)
  obtain ⟨w3, hw3⟩ : ∃ w3, w2.setCell ⟨sb, 1, none⟩ (.bool false) = w3 := ⟨_, rfl⟩
  have c1 := hb2.cell 1
  have g1 := hb2.frozen 1
  have Hoff := Lib.hid (off_end (w := w) hd1 hD1 (Hkd.out.trans k1 fun g hg => .inl hg) s1 hw2 hw3)
  clear hd1 hD1 k1 hb2
  go_wp2
  go_end0
  exact ⟨rfl, Hoff.out⟩

theorem checkpoint_busy (h : Disk w B sb D S) (hon : S.on = true) (hW : 0 < S.W.length) (v : Value) :
    Calls Try.prog 22 #[.pointer (some ⟨sb, 0, none⟩), v] w fun e w' => e = .returned (.int .i64 10) ∧ w = w' := by
  obtain ⟨cp, lg, ws, h, hD⟩ := h
  obtain ⟨-, q1, -, -, q4⟩ := h.cells
  rw [hon] at q1
  obtain ⟨A, c, rfl, -⟩ := own_slice h.wrow
  have h0 : (0 : Int) < (S.W.length : Int) := by omega
  clear h hD hon
  go_enter Try.func22, Try.ntmps22
  go_wp2
  go_ret
  exact ⟨rfl, rfl⟩
theorem checkpoint_full (h : Disk w B sb D S) (hon : S.on = true) (hW : S.W = []) (A : Option Addr) (n c : Nat) (C : List UInt8) (hn : C.length = n) (hn1 : n ≤ 1000000) (hf : S.room < takenN C) :
    Calls Try.prog 22 #[.pointer (some ⟨sb, 0, none⟩), .slice A n c] w fun e w' => e = .returned (.int .i64 6) ∧ ∃ m, w' = w.drewN m := by
  obtain ⟨cp, lg, ws, h, hD⟩ := h
  obtain ⟨q0, q1, -, -, q4⟩ := h.cells
  have hw := h.wrow
  rw [hW] at hw
  obtain ⟨Aw, cw, rfl, -⟩ := own_slice hw
  rw [hon] at q1
  have Hc := Lib.hid (fun w => taken_any A n c C w hn (by omega))
  obtain ⟨X, hX⟩ : ∃ X, takenN C = X := ⟨_, rfl⟩
  rw [hX] at Hc hf
  have hf1 : decide ((S.room : Int) < (X : Int)) = true := by simp; omega
  clear h hD hon hX hw hn hW
  go_enter Try.func22, Try.ntmps22
  go_wp2
  go_quiet (first | (go_at_call 32; refine quietS (Hc.out _)))
  go_wp2
  go_ret
  exact ⟨rfl, _, rfl⟩
theorem check_end {w w1 w2 w3 : World} {B sb : Nat} {D : Nat → Prop} {S : DState} {cp lg ws s : Value} {C : List UInt8} (h : Dsk w B sb cp lg ws S) (hD : ∀ g, DBlk sb cp lg ws g → D g) (hs : w1.ownsRow w.heap.size 5 1 s C.length (byteCells C)) (hb : Below w.heap.size w w1)
    (h2 : w1.setCell ⟨sb, 2, none⟩ s = w2) (h3 : w2.setCell ⟨sb, 3, none⟩ (.slice none 0 0) = w3) :
    DiskZ w3 B sb (Up D w w3) true { S with C := C, L := [], k := true } ∧ Keeps D w w3 := by
  have hd1 := h.below hb
  have e2 : Box w2 sb 58 #[.int .i64 (S.room : Int), .bool S.on, s, lg, ws] := h2 ▸ hd1.box.set_ 2 s
  have e3 : Box w3 sb 58 #[.int .i64 (S.room : Int), .bool S.on, s, .slice none 0 0, ws] := h3 ▸ e2.set_ 3 (.slice none 0 0)
  have hs3 : w3.heap.size = w1.heap.size := by rw [← h3, ← h2]; simp [World.setCell]
  have hk : ∀ g, g < w1.heap.size → g ≠ sb → w3.heap[g]? = w1.heap[g]? := fun g hg hne => by
    rw [← h3, set_other g (by rw [← h2]; simpa [World.setCell] using hg) hne, ← h2, set_other g hg hne]
  have k2 : Keeps D w1 w2 := h2 ▸ Keeps.set (hD sb (.inl rfl))
  have k3 : Keeps D w2 w3 := h3 ▸ Keeps.set (hD sb (.inl rfl))
  have hw := hd1.wrow
  have hBw : B ≤ w.heap.size := by have := (h.lt (.inl rfl : DBlk sb cp lg ws sb)); omega
  refine ⟨⟨s, .slice none 0 0, ws, ⟨h.sB, e3, own_base (own_keep1 hs fun g hg => hk g (hs.lt g hg).2 (box_ne hd1.box (by decide) hs hg)) hBw, .inl ⟨rfl, rfl⟩, fun _ => World.ownsRow_nil _ _ _ _, own_keep1 hw fun g hg => hk g (hw.lt g hg).2 (box_ne hd1.box (by decide) hw hg), fun g _ e => by cases e⟩, fun g hg => ?_, fun _ => rfl⟩, ((Keeps.of hb).trans k2 fun g hg => .inl hg).trans k3 fun g hg => .inl hg⟩
  rcases hg with rfl | hg | hg | hg
  · exact .inl (hD _ (.inl rfl))
  · have := hs.lt g hg
    exact .inr (by omega)
  · cases hg
  · exact .inl (hD g (.inr (.inr (.inr hg))))
theorem checkpoint_ok (h : Disk w B sb D S) (hon : S.on = true) (hW : S.W = []) (A : Option Addr) (c Bc : Nat) (C : List UInt8) (hh : HasBytes w Bc A C.length C) (hBc : Bc ≤ w.heap.size) (hn1 : C.length ≤ 1000000) (hf : takenN C ≤ S.room) :
    Calls Try.prog 22 #[.pointer (some ⟨sb, 0, none⟩), .slice A C.length c] w fun e w' => e = .returned (.int .i64 0) ∧ DiskZ w' B sb (Up D w w') true { S with C := C, L := [], k := true } ∧ Keeps D w w' := by
  obtain ⟨cp, lg, ws, h, hD⟩ := h
  obtain ⟨q0, q1, -, -, q4⟩ := h.cells
  have hw := h.wrow
  rw [hW] at hw
  obtain ⟨Aw, cw, rfl, -⟩ := own_slice hw
  rw [hon] at q1
  have Hc := Lib.hid (fun w => taken_any A C.length c C w rfl (by omega))
  obtain ⟨X, hX⟩ : ∃ X, takenN C = X := ⟨_, rfl⟩
  rw [hX] at Hc hf
  have hf1 : decide ((S.room : Int) < (X : Int)) = false := by simp; omega
  have hf2 : (X : Int) ≤ (S.room : Int) := by omega
  have H := Lib.hid h
  have HD := Lib.hid hD
  have Hh := Lib.hid hh
  clear h hD hon hX hw hW hh
  go_enter Try.func22, Try.ntmps22
  go_wp2
  go_quiet (first | (go_at_call 32; refine quietS (Hc.out _)))
  have Hbd : Hid (Below w.heap.size w (w.drewN nq)) := Lib.hid (below_drews (Below.refl _ _) _)
  have Hhd := Lib.hid (Hh.out.belowOf Hbd.out hBc)
  go_wp2_with fail
  refine (bclone_any A c Bc C (w.drewN nq) Hhd.out (by omega) hBc).mono ?_
  rintro e w1 ⟨s, rfl, hs, hb1⟩
  have Hb1 : Hid (Below w.heap.size w w1) := Lib.hid (Hbd.out.trans hb1)
  have hd1 := H.out.below Hb1.out
  obtain ⟨-, -, p2, p3, -⟩ := hd1.cells
  obtain ⟨-, -, f2, f3, -⟩ := hd1.marks
  obtain ⟨w2, hw2⟩ : ∃ w2, w1.setCell ⟨sb, 2, none⟩ s = w2 := ⟨_, rfl⟩
  have hb2 : Box w2 sb 58 _ := hw2 ▸ hd1.box.set_ 2 s
  have c3 := hb2.cell 3
  have g3 := hb2.frozen 3
  obtain ⟨w3, hw3⟩ : ∃ w3, w2.setCell ⟨sb, 3, none⟩ (.slice none 0 0) = w3 := ⟨_, rfl⟩
  have Hend := Lib.hid (check_end H.out HD.out hs Hb1.out hw2 hw3)
  obtain ⟨As, cs, rfl, -⟩ := own_slice hs
  clear hs hb1 hd1 hb2
  go_wp2
  go_ret
  exact ⟨rfl, Hend.out⟩

end

end Go.Proofs.Ytghcmlipbmmfjaa
