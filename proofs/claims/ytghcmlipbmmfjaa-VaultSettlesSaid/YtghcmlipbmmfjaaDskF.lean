/- Append of package disk where there is room. Condition: a disk in memory, of at most a million bytes. -/
import Derived.Test.YtghcmlipbmmfjaaDskE
import Derived.Test.YtghcmlipbmmfjaaStep
namespace Go.Proofs.Ytghcmlipbmmfjaa
open Go.RowKit
open Go.Lib (strCells)

theorem dint_elem : ElemN Try.prog 3 1 8 (.int .i64 0) := ⟨by kernel_rfl, rfl⟩
section
variable {B sb : Nat} {D : Nat → Prop} {S : DState} {cp lg ws : Value}
theorem waits_end {wd wL wA w5 : World} {ws' : Value} {u : Nat} (h : Dsk wd B sb cp lg ws S) (bL : Below wd.heap.size wd wL) (gA : wL.grownBy wA ws.ownBlock) (oA : wA.ownsRow B 3 1 ws' (S.W.length + 1) (natCells S.W ++ natCells [u])) (zA : ws'.ownBlock = ws.ownBlock ∨ ws'.ownBlock = some wL.heap.size)
    (h5 : wA.setCell ⟨sb, 4, none⟩ ws' = w5) : Dsk w5 B sb cp lg ws' { S with W := S.W ++ [u] } ∧ Keeps (DBlk sb cp lg ws) wd w5 ∧ ∀ g, ws'.ownBlock = some g → ws.ownBlock = some g ∨ (wd.heap.size ≤ g ∧ g < w5.heap.size) := by
  have s5 : w5.heap.size = wA.heap.size := by rw [← h5]; simp [World.setCell]
  have hsb : some sb ≠ ws.ownBlock := fun e => box_ne h.box (by decide) h.wrow e.symm rfl
  have hk : ∀ i, i < wd.heap.size → i ≠ sb → some i ≠ ws.ownBlock → w5.heap[i]? = wd.heap[i]? := fun i hi h1 h2 => by
    rw [← h5, Below.heap_setCell _ _ _ _ h1, gA.block i (Nat.lt_of_lt_of_le hi bL.size) h2, bL.block i hi]
  have hbox : Box w5 sb 58 #[.int .i64 (S.room : Int), .bool S.on, cp, lg, ws'] := h5 ▸ ((h.box.below bL h.box.lt).grown gA hsb).set_ 4 ws'
  have hw' : w5.ownsRow B 3 1 ws' (S.W ++ [u]).length (natCells (S.W ++ [u])) := by
    rw [natCells_app, List.length_append, ← h5]
    refine own_keep1 oA fun g hg => Below.heap_setCell _ _ _ _ fun e => ?_
    exact box_ne ((h.box.below bL h.box.lt).grown gA hsb) (by decide) oA hg e
  refine ⟨⟨h.sB, hbox, own_keep1 h.crow fun g hg => hk g (h.crow.lt g hg).2 (box_ne h.box (by decide) h.crow hg) fun e => own_ne h.crow h.wrow (by decide) hg e.symm rfl,
    h.lrow.keep fun g hg => hk g (h.lt (.inr (.inr (.inl hg)))).2 (h.logNe hg).1 fun e => (h.logNe hg).2 e.symm, fun e => own_keep1 (h.lown e) fun g hg => hk g (h.lt (.inr (.inr (.inl hg)))).2 (h.logNe hg).1 fun e => (h.logNe hg).2 e.symm, hw', h.apart⟩,
    ⟨?_, ?_, ?_, ?_, fun i hi hn => hk i hi (fun e => hn (.inl e)) fun e => hn (.inr (.inr (.inr e.symm)))⟩, fun g hg => ?_⟩
  · rw [← h5]; exact gA.os.trans bL.os
  · rw [← h5]; exact gA.tape.trans bL.tape
  · rw [← h5]; exact gA.output.trans bL.output
  · rw [s5]; exact Nat.le_trans bL.size gA.size
  · rcases zA with e | e
    · exact .inl (e ▸ hg)
    · have := (oA.lt g hg).2
      rw [e] at hg
      injection hg with hg
      have := bL.size
      exact .inr (by omega)
theorem log_end {w5 w6 w7 : World} {lg' : Value} {f : List UInt8} {m : Nat} (h : Dsk w5 B sb cp lg ws S) (gA : w5.grownBy w6 lg.ownBlock) (oA : w6.ownsRow B 5 1 lg' (S.L.length + m) (byteCells S.L ++ byteCells f)) (hm : f.length = m) (zA : lg'.ownBlock = lg.ownBlock ∨ lg'.ownBlock = some w5.heap.size)
    (h7 : w6.setCell ⟨sb, 3, none⟩ lg' = w7) : Dsk w7 B sb cp lg' ws { S with L := S.L ++ f } ∧ Keeps (DBlk sb cp lg ws) w5 w7 ∧ ∀ g, lg'.ownBlock = some g → lg.ownBlock = some g ∨ (w5.heap.size ≤ g ∧ g < w7.heap.size) := by
  have s7 : w7.heap.size = w6.heap.size := by rw [← h7]; simp [World.setCell]
  have hsb : some sb ≠ lg.ownBlock := fun e => (h.logNe e.symm).1 rfl
  have hk : ∀ i, i < w5.heap.size → i ≠ sb → some i ≠ lg.ownBlock → w7.heap[i]? = w5.heap[i]? := fun i hi h1 h2 => by
    rw [← h7, Below.heap_setCell _ _ _ _ h1, gA.block i hi h2]
  have hbox : Box w7 sb 58 #[.int .i64 (S.room : Int), .bool S.on, cp, lg', ws] := h7 ▸ (h.box.grown gA hsb).set_ 3 lg'
  have hl' : w7.ownsRow B 5 1 lg' (S.L ++ f).length (byteCells (S.L ++ f)) := by
    rw [byteCells_app, List.length_append, hm, ← h7]
    exact own_keep1 oA fun g hg => Below.heap_setCell _ _ _ _ fun e => box_ne (h.box.grown gA hsb) (by decide) oA hg e
  have hnew : ∀ g, lg'.ownBlock = some g → lg.ownBlock = some g ∨ (w5.heap.size ≤ g ∧ g < w7.heap.size) := fun g hg => by
    rcases zA with e | e
    · exact .inl (e ▸ hg)
    · have := (oA.lt g hg).2
      rw [e] at hg
      injection hg with hg
      exact .inr (by omega)
  refine ⟨⟨h.sB, hbox, own_keep1 h.crow fun g hg => hk g (h.crow.lt g hg).2 (box_ne h.box (by decide) h.crow hg) fun e => h.apart g hg e.symm, CutRow.of_own hl', fun _ => hl',
    own_keep1 h.wrow fun g hg => hk g (h.wrow.lt g hg).2 (box_ne h.box (by decide) h.wrow hg) fun e => (h.logNe e.symm).2 hg, fun g hg e => ?_⟩,
    ⟨?_, ?_, ?_, ?_, fun i hi hn => hk i hi (fun e => hn (.inl e)) fun e => hn (.inr (.inr (.inl e.symm)))⟩, hnew⟩
  · rcases hnew g e with e' | e'
    · exact h.apart g hg e'
    · have := (h.crow.lt g hg).2
      omega
  · rw [← h7]; exact gA.os
  · rw [← h7]; exact gA.tape
  · rw [← h7]; exact gA.output
  · rw [s7]; exact gA.size
/-- what Append leaves where there is room -/
theorem append_end {w wd w5 w7 : World} {lg' ws' : Value} {f : List UInt8} (h : Dsk w B sb cp lg ws S) (hD : ∀ g, DBlk sb cp lg ws g → D g) (bd : Below w.heap.size w wd) (k5 : Keeps (DBlk sb cp lg ws) wd w5) (n5 : ∀ g, ws'.ownBlock = some g → ws.ownBlock = some g ∨ (wd.heap.size ≤ g ∧ g < w5.heap.size))
    (h7 : Dsk w7 B sb cp lg' ws' { S with L := S.L ++ f, W := S.W ++ [S.L.length] }) (k7 : Keeps (DBlk sb cp lg ws') w5 w7) (n7 : ∀ g, lg'.ownBlock = some g → lg.ownBlock = some g ∨ (w5.heap.size ≤ g ∧ g < w7.heap.size)) :
    Disk w7 B sb (Up D w w7) { S with L := S.L ++ f, W := S.W ++ [S.L.length] } ∧ Keeps D w w7 := by
  have hs1 := bd.size
  have hs2 := k5.size
  have hs3 := k7.size
  refine ⟨⟨cp, lg', ws', h7, fun g hg => ?_⟩, ⟨k7.os.trans (k5.os.trans bd.os), k7.tape.trans (k5.tape.trans bd.tape), k7.output.trans (k5.output.trans bd.output), by omega, fun i hi hn => ?_⟩⟩
  · rcases hg with rfl | hg | hg | hg
    · exact .inl (hD _ (.inl rfl))
    · exact .inl (hD g (.inr (.inl hg)))
    · rcases n7 g hg with e | e
      · exact .inl (hD g (.inr (.inr (.inl e))))
      · exact .inr (by omega)
    · rcases n5 g hg with e | e
      · exact .inl (hD g (.inr (.inr (.inr e))))
      · exact .inr (by omega)
  · have hn' : ¬ DBlk sb cp lg ws i := fun e => hn (hD i e)
    rw [k7.block i (by omega) fun e => ?_, k5.block i (by omega) hn', bd.block i hi]
    rcases e with e | e | e | e
    · exact hn' (.inl e)
    · exact hn' (.inr (.inl e))
    · exact hn' (.inr (.inr (.inl e)))
    · rcases n5 i e with e | e
      · exact hn' (.inr (.inr (.inr e)))
      · omega
end

section
variable {w : World} {B sb : Nat} {D : Nat → Prop} {S : DState}
set_option maxHeartbeats 1600000 in
theorem append_ok (h : Disk w B sb D S) (hon : S.on = true) (hk : S.k = true) (A : Option Addr) (n c Bl : Nat) (l : List UInt8) (hh : HasBytes w Bl A n l) (hB : Bl ≤ w.heap.size) (hn : n ≤ 65536) (hC : S.C.length ≤ 1000000) (hL : S.L.length ≤ 1000000) (hW : S.W.length ≤ 1000000) (hf : S.used + (8 + n) ≤ S.room) :
    Calls Try.prog 26 #[.pointer (some ⟨sb, 0, none⟩), .slice A n c] w fun e w' => e = .returned (.int .i64 0) ∧ Disk w' B sb (Up D w w') { S with L := S.L ++ frameOf l, W := S.W ++ [S.L.length] } ∧ Keeps D w w' := by
  have HDk := Lib.hid h
  have Hln := Lib.hid hh.len
  obtain ⟨cp, lg, ws, h, hD⟩ := h
  obtain ⟨q0, q1, -⟩ := h.cells
  have hsb := h.box.lt
  rw [hon] at q1
  have Hw := Lib.hid (wrap_any A n c Bl l w hh hB hn)
  have Hu := Lib.hid (fun w (h : Disk w B sb D S) => used_any h (by omega) (by omega))
  have hX1 : S.used ≤ 2000008 := by unfold DState.used takenN; split <;> omega
  obtain ⟨X, hX⟩ : ∃ X, S.used = X := ⟨_, rfl⟩
  rw [hX] at Hu hf hX1
  have hf1 : decide ((S.room : Int) < (X : Int) + (8 + (n : Int))) = false := by simp; omega
  have H := Lib.hid h
  have HD := Lib.hid hD
  have Hk := Lib.hid hk
  have Hlim := Lib.hid (And.intro hL hW)
  clear h hD hon hX hh hk hL hW
  go_enter Try.func26, Try.ntmps26
  go_wp2_with fail
  refine Hw.out.mono ?_
  rintro e w1 ⟨v, rfl, hown, hb1⟩
  obtain ⟨A1, c1, rfl, -⟩ := own_slice hown
  have p0 : w1.cell? ⟨sb, 0, none⟩ = some (.int .i64 (S.room : Int)) := (hb1.cell (by exact hsb)).trans q0
  have Hown1 := Lib.hid hown
  have Hb1 := Lib.hid hb1
  have Hu1 := Lib.hid (fun j => Hu.out (w1.drewN j) ((HDk.out.below hb1).below (below_drews (Below.refl _ _) j)))
  clear hown hb1
  go_wp2
  go_quiet (first | (go_at_call 20; refine Calls.quiet_of (Hu1.out _)))
  have Hbd : Hid (Below w.heap.size w (w1.drewN nq)) := Lib.hid (below_drews Hb1.out _)
  have Hownd : Hid ((w1.drewN nq).ownsRow w.heap.size 5 1 (.slice A1 (8 + n) c1) (8 + n) (byteCells (frameOf l))) := Lib.hid Hown1.out
  clear p0 Hu1
  generalize w1.drewN nq = wd at *
  have hd := H.out.below Hbd.out
  obtain ⟨-, -, -, r3, r4⟩ := hd.cells
  obtain ⟨-, -, -, g3, g4⟩ := hd.marks
  obtain ⟨Al, cl, hlg, -⟩ := own_slice (hd.lown Hk.out)
  obtain ⟨Aw, cw, hws, -⟩ := own_slice hd.wrow
  subst hlg
  subst hws
  have Hd := Lib.hid hd
  have bL : Below wd.heap.size wd (wd.alloc (.cells #[.int .i64 (S.L.length : Int)] 3)).drew := (dsk_alloc wd _).drew
  have BL := Lib.hid bL
  have Hir : Hid ((wd.alloc (.cells #[.int .i64 (S.L.length : Int)] 3)).drew.ownsRow B 3 1 (.slice Aw S.W.length cw) S.W.length (natCells S.W)) := Lib.hid (own_belowN hd.wrow bL)
  have Hlit := Lib.hid (one_at wd wd.heap.size rfl (.int .i64 (S.L.length : Int)) 3)
  have Hsb : Hid (some sb ≠ (Value.slice Aw S.W.length cw).ownBlock) := Lib.hid fun e => box_ne hd.box (by decide) hd.wrow e.symm rfl
  have hBw : B ≤ (wd.alloc (.cells #[.int .i64 (S.L.length : Int)] 3)).drew.heap.size := by
    have h1 := hd.sB
    have h2 := hd.box.lt
    have h3 := bL.size
    omega
  have HBw := Lib.hid hBw
  have r4a : (wd.alloc (.cells #[.int .i64 (S.L.length : Int)] 3)).cell? ⟨sb, 4, none⟩ = some (.slice Aw S.W.length cw) := ((dsk_alloc wd _).cell hd.box.lt).trans r4
  clear hd bL hBw
  go_wp2
  go_region_law (first | (refine step_append_hasN (by rfl) _ _ _ (by rfl) 3 dint_elem (by omega) Try.underlying56 (by rfl) Hir.out (by rfl) Hlit.out (one_int _ _) (by have := Hlim.out.2; simp only [maxLen]; omega) (by have := Hlim.out.2; omega) HBw.out ?_; intro ws' wA oA gA zA; obtain ⟨Ax, cx, rfl, -⟩ := own_slice oA; have bxA := (Hd.out.box.below BL.out Hd.out.box.lt).grown gA Hsb.out; have c4A := bxA.cell 4; have f4A := bxA.frozen 4))
  all_goals
    obtain ⟨w5, hw5⟩ : ∃ w5, wA.setCell ⟨sb, 4, none⟩ (.slice Ax (S.W.length + 1) cx) = w5 := ⟨_, rfl⟩
    obtain ⟨hd5, k5, n5⟩ := waits_end (u := S.L.length) Hd.out BL.out gA oA zA hw5
    have p3 := hd5.cells.2.2.2.1
    have f3 := hd5.marks.2.2.2.1
    have Hd5 := Lib.hid hd5
    have K5 := Lib.hid k5
    have N5 := Lib.hid n5
    have Hf : Hid (HasBytes w5 w5.heap.size A1 (8 + n) (frameOf l)) := Lib.hid (by
      have h1 : w5.ownsRow w.heap.size 5 1 (.slice A1 (8 + n) c1) (8 + n) (byteCells (frameOf l)) := own_keep1 Hownd.out fun g hg => k5.block g (Hownd.out.lt g hg).2 fun e => by
        have h1 := (Hownd.out.lt g hg).1
        have h2 := (H.out.lt e).2
        omega
      exact Has.of_own h1)
    have hB5 : B ≤ w5.heap.size := by
      have h1 := hd5.sB
      have h2 := hd5.box.lt
      omega
    have HB5 := Lib.hid hB5
    clear hd5 k5 n5 bxA c4A f4A oA gA zA r3 r4 r4a g3 g4 hB5
    go_wp2_with (at_builtin; refine wpList_append_has rfl (.tmp 48) (.tmp 49) _ rfl 5 u8_elem Try.underlying47 rfl (Hd5.out.lown Hk.out) rfl Hf.out (byteCells_one _) (by have := Hlim.out.1; show S.L.length + (8 + n) ≤ maxLen; simp only [maxLen]; omega) (by have := Hlim.out.1; show (S.L.length + (8 + n)) * 1 ≤ 140737488355328; omega) HB5.out ?_; intro lg' w6 o6 g6 z6; obtain ⟨Ay, cy, rfl, -⟩ := own_slice o6; have bx6 := Hd5.out.box.grown g6 (fun e => (Hd5.out.logNe e.symm).1 rfl); have c6 := bx6.cell 3; have f6 := bx6.frozen 3)
    go_ret
    have hend := log_end Hd5.out g6 o6 (by rw [frameOf_len, Hln.out]) z6 rfl
    exact ⟨rfl, append_end H.out HD.out Hbd.out K5.out N5.out hend.1 hend.2.1 hend.2.2⟩
end

end Go.Proofs.Ytghcmlipbmmfjaa
