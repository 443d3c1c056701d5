/- Append onto a log that may have been cut off: its room in memory may end ahead of its block's end. Condition: a disk in memory, of at most a million bytes. -/
import Derived.Test.YtghcmlipbmmfjaaDskG
namespace Go.Proofs.Ytghcmlipbmmfjaa
open Go.RowKit
open Go.Lib (strCells)

section
variable {P : Program} {w : World}
theorem run_append_cut {t ty : TypeId} (he : Elem P 5 1 (.int .u8 0)) (ht : P.underlying t = some (.slice 5)) {B : Nat} {v : Value} {l : List UInt8} (hown : CutRow w B v l)
    {C n : Nat} {A : Option Addr} {f : List UInt8} (c : Nat) (hr : HasBytes w C A n f) (h63 : l.length + n ≤ maxLen) (hby : (l.length + n) * 1 ≤ 140737488355328) (hB : B ≤ w.heap.size) :
    ∃ v' w', (Builtin.append_ #[t, t] ty #[v, .slice A n c]).run P w = .ok v' w' ∧ CutRow w' B v' (l ++ f) ∧ w.grownBy w' v.ownBlock ∧ (v'.ownBlock = v.ownBlock ∨ v'.ownBlock = some w.heap.size) := by
  have hfl : (l ++ f).length = l.length + n := by rw [List.length_append, hr.len]
  rcases hown with ⟨rfl, rfl⟩ | ⟨g, cap, cur, rfl, hBg, hg, hn, hm, hs, htk⟩
  · obtain ⟨v', w', h1, h2, h3, h4⟩ := run_append_has (P := P) (w := w) (ty := ty) he ht (World.ownsRow_nil w B 5 1) c hr (byteCells_one _) (by simpa using h63) (by simpa using hby) hB
    refine ⟨v', w', h1, CutRow.of_own ?_, h3, h4⟩
    rw [hfl]
    simpa [byteCells] using h2
  · obtain ⟨i, hi, hz, hsz, hb⟩ := he.get
    cases A with
    | none =>
      have hn0 : n = 0 := by
        rcases Nat.eq_zero_or_pos n with h0 | h0
        · exact h0
        · obtain ⟨a, e, _⟩ := Has.cell hr h0; cases e
      subst hn0
      have hf : f = [] := List.eq_nil_of_length_eq_zero hr.len
      subst hf
      refine ⟨Value.slice (some ⟨g, 0, none⟩) l.length cap, w, ?_, ?_, World.grownBy.refl w _, .inl rfl⟩
      · simp [Builtin.append_, run_underlying ht, sizeOf, typeInfo, hi, Builtin.lenOf, Builtin.firstCells, hn, storeCells]
      · rw [List.append_nil]
        exact .inr ⟨g, cap, cur, rfl, hBg, hg, hn, hm, hs, htk⟩
    | some a =>
      have hcells : ∀ j u, (byteCells f)[j]? = some u → w.cell? (a.add j) = some u := fun j u hu => by
        obtain ⟨a', e', _, hc⟩ := hr.2 j u hu
        injection e' with e'
        subst e'
        exact hc
      have hl1 : (byteCells f).length = n * i.size := by rw [hsz, Nat.mul_one]; exact hr.1
      by_cases hroom : l.length + n ≤ cap
      · have hl2 := hr.1
        have hrun := run_append_room (P := P) w t ty 5 i ht hi g l.length cap cur hg a n c (byteCells f) hl1 hcells (byteCells_one _) hroom (by rw [hsz, Nat.mul_one, hl2]; omega)
        refine ⟨_, _, hrun, .inr ⟨g, cap, _, by rw [hfl], hBg, setRow_heap w g cur _ _ _ hg, by omega, hm, ?_, ?_⟩, ⟨rfl, rfl, rfl, by simp, fun k _ hk => setRow_other w g k _ (fun e => hk (by simp [Value.ownBlock, e]))⟩, .inl rfl⟩
        · rw [hsz, Nat.mul_one]
          simp only [List.size_toArray, List.length_append, List.length_take, List.length_drop, Array.length_toList]
          omega
        · rw [hsz, Nat.mul_one, htk, ← byteCells_app, ← byteCells_length (l ++ f)]
          exact List.take_left
      · have holds : ∀ j u, (byteCells l)[j]? = some u → w.cell? ((⟨g, 0, none⟩ : Addr).add j) = some u := fun j u hu => by
          have e : (⟨g, 0, none⟩ : Addr).add j = ⟨g, j, none⟩ := by unfold Addr.add; split <;> simp_all
          rw [e, cell_of_row w g j cur _ _ hg]
          rw [← htk, List.getElem?_take] at hu
          split at hu
          · simpa using hu
          · cases hu
        have hrun := run_append_grow (P := P) w t ty 5 i (.int .u8 0) ht hi hz ⟨g, 0, none⟩ l.length cap (byteCells l) (by rw [hsz, Nat.mul_one, byteCells_length]) holds a n c (byteCells f) hl1 hcells (by omega) (by simp only [maxLen] at h63; omega) (by rw [hb]; exact growslice_fits (by omega) hby)
        have hge := grownCap_ge w (l.length + n) cap 5
        have hl2 := hr.len
        refine ⟨_, _, hrun, .inr ⟨w.heap.size, _, _, by rw [hfl], hB, heap_alloc_new w.drew _, by omega, grownCap_le_maxLen w (l.length + n) cap 5 h63, ?_, ?_⟩, ⟨rfl, rfl, rfl, by simp, fun k hk _ => Below.heap_alloc w.drew _ k hk⟩, .inr rfl⟩
        · simp only [Array.size_append, List.size_toArray, size_zeroCells, he.one, byteCells_length]
          omega
        · simp only [Array.toList_append]
          rw [← byteCells_app, ← byteCells_length (l ++ f)]
          exact List.take_left

theorem wpList_append_cut {ops : Array Oper} {rest : List Oper} {o : Oper} {a : Act} {Q : Exit → Act → World → Prop} (hgd : o.guard = none) (s x : Operand) (t : TypeId)
    (ho : o.op = .call { callee := .builtin .append, args := #[s, x], argTypes := #[t, t] }) (he : Elem P 5 1 (.int .u8 0)) (ht : P.underlying t = some (.slice 5))
    {B : Nat} {v : Value} {l : List UInt8} (hs : a.eval s = v) (hown : CutRow w B v l) {C n c : Nat} {A : Option Addr} {f : List UInt8} (hx : a.eval x = .slice A n c) (hr : HasBytes w C A n f)
    (h63 : l.length + n ≤ maxLen) (hby : (l.length + n) * 1 ≤ 140737488355328) (hB : B ≤ w.heap.size)
    (h : ∀ v' w', CutRow w' B v' (l ++ f) → w.grownBy w' v.ownBlock → (v'.ownBlock = v.ownBlock ∨ v'.ownBlock = some w.heap.size) → wpList P ops Q rest (a.put o.dst v') w') :
    wpList P ops Q (o :: rest) a w := by
  obtain ⟨v', w', hrun, h2, h3, h4⟩ := run_append_cut (P := P) (w := w) (t := t) (ty := o.type) he ht hown c hr h63 hby hB
  refine wpList_plain hgd fun K hK => ?_
  unfold Oper.wp execOp
  simp only [ho, resolve, invoke, builtin, Sem.run_bind, Sem.run_pure, Result.andThen_ok, List.map_toArray, List.map_cons, List.map_nil, hs, hx, hrun]
  exact hK _ _ (h v' w' h2 h3 h4)
end

section
variable {B sb : Nat} {D : Nat → Prop} {S : DState} {cp lg ws : Value}
theorem log_end_cut {w5 w6 w7 : World} {lg' : Value} {f : List UInt8} (h : Dsk w5 B sb cp lg ws S) (gA : w5.grownBy w6 lg.ownBlock) (oA : CutRow w6 B lg' (S.L ++ f)) (zA : lg'.ownBlock = lg.ownBlock ∨ lg'.ownBlock = some w5.heap.size)
    (h7 : w6.setCell ⟨sb, 3, none⟩ lg' = w7) : Dsk w7 B sb cp lg' ws { S with L := S.L ++ f, k := false } ∧ Keeps (DBlk sb cp lg ws) w5 w7 ∧ ∀ g, lg'.ownBlock = some g → lg.ownBlock = some g ∨ (w5.heap.size ≤ g ∧ g < w7.heap.size) := by
  have s7 : w7.heap.size = w6.heap.size := by rw [← h7]; simp [World.setCell]
  have hsb : some sb ≠ lg.ownBlock := fun e => (h.logNe e.symm).1 rfl
  have hk : ∀ i, i < w5.heap.size → i ≠ sb → some i ≠ lg.ownBlock → w7.heap[i]? = w5.heap[i]? := fun i hi h1 h2 => by
    rw [← h7, Below.heap_setCell _ _ _ _ h1, gA.block i hi h2]
  have hbx := h.box.grown gA hsb
  have hbox : Box w7 sb 58 #[.int .i64 (S.room : Int), .bool S.on, cp, lg', ws] := h7 ▸ hbx.set_ 3 lg'
  have hl' : CutRow w7 B lg' (S.L ++ f) := by
    rw [← h7]
    refine oA.keep fun g hg => Below.heap_setCell _ _ _ _ fun e => ?_
    obtain ⟨_, cur, hc⟩ := oA.type hg
    unfold Box at hbx
    rw [show g = sb from e, hbx] at hc
    injection hc with hc
    injection hc with _ ht _
    exact absurd ht (by decide)
  have hnew : ∀ g, lg'.ownBlock = some g → lg.ownBlock = some g ∨ (w5.heap.size ≤ g ∧ g < w7.heap.size) := fun g hg => by
    rcases zA with e | e
    · exact .inl (e ▸ hg)
    · obtain ⟨_, cur, hc⟩ := oA.type hg
      have := (Array.getElem?_eq_some_iff.1 hc).1
      rw [e] at hg
      injection hg with hg
      exact .inr (by omega)
  refine ⟨⟨h.sB, hbox, own_keep1 h.crow fun g hg => hk g (h.crow.lt g hg).2 (box_ne h.box (by decide) h.crow hg) fun e => h.apart g hg e.symm, hl', (fun e => by cases e),
    own_keep1 h.wrow fun g hg => hk g (h.wrow.lt g hg).2 (box_ne h.box (by decide) h.wrow hg) fun e => (h.logNe e.symm).2 hg, fun g hg e => ?_⟩,
    ⟨?_, ?_, ?_, ?_, fun i hi hn => hk i hi (fun e => hn (.inl e)) fun e => hn (.inr (.inr (.inl e.symm)))⟩, hnew⟩
  · rcases hnew g e with e' | e'
    · exact h.apart g hg e'
    · have := (h.crow.lt g hg).2
      omega
  · rw [← h7]; exact gA.os
  · rw [← h7]; exact gA.tape
  · rw [← h7]; exact gA.output
  · rw [s7]; exact gA.size
theorem append_end_cut {w wd w5 w7 : World} {lg' ws' : Value} {f : List UInt8} (h : Dsk w B sb cp lg ws S) (hD : ∀ g, DBlk sb cp lg ws g → D g) (bd : Below w.heap.size w wd) (k5 : Keeps (DBlk sb cp lg ws) wd w5) (n5 : ∀ g, ws'.ownBlock = some g → ws.ownBlock = some g ∨ (wd.heap.size ≤ g ∧ g < w5.heap.size))
    (h7 : Dsk w7 B sb cp lg' ws' { S with L := S.L ++ f, W := S.W ++ [S.L.length], k := false }) (k7 : Keeps (DBlk sb cp lg ws') w5 w7) (n7 : ∀ g, lg'.ownBlock = some g → lg.ownBlock = some g ∨ (w5.heap.size ≤ g ∧ g < w7.heap.size)) :
    Disk w7 B sb (Up D w w7) { S with L := S.L ++ f, W := S.W ++ [S.L.length], k := false } ∧ Keeps D w w7 := by
  have h' : Dsk w B sb cp lg ws { S with k := false } := ⟨h.sB, h.box, h.crow, h.lrow, (fun e => by cases e), h.wrow, h.apart⟩
  exact append_end (S := { S with k := false }) h' hD bd k5 n5 h7 k7 n7
end

section
variable {w : World} {B sb : Nat} {D : Nat → Prop} {S : DState}
set_option maxHeartbeats 1600000 in
theorem append_any (h : Disk w B sb D S) (hon : S.on = true) (A : Option Addr) (n c Bl : Nat) (l : List UInt8) (hh : HasBytes w Bl A n l) (hB : Bl ≤ w.heap.size) (hn : n ≤ 65536) (hC : S.C.length ≤ 1000000) (hL : S.L.length ≤ 1000000) (hW : S.W.length ≤ 1000000) (hf : S.used + (8 + n) ≤ S.room) :
    Calls Try.prog 26 #[.pointer (some ⟨sb, 0, none⟩), .slice A n c] w fun e w' => e = .returned (.int .i64 0) ∧ Disk w' B sb (Up D w w') { S with L := S.L ++ frameOf l, W := S.W ++ [S.L.length], k := false } ∧ Keeps D w w' := by
  have HDk := Lib.hid h
  have Hln := Lib.hid hh.len
  obtain ⟨cp, lg, ws, h, hD⟩ := h
  obtain ⟨q0, q1, -⟩ := h.cells
  have hsb := h.box.lt
  rw [hon] at q1
  have Hw := Lib.hid (wrap_any A n c Bl l w hh hB hn)
  have Hu := Lib.hid (fun w (h : Disk w B sb D S) => used_any h (by omega) (by omega))
  have hX1 : S.used ≤ 2000008 := by unfold DState.used takenN; split <;> omega
  obtain ⟨X, hX⟩ : ∃ X, S.used = X := ⟨_, rfl⟩
  rw [hX] at Hu hf hX1
  have hf1 : decide ((S.room : Int) < (X : Int) + (8 + (n : Int))) = false := by simp; omega
  have H := Lib.hid h
  have HD := Lib.hid hD
  have Hlim := Lib.hid (And.intro hL hW)
  clear h hD hon hX hh hL hW
  go_enter Try.func26, Try.ntmps26
  go_wp2_with fail
  refine Hw.out.mono ?_
  rintro e w1 ⟨v, rfl, hown, hb1⟩
  obtain ⟨A1, c1, rfl, -⟩ := own_slice hown
  have p0 : w1.cell? ⟨sb, 0, none⟩ = some (.int .i64 (S.room : Int)) := (hb1.cell (by exact hsb)).trans q0
  have Hown1 := Lib.hid hown
  have Hb1 := Lib.hid hb1
  have Hu1 := Lib.hid (fun j => Hu.out (w1.drewN j) ((HDk.out.below hb1).below (below_drews (Below.refl _ _) j)))
  clear hown hb1
  go_wp2
  go_quiet (first | (go_at_call 20; refine Calls.quiet_of (Hu1.out _)))
  have Hbd : Hid (Below w.heap.size w (w1.drewN nq)) := Lib.hid (below_drews Hb1.out _)
  have Hownd : Hid ((w1.drewN nq).ownsRow w.heap.size 5 1 (.slice A1 (8 + n) c1) (8 + n) (byteCells (frameOf l))) := Lib.hid Hown1.out
  clear p0 Hu1
  generalize w1.drewN nq = wd at *
  have hd := H.out.below Hbd.out
  obtain ⟨-, -, -, r3, r4⟩ := hd.cells
  obtain ⟨-, -, -, g3, g4⟩ := hd.marks
  obtain ⟨Al, cl, hlg, -⟩ := hd.lrow.slice
  obtain ⟨Aw, cw, hws, -⟩ := own_slice hd.wrow
  subst hlg
  subst hws
  have Hd := Lib.hid hd
  have bL : Below wd.heap.size wd (wd.alloc (.cells #[.int .i64 (S.L.length : Int)] 3)).drew := (dsk_alloc wd _).drew
  have BL := Lib.hid bL
  have Hir : Hid ((wd.alloc (.cells #[.int .i64 (S.L.length : Int)] 3)).drew.ownsRow B 3 1 (.slice Aw S.W.length cw) S.W.length (natCells S.W)) := Lib.hid (own_belowN hd.wrow bL)
  have Hlit := Lib.hid (one_at wd wd.heap.size rfl (.int .i64 (S.L.length : Int)) 3)
  have Hsb : Hid (some sb ≠ (Value.slice Aw S.W.length cw).ownBlock) := Lib.hid fun e => box_ne hd.box (by decide) hd.wrow e.symm rfl
  have hBw : B ≤ (wd.alloc (.cells #[.int .i64 (S.L.length : Int)] 3)).drew.heap.size := by
    have h1 := hd.sB
    have h2 := hd.box.lt
    have h3 := bL.size
    omega
  have HBw := Lib.hid hBw
  have r4a : (wd.alloc (.cells #[.int .i64 (S.L.length : Int)] 3)).cell? ⟨sb, 4, none⟩ = some (.slice Aw S.W.length cw) := ((dsk_alloc wd _).cell hd.box.lt).trans r4
  clear hd bL hBw
  go_wp2
  go_region_law (first | (refine step_append_hasN (by rfl) _ _ _ (by rfl) 3 dint_elem (by omega) Try.underlying56 (by rfl) Hir.out (by rfl) Hlit.out (one_int _ _) (by have := Hlim.out.2; simp only [maxLen]; omega) (by have := Hlim.out.2; omega) HBw.out ?_; intro ws' wA oA gA zA; obtain ⟨Ax, cx, rfl, -⟩ := own_slice oA; have bxA := (Hd.out.box.below BL.out Hd.out.box.lt).grown gA Hsb.out; have c4A := bxA.cell 4; have f4A := bxA.frozen 4))
  all_goals
    obtain ⟨w5, hw5⟩ : ∃ w5, wA.setCell ⟨sb, 4, none⟩ (.slice Ax (S.W.length + 1) cx) = w5 := ⟨_, rfl⟩
    obtain ⟨hd5, k5, n5⟩ := waits_end (u := S.L.length) Hd.out BL.out gA oA zA hw5
    have p3 := hd5.cells.2.2.2.1
    have f3 := hd5.marks.2.2.2.1
    have Hd5 := Lib.hid hd5
    have K5 := Lib.hid k5
    have N5 := Lib.hid n5
    have Hf : Hid (HasBytes w5 w5.heap.size A1 (8 + n) (frameOf l)) := Lib.hid (by
      have h1 : w5.ownsRow w.heap.size 5 1 (.slice A1 (8 + n) c1) (8 + n) (byteCells (frameOf l)) := own_keep1 Hownd.out fun g hg => k5.block g (Hownd.out.lt g hg).2 fun e => by
        have h1 := (Hownd.out.lt g hg).1
        have h2 := (H.out.lt e).2
        omega
      exact Has.of_own h1)
    have hB5 : B ≤ w5.heap.size := by
      have h1 := hd5.sB
      have h2 := hd5.box.lt
      omega
    have HB5 := Lib.hid hB5
    clear hd5 k5 n5 bxA c4A f4A oA gA zA r3 r4 r4a g3 g4 hB5
    go_wp2_with (at_builtin; refine wpList_append_cut rfl (.tmp 48) (.tmp 49) _ rfl u8_elem Try.underlying47 rfl Hd5.out.lrow rfl Hf.out (by have := Hlim.out.1; show S.L.length + (8 + n) ≤ maxLen; simp only [maxLen]; omega) (by have := Hlim.out.1; show (S.L.length + (8 + n)) * 1 ≤ 140737488355328; omega) HB5.out ?_; intro lg' w6 o6 g6 z6; obtain ⟨Ay, cy, hy, -⟩ := o6.slice; rw [List.length_append, Hf.out.len] at hy; subst hy; have bx6 := Hd5.out.box.grown g6 (fun e => (Hd5.out.logNe e.symm).1 rfl); have c6 := bx6.cell 3; have f6 := bx6.frozen 3)
    go_ret
    have hend := log_end_cut Hd5.out g6 o6 z6 rfl
    exact ⟨rfl, append_end_cut H.out HD.out Hbd.out K5.out N5.out hend.1 hend.2.1 hend.2.2⟩
end

end Go.Proofs.Ytghcmlipbmmfjaa
