/- The vault over a disk and a tape: each of its calls. Condition: a disk in memory, of at most a million bytes. -/
import Derived.Test.YtghcmlipbmmfjaaVltA
namespace Go.Proofs.Ytghcmlipbmmfjaa
open Go.RowKit
open Go.Lib (strCells)

/-- the machine, as an interface holds it -/
abbrev tapeV (tb : Nat) : Value := .iface 30 (.pointer (some ⟨tb, 0, none⟩))
/-- a vault over the disk at block sb, with its tape at block tb; the blocks of all three are of E -/
structure Vlt (w : World) (B vb sb tb : Nat) (E : Nat → Prop) (S : DState) (T : ByteArray) (c : Nat) : Prop where
  disk : Disk w B sb E S
  box : Box w vb 62 #[.pointer (some ⟨sb, 0, none⟩), tapeV tb, .int .i64 (c : Int)]
  tape : Tape w tb T
  ev : E vb
  et : E tb
section
variable {w w' : World} {B vb sb tb : Nat} {E : Nat → Prop} {S : DState} {T : ByteArray} {c : Nat}
theorem Tape.lt (h : Tape w tb T) : tb < w.heap.size := by
  obtain ⟨x, hb⟩ := h
  exact hb.lt
theorem Tape.kept (h : Tape w tb T) {D : Nat → Prop} (hk : Keeps D w w') (hD : ¬ D tb) : Tape w' tb T := by
  obtain ⟨x, hb⟩ := h
  exact ⟨x, (hk.block tb hb.lt hD).trans hb⟩
/-- the disk's blocks are none of those of the vault and the tape -/
theorem vault_far {cp lg ws : Value} (h : Dsk w B sb cp lg ws S) {g : Nat} {t : TypeId} {cs : Array Value} (hb : Box w g t cs) (h1 : t ≠ 58) (h2 : t ≠ 5) (h3 : t ≠ 3) : ¬ DBlk sb cp lg ws g := fun e => by
  unfold Box at hb
  rcases e with e | e | e | e
  · have hb' := h.box
    unfold Box at hb'
    rw [e, hb'] at hb
    injection hb with hb
    injection hb with _ ht _
    exact h1 ht.symm
  · obtain ⟨cur, hc⟩ := own_type1 h.crow e
    rw [hc] at hb
    injection hb with hb
    injection hb with _ ht _
    exact h2 ht.symm
  · obtain ⟨_, cur, hc⟩ := h.lrow.type e
    rw [hc] at hb
    injection hb with hb
    injection hb with _ ht _
    exact h2 ht.symm
  · obtain ⟨cur, hc⟩ := own_type1 h.wrow e
    rw [hc] at hb
    injection hb with hb
    injection hb with _ ht _
    exact h3 ht.symm
/-- a call of the disk alone -/
theorem Vlt.op {S' : DState} {D : Nat → Prop} {cp lg ws : Value} (h : Vlt w B vb sb tb E S T c) (hd : Dsk w B sb cp lg ws S) (hD : ∀ g, DBlk sb cp lg ws g → E g) (hd' : Disk w' B sb D S') (hD' : ∀ g, D g → Up (DBlk sb cp lg ws) w w' g) (hk : Keeps (DBlk sb cp lg ws) w w') :
    Vlt w' B vb sb tb (Up E w w') S' T c ∧ Keeps E w w' := by
  obtain ⟨x, hx⟩ := h.tape
  refine ⟨⟨hd'.more fun g hg => ?_, (hk.block vb h.box.lt (vault_far hd h.box (by decide) (by decide) (by decide))).trans h.box, ⟨x, (hk.block tb hx.lt (vault_far hd hx (by decide) (by decide) (by decide))).trans hx⟩, .inl h.ev, .inl h.et⟩,
    ⟨hk.os, hk.tape, hk.output, hk.size, fun i hi hn => hk.block i hi fun e => hn (hD i e)⟩⟩
  rcases hD' g hg with e | e
  · exact .inl (hD g e)
  · exact .inr e
theorem Vlt.kept {D : Nat → Prop} (h : Vlt w B vb sb tb E S T c) (hk : Keeps D w w') (hD : ∀ g, g < w.heap.size → E g → ¬ D g) : Vlt w' B vb sb tb E S T c :=
  ⟨h.disk.kept hk hD, (hk.block vb h.box.lt (hD vb h.box.lt h.ev)).trans h.box, h.tape.kept hk (hD tb h.tape.lt h.et), h.ev, h.et⟩
theorem Vlt.more {E' : Nat → Prop} (h : Vlt w B vb sb tb E S T c) (hE : ∀ g, E g → E' g) : Vlt w B vb sb tb E' S T c := ⟨h.disk.more hE, h.box, h.tape, hE _ h.ev, hE _ h.et⟩
theorem Vlt.below (h : Vlt w B vb sb tb E S T c) (hb : Below w.heap.size w w') : Vlt w' B vb sb tb E S T c := h.kept (D := fun g => w.heap.size ≤ g) ⟨hb.os, hb.tape, hb.output, hb.size, fun i hi _ => hb.block i hi⟩ fun g hg _ e => by omega
theorem Vlt.eq {S' : DState} (h : Vlt w B vb sb tb E S T c) (e : S = S') : Vlt w B vb sb tb E S' T c := e ▸ h

theorem vsync_any (h : Vlt w B vb sb tb E S T c) (hon : S.on = true) : Calls Try.prog 13 #[.pointer (some ⟨vb, 0, none⟩)] w fun e w' => e = .returned (.int .i64 0) ∧ Vlt w' B vb sb tb (Up E w w') { S with W := [] } T c ∧ Keeps E w w' := by
  have H := Lib.hid h
  obtain ⟨cp, lg, ws, hd, hD⟩ := h.disk
  have q0 := h.box.cell 0
  have Hc := Lib.hid (sync_any (D := DBlk sb cp lg ws) ⟨cp, lg, ws, hd, fun g hg => hg⟩ hon)
  have Hd := Lib.hid hd
  have HD := Lib.hid hD
  clear h hd hD
  go_enter Try.func13, Try.ntmps13
  go_wp2_with fail
  refine Hc.out.mono ?_
  rintro e w' ⟨rfl, hd', hk, -⟩
  go_wp2
  go_ret
  exact ⟨rfl, H.out.op Hd.out HD.out hd' (fun g hg => .inl hg) hk⟩
theorem vcount_any (h : Vlt w B vb sb tb E S T c) : Calls Try.prog 16 #[.pointer (some ⟨vb, 0, none⟩)] w fun e w' => e = .returned (.int .i64 (c : Int)) ∧ w = w' := by
  have q2 := h.box.cell 2
  clear h
  go_enter Try.func16, Try.ntmps16
  go_wp2
  go_ret
  exact ⟨rfl, rfl⟩
theorem vsure_any (h : Vlt w B vb sb tb E S T c) : Calls Try.prog 18 #[.pointer (some ⟨vb, 0, none⟩)] w fun e w' => e = .returned (.bool ((S.W.length : Int) == 0)) ∧ w = w' := by
  have q0 := h.box.cell 0
  have Hc := Lib.hid (waiting_any h.disk)
  clear h
  go_enter Try.func18, Try.ntmps18
  go_wp2_with fail
  refine Hc.out.mono ?_
  rintro e w' ⟨rfl, rfl⟩
  go_wp2
  go_ret
  exact ⟨rfl, rfl⟩

/-- a command that the log has already -/
theorem vdo_any (h : Vlt w B vb sb tb E S T c) (cmd : ByteArray) (h1 : T.size ≤ 1000000) (h2 : cmd.size ≤ 1000000) (hc : c ≤ 1000000) : Calls Try.prog 27 #[.pointer (some ⟨vb, 0, none⟩), .string cmd] w fun e w' => e = .returned (.string (digS T.size)) ∧ Vlt w' B vb sb tb E S (T ++ cmd ++ ⟨#[124]⟩) (c + 1) ∧ Keeps (fun g => g = vb ∨ g = tb) w w' ∧ w'.heap.size = w.heap.size := by
  have q2 := h.box.cell 2
  have f2 := h.box.frozen 2
  obtain ⟨w1, hw1⟩ : ∃ w1, w.setCell ⟨vb, 2, none⟩ (.int .i64 ((c : Int) + 1)) = w1 := ⟨_, rfl⟩
  have hb1 : Box w1 vb 62 _ := hw1 ▸ h.box.set_ 2 (.int .i64 ((c : Int) + 1))
  have p1 := hb1.cell 1
  have hk1 : Keeps (fun g => g = vb) w w1 := hw1 ▸ Keeps.set rfl
  have hs1 : w1.heap.size = w.heap.size := hw1 ▸ by simp [World.setCell]
  obtain ⟨x, hx⟩ := h.tape
  have hne : tb ≠ vb := fun e => by
    have h1 := h.box
    unfold Box at h1 hx
    rw [e, h1] at hx
    injection hx with hx
    injection hx with _ ht _
    exact absurd ht (by decide)
  have Ht1 := Lib.hid (tape_do cmd (h.tape.kept hk1 hne) h1 h2)
  have Hend : Hid (∀ w2, Tape w2 tb (T ++ cmd ++ ⟨#[124]⟩) → Keeps (fun g => g = tb) w1 w2 → w2.heap.size = w1.heap.size → Vlt w2 B vb sb tb E S (T ++ cmd ++ ⟨#[124]⟩) (c + 1) ∧ Keeps (fun g => g = vb ∨ g = tb) w w2 ∧ w2.heap.size = w.heap.size) := Lib.hid (by
    intro w2 ht hk2 hs2
    obtain ⟨cp, lg, ws, hd, hD⟩ := h.disk
    have hf1 := vault_far hd h.box (by decide) (by decide) (by decide)
    have hf2 := vault_far hd hx (by decide) (by decide) (by decide)
    have hk : Keeps (fun g => g = vb ∨ g = tb) w w2 := Keeps.trans (D' := fun g => g = vb ∨ g = tb) ⟨hk1.os, hk1.tape, hk1.output, hk1.size, fun i hi hn => hk1.block i hi fun e => hn (.inl e)⟩ ⟨hk2.os, hk2.tape, hk2.output, hk2.size, fun i hi hn => hk2.block i hi fun e => hn (.inr e)⟩ fun g hg => .inl hg
    refine ⟨⟨⟨cp, lg, ws, hd.keep fun g hg => hk.block g (hd.lt hg).2 fun e => e.elim (fun e => hf1 (e ▸ hg)) fun e => hf2 (e ▸ hg), hD⟩, ?_, ht, h.ev, h.et⟩, hk, by omega⟩
    have := (hk2.block vb hb1.lt fun e => hne e.symm).trans hb1
    exact this)
  clear h hx hb1 hk1 hs1
  go_enter Try.func27, Try.ntmps27
  go_wp2_with fail
  refine Ht1.out.mono ?_
  rintro e w2 ⟨rfl, ht, hk2, hs2⟩
  go_wp2
  go_ret
  exact ⟨rfl, Hend.out w2 ht hk2 hs2⟩
end
end Go.Proofs.Ytghcmlipbmmfjaa
