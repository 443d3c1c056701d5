/- The small functions of package disk: mayBe, New, taken, end, Used, Waiting, bytes.Clone, Log. Condition: a disk in memory, of at most a million bytes. -/
import Derived.Test.YtghcmlipbmmfjaaDskA
import Derived.Deep.QuietTactic
import Derived.BigQuiet
namespace Go.Proofs.Ytghcmlipbmmfjaa
open Go.RowKit
open Go.Lib (strCells)

theorem quietS {P : Program} {f : FuncId} {args : Array Value} {w : World} {n : Nat} {v : Value}
    (h : Calls P f args (w.drewN n) fun e w' => e = .returned v ∧ w.drewN n = w') : Calls P f args (w.drewN n) fun e w'' => e = .returned v ∧ ∃ m, w'' = w.drewN m :=
  Calls.quiet_of_same (h.mono fun _ _ h => ⟨h.1, h.2.symm⟩)
theorem dsk_alloc (w : World) (o : Obj) : Below w.heap.size w (w.alloc o) := (Below.refl _ _).alloc (Nat.le_refl _) _
theorem mayBe_in (n : Nat) (w : World) (h : n ≤ 4194304) : Calls Try.prog 25 #[.int .i64 (n : Int)] w fun e w' => e = .returned (.bool true) ∧ w = w' := by
  have hd : decide ((n : Int) ≤ 4194304) = true := by simp; omega
  go_enter Try.func25, Try.ntmps25
  go_wp2
  go_ret
  exact ⟨rfl, rfl⟩

theorem new_disk (w : World) (B n : Nat) (hB : B ≤ w.heap.size) : Dsk (w.alloc (.cells #[.int .i64 (n : Int), .bool false, .slice none 0 0, .slice none 0 0, .slice none 0 0] 58)) B w.heap.size (.slice none 0 0) (.slice none 0 0) (.slice none 0 0) ⟨n, false, [], [], [], true⟩ where
  sB := hB
  box := Box.made _ _ _
  crow := World.ownsRow_nil _ _ _ _
  lrow := .inl ⟨rfl, rfl⟩
  lown := fun _ => World.ownsRow_nil _ _ _ _
  wrow := World.ownsRow_nil _ _ _ _
  apart := fun g hg => by cases hg
theorem new_any (n B : Nat) (w : World) (h : n ≤ 4194304) (hB : B ≤ w.heap.size) : Calls Try.prog 9 #[.int .i64 (n : Int)] w fun e w' => e = .returned (.tuple #[.pointer (some ⟨w.heap.size, 0, none⟩), .int .i64 0]) ∧
    DiskZ w' B w.heap.size (fun g => w.heap.size ≤ g ∧ g < w'.heap.size) true ⟨n, false, [], [], [], true⟩ ∧ Below w.heap.size w w' := by
  have H := Lib.hid (new_disk w B n hB)
  go_enter Try.func9, Try.ntmps9
  go_wp2_with fail
  refine (mayBe_in n w h).mono ?_
  rintro e w' ⟨rfl, rfl⟩
  go_wp2
  go_ret2
  refine ⟨rfl, ⟨_, _, _, H.out, fun g hg => ?_, fun _ => rfl⟩, dsk_alloc _ _⟩
  rcases hg with rfl | hg | hg | hg
  · simp
  · cases hg
  · cases hg
  · cases hg

theorem taken_any (A : Option Addr) (n c : Nat) (C : List UInt8) (w : World) (hn : C.length = n) (h1 : n ≤ 10000000) : Calls Try.prog 32 #[.slice A n c] w fun e w' => e = .returned (.int .i64 (takenN C : Int)) ∧ w = w' := by
  have Hn := Lib.hid hn
  clear hn
  by_cases h0 : n = 0
  · have E : Hid (takenN C = 0) := Lib.hid (by unfold takenN; rw [if_pos (by rw [Hn.out]; exact h0)])
    go_enter Try.func32, Try.ntmps32
    go_wp2
    go_ret
    exact ⟨by rw [E.out]; rfl, rfl⟩
  · have E : Hid (8 + (n : Int) = (takenN C : Int)) := Lib.hid (by unfold takenN; rw [if_neg (by rw [Hn.out]; exact h0), Hn.out]; omega)
    go_enter Try.func32, Try.ntmps32
    go_wp2
    go_ret
    exact ⟨by rw [← E.out]; rfl, rfl⟩

theorem Dsk.cells {w : World} {B sb : Nat} {cp lg ws : Value} {S : DState} (h : Dsk w B sb cp lg ws S) : w.cell? ⟨sb, 0, none⟩ = some (.int .i64 (S.room : Int)) ∧ w.cell? ⟨sb, 1, none⟩ = some (.bool S.on) ∧ w.cell? ⟨sb, 2, none⟩ = some cp ∧ w.cell? ⟨sb, 3, none⟩ = some lg ∧ w.cell? ⟨sb, 4, none⟩ = some ws :=
  ⟨h.box.cell 0, h.box.cell 1, h.box.cell 2, h.box.cell 3, h.box.cell 4⟩
theorem Dsk.marks {w : World} {B sb : Nat} {cp lg ws : Value} {S : DState} (h : Dsk w B sb cp lg ws S) : w.frozen? ⟨sb, 0, none⟩ = false ∧ w.frozen? ⟨sb, 1, none⟩ = false ∧ w.frozen? ⟨sb, 2, none⟩ = false ∧ w.frozen? ⟨sb, 3, none⟩ = false ∧ w.frozen? ⟨sb, 4, none⟩ = false :=
  ⟨h.box.frozen 0, h.box.frozen 1, h.box.frozen 2, h.box.frozen 3, h.box.frozen 4⟩

section
variable {w : World} {B sb : Nat} {D : Nat → Prop} {S : DState}
theorem waiting_any (h : Disk w B sb D S) : Calls Try.prog 31 #[.pointer (some ⟨sb, 0, none⟩)] w fun e w' => e = .returned (.int .i64 (S.W.length : Int)) ∧ w = w' := by
  obtain ⟨cp, lg, ws, h, -⟩ := h
  obtain ⟨-, -, -, -, q4⟩ := h.cells
  obtain ⟨A, c, rfl, -⟩ := own_slice h.wrow
  clear h
  go_enter Try.func31, Try.ntmps31
  go_wp2
  go_ret
  exact ⟨rfl, rfl⟩
theorem used_any (h : Disk w B sb D S) (hC : S.C.length ≤ 10000000) (hL : S.L.length ≤ 10000000) : Calls Try.prog 20 #[.pointer (some ⟨sb, 0, none⟩)] w fun e w' => e = .returned (.int .i64 (S.used : Int)) ∧ ∃ m, w' = w.drewN m := by
  obtain ⟨cp, lg, ws, h, -⟩ := h
  obtain ⟨-, -, q2, q3, -⟩ := h.cells
  obtain ⟨A, c, rfl, -⟩ := own_slice h.crow
  obtain ⟨A', c', rfl, -⟩ := h.lrow.slice
  have hT : takenN S.C ≤ 10000008 := by unfold takenN; split <;> omega
  have E : Hid ((takenN S.C : Int) + (S.L.length : Int) = (S.used : Int)) := Lib.hid (by unfold DState.used; omega)
  have Hc := Lib.hid (fun w => taken_any A S.C.length c S.C w rfl hC)
  obtain ⟨X, hX⟩ : ∃ X, takenN S.C = X := ⟨_, rfl⟩
  rw [hX] at Hc hT E
  clear h hX hC
  go_enter Try.func20, Try.ntmps20
  go_wp2
  go_quiet (first | (go_at_call 32; refine quietS (Hc.out _)))
  go_wp2
  go_ret
  exact ⟨by rw [← E.out]; rfl, _, rfl⟩

theorem end_in (h : Disk w B sb D S) {k b : Nat} (hk : S.W[k + 1]? = some b) (hW : S.W.length ≤ 10000000) : Calls Try.prog 29 #[.pointer (some ⟨sb, 0, none⟩), .int .i64 (k : Int)] w fun e w' => e = .returned (.int .i64 (b : Int)) ∧ w = w' := by
  obtain ⟨cp, lg, ws, h, -⟩ := h
  obtain ⟨-, -, -, -, q4⟩ := h.cells
  have hkl := (List.getElem?_eq_some_iff.1 hk).1
  have hw := h.wrow
  obtain ⟨A, c, rfl, -, -, -⟩ := own_slice hw
  obtain ⟨g, rfl, -⟩ := own_at hw (by omega)
  have hc1 : w.cell? ⟨g, k + 1, none⟩ = some (.int .i64 (b : Int)) := by
    rw [hw.cellAt (k + 1) (by omega)]
    simp [natCells, hk]
  obtain ⟨n, hn⟩ : ∃ n, S.W.length = n := ⟨_, rfl⟩
  rw [hn] at q4 hkl hW
  clear h hw hk hn
  go_enter Try.func29, Try.ntmps29
  go_wp2
  go_ret
  exact ⟨rfl, rfl⟩
theorem end_out (h : Disk w B sb D S) {k : Nat} (hk : S.W.length ≤ k + 1) (hW : k ≤ 10000000) : Calls Try.prog 29 #[.pointer (some ⟨sb, 0, none⟩), .int .i64 (k : Int)] w fun e w' => e = .returned (.int .i64 (S.L.length : Int)) ∧ w = w' := by
  obtain ⟨cp, lg, ws, h, -⟩ := h
  obtain ⟨-, -, -, q3, q4⟩ := h.cells
  obtain ⟨A, c, rfl, -⟩ := own_slice h.wrow
  obtain ⟨A', c', rfl, -⟩ := h.lrow.slice
  clear h
  go_enter Try.func29, Try.ntmps29
  go_wp2
  go_ret
  exact ⟨rfl, rfl⟩
end

theorem bempty_own (w : World) (g : Nat) (hg : w.heap.size = g) (t : TypeId) (B : Nat) (hB : B ≤ g) : (w.alloc (.cells #[] t)).ownsRow B t 1 (.slice (some ⟨g, 0, none⟩) 0 0) 0 [] := by
  subst hg
  exact ⟨rfl, .inr ⟨w.heap.size, 0, #[], rfl, hB, heap_alloc_new w _, Nat.le_refl _, by simp [maxLen], rfl, rfl⟩⟩
theorem bclone_any (A : Option Addr) (c B : Nat) (l : List UInt8) (w : World) (h : HasBytes w B A l.length l) (hn : l.length ≤ 10000000) (hB : B ≤ w.heap.size) :
    Calls Try.prog 34 #[.slice A l.length c] w fun e w' => ∃ v, e = .returned v ∧ w'.ownsRow w.heap.size 5 1 v l.length (byteCells l) ∧ Below w.heap.size w w' := by
  cases A with
  | none =>
    have e0 : l = [] := by
      cases l with
      | nil => rfl
      | cons c l => obtain ⟨a, e, _⟩ := h.cell (k := 0) (by simp); cases e
    subst e0
    have q := Lib.run_eql_slice_nil (P := Try.prog) w 47 5 none 0 c 0 0 Try.underlying47
    clear h
    go_enter Try.func34, Try.ntmps34
    go_wp2
    go_ret
    exact ⟨_, rfl, ⟨rfl, .inl ⟨rfl, rfl⟩⟩, Below.refl _ _⟩
  | some a =>
    have H := Lib.hid h
    clear h
    obtain ⟨n, hl⟩ : ∃ n, l.length = n := ⟨_, rfl⟩
    have Hl := Lib.hid hl
    rw [hl] at H hn ⊢
    have q := Lib.run_eql_slice_nil (P := Try.prog) w 47 5 (some a) n c 0 0 Try.underlying47
    clear hl
    go_enter Try.func34, Try.ntmps34
    go_wp2_with (at_builtin; refine wpList_append_has rfl (.tmp 5) (.tmp 6) _ rfl 5 u8_elem Try.underlying47 rfl (bempty_own w w.heap.size rfl _ w.heap.size (Nat.le_refl _)) rfl (Has.alloc H.out hB _) (byteCells_one _) (by simp only [maxLen]; omega) (by omega) (by simp) ?_; intro v1 w1 hown1 hg1 hz1; have Hb1 : Hid (Below w.heap.size w w1) := Lib.hid (below_own (dsk_alloc _ _) (bempty_own w w.heap.size rfl _ w.heap.size (Nat.le_refl _)) hg1 (by simp)); clear hg1 hz1)
    go_ret
    exact ⟨_, rfl, by simpa using hown1, Hb1.out⟩

end Go.Proofs.Ytghcmlipbmmfjaa
