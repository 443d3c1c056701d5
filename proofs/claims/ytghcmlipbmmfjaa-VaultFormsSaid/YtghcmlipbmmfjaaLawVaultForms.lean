/- VaultForms: a checkpoint that the machine doesn't load is refused; a disk that is on is refused. No condition. -/
import Derived.Test.YtghcmlipbmmfjaaVltH
import Derived.Test.YtghcmlipbmmfjaaOpen
namespace Go.Proofs.Ytghcmlipbmmfjaa
open Go.RowKit
open Go.Lib (strCells)

theorem on_any {w : World} {B sb : Nat} {E : Nat → Prop} {S : DState} (h : Disk w B sb E S) : Calls Try.prog 24 #[.pointer (some ⟨sb, 0, none⟩)] w fun e w' => e = .returned (.bool S.on) ∧ w = w' := by
  obtain ⟨cp, lg, ws, h, hD⟩ := h
  obtain ⟨-, q1, -⟩ := h.cells
  clear h hD
  go_enter Try.func24, Try.ntmps24
  go_wp2
  go_ret
  exact ⟨rfl, rfl⟩
theorem scan_nil : scanT [] = ([], 0) := by decide +kernel

set_option maxRecDepth 100000 in
set_option maxHeartbeats 1600000 in
theorem forms_walk (A : Option Addr) (n ca : Nat) (l : List UInt8) (w : World) (h : HasBytes w w.heap.size A n l) (hn : n ≤ maxLen) (hnc : n ≤ ca) :
    Calls Try.prog 5 #[.slice A n ca] w fun e w' => e = .returned (.bool true) ∧ Below w.heap.size w w' := by
  have H := Lib.hid h
  have Hn := Lib.hid hn
  have hl := h.len
  clear h hn
  go_enter Try.func5, Try.ntmps5
  go_wp2_with fail
  refine (awake_any w).mono ?_
  rintro e w1 ⟨rfl, hb1⟩
  have Hb1 := Lib.hid hb1
  clear hb1
  by_cases hn1 : 1000 < n
  · go_wp2
    go_ret
    exact ⟨rfl, Hb1.out⟩
  · go_wp2_with fail
    refine (new_law 4194304 w.heap.size w w1 (by omega) Hb1.out (Nat.le_refl _)).mono ?_
    rintro e w2 ⟨sb, rfl, hz2, hb2⟩
    have Hz2 := Lib.hid hz2
    have Hb2 := Lib.hid hb2
    clear hz2 hb2
    go_wp2_with fail
    refine (start0_law Hz2.out Hb2.out (Nat.le_refl _)).mono ?_
    rintro e w3 ⟨s3, v3, rfl, h3⟩
    have H3 := Lib.hid h3
    have Hs3 := Lib.hid (HasBytes.len H.out)
    clear h3
    go_wp2_with fail
    refine (checkpoint_law H3.out rfl rfl A n ca w.heap.size l (Has.belowOf H.out H3.out.below (Nat.le_refl _)) H3.out.size (by omega) (by have := takenN_le l; show takenN l ≤ 4194304; omega)).mono ?_
    rintro e w4 ⟨rfl, h4⟩
    have H4 := Lib.hid h4
    clear h4
    go_wp2_with fail
    refine (open_on (H4.out.disk.below (dsk_alloc w4 _)) rfl _).mono ?_
    rintro e w5 ⟨rfl, rfl⟩
    have H5 := Lib.hid (H4.out.more (dsk_alloc w4 (.cells #[.string ⟨#[]⟩, .int .i64 0] 37)))
    go_wp2_with fail
    refine (crashAll_law H5.out rfl 0 0 0 rfl (by simp)).mono ?_
    rintro e w6 ⟨rfl, h6⟩
    have H6 := Lib.hid h6
    have H7 := Lib.hid (h6.more (dsk_alloc w6 (.cells #[.string ⟨#[]⟩, .int .i64 0] 37)))
    have Ht7 : Hid (Tape (w6.alloc (.cells #[.string ⟨#[]⟩, .int .i64 0] 37)) w6.heap.size ⟨#[]⟩) := Lib.hid ⟨0, Box.made _ _ _⟩
    have Hd7 : Hid (Disk (w6.alloc (.cells #[.string ⟨#[]⟩, .int .i64 0] 37)) w.heap.size sb (fun g => w.heap.size ≤ g) ⟨4194304, false, l, [], [], true⟩) := Lib.hid H7.out.disk
    have s6 : w.heap.size ≤ w6.heap.size := h6.size
    have Hb7 : Hid (Below w.heap.size w (w6.alloc (.cells #[.string ⟨#[]⟩, .int .i64 0] 37))) := Lib.hid H7.out.below
    clear h6
    have hcase : l = [] ∨ (∃ r, l = 61 :: r) ∨ ∃ c r, l = c :: r ∧ c ≠ 61 := by
      cases l with
      | nil => exact .inl rfl
      | cons c r =>
        by_cases hc : c = 61
        · exact .inr (.inl ⟨r, by rw [hc]⟩)
        · exact .inr (.inr ⟨c, r, rfl, hc⟩)
    rcases hcase with rfl | ⟨r, rfl⟩ | ⟨c, r, rfl, hne⟩
    · obtain rfl : 0 = n := hl
      have Hop := Lib.hid (open_empty Hd7.out rfl Ht7.out s6 (by simp) rfl (by rw [scan_nil]; simp [bulk, ByteArray.size]))
      go_wp2_with fail
      refine Hop.out.mono ?_
      rintro e w8 ⟨vb, rfl, hv8, hk8⟩
      have hv8' := hv8
      rw [show (scanT ([] : List UInt8)).1 = [] from by rw [scan_nil]] at hv8'
      have Hc8 : Hid (∀ jj, Calls Try.prog 16 #[.pointer (some ⟨vb, 0, none⟩)] (w8.drewN jj) fun e w' => e = .returned (.int .i64 0) ∧ w8.drewN jj = w') := Lib.hid (fun jj => vcount_any (hv8'.below (below_drews (Below.refl w8.heap.size w8) jj)))
      obtain ⟨x, hx⟩ := hv8'.tape
      have q0 : w8.cell? ⟨w6.heap.size, 0, none⟩ = some (.string ⟨#[]⟩) := hx.cell 0
      have Hb8 : Hid (Below w.heap.size w w8) := Lib.hid (Hb7.out.trans (hk8.below (fun g hg => hg) Hb7.out.size))
      clear hv8 hk8 hv8' hx
      go_wp2
      go_quiet (first | (go_at_call 16; refine quietS (Hc8.out _)))
      go_wp2
      go_ret
      exact ⟨rfl, below_drews Hb8.out _⟩
    · have hrl : n = r.length + 1 := hl.symm
      subst hrl
      have Hop := Lib.hid (open_state Hd7.out rfl Ht7.out s6 (by simp) r rfl (by rw [scan_nil]; simp [bulk]; omega))
      go_wp2_with fail
      refine Hop.out.mono ?_
      rintro e w8 ⟨vb, rfl, hv8, hk8⟩
      have hv8' := hv8
      rw [show (scanT ([] : List UInt8)).1 = [] from by rw [scan_nil]] at hv8'
      have Hc8 : Hid (∀ jj, Calls Try.prog 16 #[.pointer (some ⟨vb, 0, none⟩)] (w8.drewN jj) fun e w' => e = .returned (.int .i64 0) ∧ w8.drewN jj = w') := Lib.hid (fun jj => vcount_any (hv8'.below (below_drews (Below.refl w8.heap.size w8) jj)))
      obtain ⟨x, hx⟩ := hv8'.tape
      have q0 : w8.cell? ⟨w6.heap.size, 0, none⟩ = some (.string ⟨r.toArray⟩) := hx.cell 0
      have Hb8 : Hid (Below w.heap.size w w8) := Lib.hid (Hb7.out.trans (hk8.below (fun g hg => hg) Hb7.out.size))
      have hh := H.out.belowOf Hb8.out (Nat.le_refl _)
      obtain ⟨a, rfl, hab, hc0⟩ := HasBytes.byte hh (k := 0) (by omega)
      have hc1 : w8.cell? a = some (.int .u8 61) := by
        have e : a.add 0 = a := by unfold Addr.add; simp
        rw [e] at hc0
        exact hc0
      obtain ⟨A', hA'⟩ : ∃ A', (if ca = 1 then some a else some (⟨a.block, a.off + 1, none⟩ : Addr)) = A' := ⟨_, rfl⟩
      have hp := HasBytes.part hh (k := 1) (cap := ca) (by omega) hnc
      have hpA : (if ca = 1 then some a else (some a).map (·.add 1)) = A' := by
        rw [← hA']
        rfl
      rw [hpA, Nat.add_sub_cancel] at hp
      have kc : ∀ jj c', (convert 47 9 (.slice A' r.length c')).run Try.prog (w8.drewN jj) = .ok (.string ⟨r.toArray⟩) (w8.drewN jj) := fun jj c' => string_run (Has.belowOf hp (below_drews (Below.refl w.heap.size w8) jj) (Nat.le_refl _)) c'
      have hn0 : (0 : Int) < ((r.length : Int) + 1) := by omega
      have hn2 : decide ((0 : Int) < ((r.length : Int) + 1)) = true := decide_eq_true (by omega)
      have hn3 : (((r.length : Int) + 1) == 0) = false := beq_eq_false_iff_ne.2 (by omega)
      have hc1i : (1 : Int) ≤ (r.length : Int) + 1 := by omega
      clear hv8 hk8 hv8' hx hh hc0 hp hpA
      go_wp2
      go_quiet (first | (go_at_call 16; refine quietS (Hc8.out _)))
      go_wp2
      go_ret
      exact ⟨rfl, below_drews Hb8.out _⟩
    · have hrl : n = r.length + 1 := hl.symm
      subst hrl
      have Hop := Lib.hid (open_bad Hd7.out rfl Ht7.out (by simp) (by show (c :: r).length ≤ _; rw [List.length_cons]; omega) c r rfl hne)
      go_wp2_with fail
      refine Hop.out.mono ?_
      rintro e w8 ⟨rfl, hd8, hk8⟩
      have Hon := Lib.hid (on_any hd8)
      have Hb8 : Hid (Below w.heap.size w w8) := Lib.hid (Hb7.out.trans (hk8.below (fun g hg => by rcases hg with e | e; exact e; omega) Hb7.out.size))
      have hh := H.out.belowOf Hb8.out (Nat.le_refl _)
      obtain ⟨a, rfl, hab, hc0⟩ := HasBytes.byte hh (k := 0) (by omega)
      have hc1 : w8.cell? a = some (.int .u8 (c.toNat : Int)) := by
        have e : a.add 0 = a := by unfold Addr.add; simp
        rw [e] at hc0
        exact hc0
      have hne' : ((c.toNat : Int) != 61) = true := by
        have : c.toNat ≠ 61 := fun e => hne (UInt8.toNat_inj.1 e)
        simp
        omega
      clear hd8 hk8 hh hc0
      go_wp2_with fail
      refine Hon.out.mono ?_
      rintro e w9 ⟨rfl, rfl⟩
      go_wp2
      go_ret
      exact ⟨rfl, Hb8.out⟩

namespace lawVaultForms
open Go.ChangeShapes Go.WideShapes Go.ChangeAt

theorem own : ownKnob Try.prog.godebug = none := by kernel_rfl
theorem kids : Kids Try.prog (· < Try.prog.types.size) := kids_rows (by kernel_rfl) (by kernel_rfl)
theorem full : ∀ t e, t < Try.prog.types.size → Try.prog.underlying t = some (.slice e) → 0 < Try.prog.cellsOf e := slices_full_of Try.prog (by kernel_rfl)

set_option maxRecDepth 100000 in
theorem lifted (os : Os) (started : os.Started) (H : Type) (enc : TypeId × Value → H) :
    ReturnsInHanded {} Try.checked os 5 .any (Rows.vaultFormsSpec.pre6 enc Try.prog Try.f5 Rows.vaultFormsRow.domain false) (Rows.vaultFormsSpec.post enc Try.prog Try.f5 false true false false) := by
  refine returnsInHanded_of_change (C := Try.checked) own started (by kernel_rfl) Try.func5
    (ChangeSpec.witness6 (enc := enc) (C := Try.checked) false ⟨#[], #[.slice none 0 0], []⟩ 8 (by kernel_rfl) (by kernel_rfl) (by kernel_rfl) (by kernel_rfl)) ?_
  intro W base args ds gs before hval0 hW _ _
  have hval : ∀ (j : Nat) t v, Try.f5.params[j]? = some t → args[j]? = some v → Value.okWide Try.prog W .any base t v := hval0
  have hW' := hW
  obtain ⟨p, q, hA0, hV, rfl, _, _⟩ := hW
  obtain ⟨rfl, rfl⟩ := trodVars_none hV
  have hA : DataW.TrodAll enc Try.prog W 0 (fun _ => true) true Try.f5.params.toList args.toList ds p := hA0
  rw [Try.params5] at hA hval
  obtain ⟨v0, vs0, d0, ds0, p0, q0, hargs, rfl, rfl, h0, r0⟩ := trodAll_cons hA
  obtain ⟨rfl, rfl, rfl⟩ := trodAll_nil r0
  obtain rfl : args = #[v0] := by cases args; simp_all
  have hlt := hW'.lt
  obtain ⟨A0, n0, c0, l0, rfl, hn0, hnc0, hb0⟩ := open_bytes Try.underlying47 Try.underlying5 (by kernel_rfl) (hval 0 47 v0 rfl rfl) h0 (fun x hx => hlt x (by simp [hx]))
  refine (forms_walk A0 n0 c0 l0 W hb0 hn0 hnc0).mono fun e W' ⟨he, hbel⟩ => ?_
  subst he
  exact ⟨_, rfl, law_post kids full (of_decide_eq_true (by kernel_rfl)) Try.underlying4 rfl rfl rfl hW' hbel⟩

theorem proved : Rows.VaultFormsSaid :=
  OpenClaim.holds_of_wide 5 Try.f5 rfl rfl rfl rfl rfl rfl rfl ⟨rfl, rfl, rfl, rfl, rfl⟩ rfl rfl rfl rfl rfl (by kernel_rfl) Try.func5 (by kernel_rfl)
    (of_decide_eq_true (by kernel_rfl)) (by unfold Func.isWrapper; first | (rw [if_pos (by decide +kernel)]; kernel_rfl) | (rw [if_neg (by decide +kernel)]; exact ⟨rfl, rfl⟩))
    (fun os started H enc _ => lifted os started H enc)
end lawVaultForms

end Go.Proofs.Ytghcmlipbmmfjaa
