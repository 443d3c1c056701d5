/- The document's Same over letters. Condition: pairs and intents in memory. -/
import Derived.Test.YtabcoidjbigdbaaLetO
import Derived.Deep.DeepCutAuto
import Derived.Deep.RegionWith
import Derived.Deep.RegionHeld3
namespace Go.Proofs.Ytabcoidjbigdbaa
open Go.RowKit
open Go.Lib (strCells)

theorem let_ext {L M : Let} (h1 : L.ps = M.ps) (h2 : L.is = M.is) (h3 : L.nums7 = M.nums7) (h4 : L.kind = M.kind) (h5 : L.yes = M.yes) (h6 : L.s = M.s) (h7 : L.t = M.t) (h8 : L.body = M.body) : L = M := by
  cases L; cases M
  simp only [Let.nums7, List.cons.injEq] at *
  simp_all
instance : DecidableEq Let := fun a b => decidable_of_iff (a.ps = b.ps ∧ a.is = b.is ∧ a.nums7 = b.nums7 ∧ a.kind = b.kind ∧ a.yes = b.yes ∧ a.s = b.s ∧ a.t = b.t ∧ a.body = b.body) ⟨fun ⟨h1, h2, h3, h4, h5, h6, h7, h8⟩ => let_ext h1 h2 h3 h4 h5 h6 h7 h8, fun h => by subst h; exact ⟨rfl, rfl, rfl, rfl, rfl, rfl, rfl, rfl⟩⟩
set_option maxRecDepth 100000 in
set_option maxHeartbeats 12800000 in
theorem sameL_any (L M : Let) (Ap : Option Addr) (np cp : Nat) (Ai : Option Addr) (ni ci : Nat) (Bp : Option Addr) (mp dp : Nat) (Bi : Option Addr) (mi di : Nat) (C : Nat) (w : World) (hP : HasLps w C Ap np L.ps) (hI : HasLis w C Ai ni L.is) (hP' : HasLps w C Bp mp M.ps) (hI' : HasLis w C Bi mi M.is) (hC : C ≤ w.heap.size) (hn : np ≤ maxLen ∧ ni ≤ maxLen) (hm : mp ≤ maxLen ∧ mi ≤ maxLen) :
    Calls Try.prog 16 #[.agg #[.int .i64 L.kind, .int .i64 L.frm, .int .i64 L.to, .int .i64 L.a, .int .i64 L.b, .int .i64 L.c, .int .i64 L.d, .string L.s, .string L.t, .slice Ap np cp, .slice Ai ni ci, .int .i64 L.code, .bool L.yes, .string L.body], .agg #[.int .i64 M.kind, .int .i64 M.frm, .int .i64 M.to, .int .i64 M.a, .int .i64 M.b, .int .i64 M.c, .int .i64 M.d, .string M.s, .string M.t, .slice Bp mp dp, .slice Bi mi di, .int .i64 M.code, .bool M.yes, .string M.body]] w fun e w' => e = .returned (.bool (decide (L = M))) ∧ Below w.heap.size w w' := by
  unfold maxLen at hn hm
  obtain ⟨hn1, hn2⟩ := hn
  obtain ⟨hm1, hm2⟩ := hm
  have HIs := Lib.hid (And.intro hI hI')
  have Hl := Lib.hid hP.1
  have Hm := Lib.hid hP'.1
  have HM : Hid (∀ wx, Below ((w.alloc (.cells #[.int .i64 L.kind, .int .i64 L.frm, .int .i64 L.to, .int .i64 L.a, .int .i64 L.b, .int .i64 L.c, .int .i64 L.d, .string L.s, .string L.t, .slice Ap np cp, .slice Ai ni ci, .int .i64 L.code, .bool L.yes, .string L.body] 26)).alloc (.cells #[.int .i64 M.kind, .int .i64 M.frm, .int .i64 M.to, .int .i64 M.a, .int .i64 M.b, .int .i64 M.c, .int .i64 M.d, .string M.s, .string M.t, .slice Bp mp dp, .slice Bi mi di, .int .i64 M.code, .bool M.yes, .string M.body] 26)).heap.size ((w.alloc (.cells #[.int .i64 L.kind, .int .i64 L.frm, .int .i64 L.to, .int .i64 L.a, .int .i64 L.b, .int .i64 L.c, .int .i64 L.d, .string L.s, .string L.t, .slice Ap np cp, .slice Ai ni ci, .int .i64 L.code, .bool L.yes, .string L.body] 26)).alloc (.cells #[.int .i64 M.kind, .int .i64 M.frm, .int .i64 M.to, .int .i64 M.a, .int .i64 M.b, .int .i64 M.c, .int .i64 M.d, .string M.s, .string M.t, .slice Bp mp dp, .slice Bi mi di, .int .i64 M.code, .bool M.yes, .string M.body] 26)) wx → Box wx w.heap.size 26 #[.int .i64 L.kind, .int .i64 L.frm, .int .i64 L.to, .int .i64 L.a, .int .i64 L.b, .int .i64 L.c, .int .i64 L.d, .string L.s, .string L.t, .slice Ap np cp, .slice Ai ni ci, .int .i64 L.code, .bool L.yes, .string L.body] ∧ Box wx (w.heap.size + 1) 26 #[.int .i64 M.kind, .int .i64 M.frm, .int .i64 M.to, .int .i64 M.a, .int .i64 M.b, .int .i64 M.c, .int .i64 M.d, .string M.s, .string M.t, .slice Bp mp dp, .slice Bi mi di, .int .i64 M.code, .bool M.yes, .string M.body]) := Lib.hid (fun wx (hx : Below ((w.alloc (.cells #[.int .i64 L.kind, .int .i64 L.frm, .int .i64 L.to, .int .i64 L.a, .int .i64 L.b, .int .i64 L.c, .int .i64 L.d, .string L.s, .string L.t, .slice Ap np cp, .slice Ai ni ci, .int .i64 L.code, .bool L.yes, .string L.body] 26)).alloc (.cells #[.int .i64 M.kind, .int .i64 M.frm, .int .i64 M.to, .int .i64 M.a, .int .i64 M.b, .int .i64 M.c, .int .i64 M.d, .string M.s, .string M.t, .slice Bp mp dp, .slice Bi mi di, .int .i64 M.code, .bool M.yes, .string M.body] 26)).heap.size ((w.alloc (.cells #[.int .i64 L.kind, .int .i64 L.frm, .int .i64 L.to, .int .i64 L.a, .int .i64 L.b, .int .i64 L.c, .int .i64 L.d, .string L.s, .string L.t, .slice Ap np cp, .slice Ai ni ci, .int .i64 L.code, .bool L.yes, .string L.body] 26)).alloc (.cells #[.int .i64 M.kind, .int .i64 M.frm, .int .i64 M.to, .int .i64 M.a, .int .i64 M.b, .int .i64 M.c, .int .i64 M.d, .string M.s, .string M.t, .slice Bp mp dp, .slice Bi mi di, .int .i64 M.code, .bool M.yes, .string M.body] 26)) wx) => by
    have h1 := (Box.made w 26 #[.int .i64 L.kind, .int .i64 L.frm, .int .i64 L.to, .int .i64 L.a, .int .i64 L.b, .int .i64 L.c, .int .i64 L.d, .string L.s, .string L.t, .slice Ap np cp, .slice Ai ni ci, .int .i64 L.code, .bool L.yes, .string L.body]).alloc (.cells #[.int .i64 M.kind, .int .i64 M.frm, .int .i64 M.to, .int .i64 M.a, .int .i64 M.b, .int .i64 M.c, .int .i64 M.d, .string M.s, .string M.t, .slice Bp mp dp, .slice Bi mi di, .int .i64 M.code, .bool M.yes, .string M.body] 26)
    have h2 := Box.made (w.alloc (.cells #[.int .i64 L.kind, .int .i64 L.frm, .int .i64 L.to, .int .i64 L.a, .int .i64 L.b, .int .i64 L.c, .int .i64 L.d, .string L.s, .string L.t, .slice Ap np cp, .slice Ai ni ci, .int .i64 L.code, .bool L.yes, .string L.body] 26)) 26 #[.int .i64 M.kind, .int .i64 M.frm, .int .i64 M.to, .int .i64 M.a, .int .i64 M.b, .int .i64 M.c, .int .i64 M.d, .string M.s, .string M.t, .slice Bp mp dp, .slice Bi mi di, .int .i64 M.code, .bool M.yes, .string M.body]
    have h3 := h1.below hx (by simp; omega)
    have h4 := h2.below hx (by simp)
    rw [World.size_alloc] at h4
    exact And.intro h3 h4)
  have HBe : Hid (∀ wx, Below ((w.alloc (.cells #[.int .i64 L.kind, .int .i64 L.frm, .int .i64 L.to, .int .i64 L.a, .int .i64 L.b, .int .i64 L.c, .int .i64 L.d, .string L.s, .string L.t, .slice Ap np cp, .slice Ai ni ci, .int .i64 L.code, .bool L.yes, .string L.body] 26)).alloc (.cells #[.int .i64 M.kind, .int .i64 M.frm, .int .i64 M.to, .int .i64 M.a, .int .i64 M.b, .int .i64 M.c, .int .i64 M.d, .string M.s, .string M.t, .slice Bp mp dp, .slice Bi mi di, .int .i64 M.code, .bool M.yes, .string M.body] 26)).heap.size ((w.alloc (.cells #[.int .i64 L.kind, .int .i64 L.frm, .int .i64 L.to, .int .i64 L.a, .int .i64 L.b, .int .i64 L.c, .int .i64 L.d, .string L.s, .string L.t, .slice Ap np cp, .slice Ai ni ci, .int .i64 L.code, .bool L.yes, .string L.body] 26)).alloc (.cells #[.int .i64 M.kind, .int .i64 M.frm, .int .i64 M.to, .int .i64 M.a, .int .i64 M.b, .int .i64 M.c, .int .i64 M.d, .string M.s, .string M.t, .slice Bp mp dp, .slice Bi mi di, .int .i64 M.code, .bool M.yes, .string M.body] 26)) wx → Below w.heap.size w wx) := Lib.hid fun wx hx => ((below_box (w := w) (.cells #[.int .i64 L.kind, .int .i64 L.frm, .int .i64 L.to, .int .i64 L.a, .int .i64 L.b, .int .i64 L.c, .int .i64 L.d, .string L.s, .string L.t, .slice Ap np cp, .slice Ai ni ci, .int .i64 L.code, .bool L.yes, .string L.body] 26)).trans ((below_box _).mono (by simp))).trans (hx.mono (by simp; omega))
  have HA : Hid (∀ wx, Below ((w.alloc (.cells #[.int .i64 L.kind, .int .i64 L.frm, .int .i64 L.to, .int .i64 L.a, .int .i64 L.b, .int .i64 L.c, .int .i64 L.d, .string L.s, .string L.t, .slice Ap np cp, .slice Ai ni ci, .int .i64 L.code, .bool L.yes, .string L.body] 26)).alloc (.cells #[.int .i64 M.kind, .int .i64 M.frm, .int .i64 M.to, .int .i64 M.a, .int .i64 M.b, .int .i64 M.c, .int .i64 M.d, .string M.s, .string M.t, .slice Bp mp dp, .slice Bi mi di, .int .i64 M.code, .bool M.yes, .string M.body] 26)).heap.size ((w.alloc (.cells #[.int .i64 L.kind, .int .i64 L.frm, .int .i64 L.to, .int .i64 L.a, .int .i64 L.b, .int .i64 L.c, .int .i64 L.d, .string L.s, .string L.t, .slice Ap np cp, .slice Ai ni ci, .int .i64 L.code, .bool L.yes, .string L.body] 26)).alloc (.cells #[.int .i64 M.kind, .int .i64 M.frm, .int .i64 M.to, .int .i64 M.a, .int .i64 M.b, .int .i64 M.c, .int .i64 M.d, .string M.s, .string M.t, .slice Bp mp dp, .slice Bi mi di, .int .i64 M.code, .bool M.yes, .string M.body] 26)) wx → HasLps wx C Ap np L.ps ∧ HasLps wx C Bp mp M.ps) := Lib.hid fun wx hx => ⟨hP.belowOf (HBe.out wx hx) hC, hP'.belowOf (HBe.out wx hx) hC⟩
  have HB0 : Hid (Below w.heap.size w ((w.alloc (.cells #[.int .i64 L.kind, .int .i64 L.frm, .int .i64 L.to, .int .i64 L.a, .int .i64 L.b, .int .i64 L.c, .int .i64 L.d, .string L.s, .string L.t, .slice Ap np cp, .slice Ai ni ci, .int .i64 L.code, .bool L.yes, .string L.body] 26)).alloc (.cells #[.int .i64 M.kind, .int .i64 M.frm, .int .i64 M.to, .int .i64 M.a, .int .i64 M.b, .int .i64 M.c, .int .i64 M.d, .string M.s, .string M.t, .slice Bp mp dp, .slice Bi mi di, .int .i64 M.code, .bool M.yes, .string M.body] 26))) := Lib.hid (HBe.out _ (Below.refl _ _))
  have HIs1 : Hid (HasLis ((w.alloc (.cells #[.int .i64 L.kind, .int .i64 L.frm, .int .i64 L.to, .int .i64 L.a, .int .i64 L.b, .int .i64 L.c, .int .i64 L.d, .string L.s, .string L.t, .slice Ap np cp, .slice Ai ni ci, .int .i64 L.code, .bool L.yes, .string L.body] 26)).alloc (.cells #[.int .i64 M.kind, .int .i64 M.frm, .int .i64 M.to, .int .i64 M.a, .int .i64 M.b, .int .i64 M.c, .int .i64 M.d, .string M.s, .string M.t, .slice Bp mp dp, .slice Bi mi di, .int .i64 M.code, .bool M.yes, .string M.body] 26)) C Ai ni L.is ∧ HasLis ((w.alloc (.cells #[.int .i64 L.kind, .int .i64 L.frm, .int .i64 L.to, .int .i64 L.a, .int .i64 L.b, .int .i64 L.c, .int .i64 L.d, .string L.s, .string L.t, .slice Ap np cp, .slice Ai ni ci, .int .i64 L.code, .bool L.yes, .string L.body] 26)).alloc (.cells #[.int .i64 M.kind, .int .i64 M.frm, .int .i64 M.to, .int .i64 M.a, .int .i64 M.b, .int .i64 M.c, .int .i64 M.d, .string M.s, .string M.t, .slice Bp mp dp, .slice Bi mi di, .int .i64 M.code, .bool M.yes, .string M.body] 26)) C Bi mi M.is) := Lib.hid ⟨HIs.out.1.belowOf HB0.out hC, HIs.out.2.belowOf HB0.out hC⟩
  obtain ⟨-, -, ⟨q9, q10⟩, -⟩ := let_cells (HM.out ((w.alloc (.cells #[.int .i64 L.kind, .int .i64 L.frm, .int .i64 L.to, .int .i64 L.a, .int .i64 L.b, .int .i64 L.c, .int .i64 L.d, .string L.s, .string L.t, .slice Ap np cp, .slice Ai ni ci, .int .i64 L.code, .bool L.yes, .string L.body] 26)).alloc (.cells #[.int .i64 M.kind, .int .i64 M.frm, .int .i64 M.to, .int .i64 M.a, .int .i64 M.b, .int .i64 M.c, .int .i64 M.d, .string M.s, .string M.t, .slice Bp mp dp, .slice Bi mi di, .int .i64 M.code, .bool M.yes, .string M.body] 26)) (Below.refl _ _)).1
  obtain ⟨-, -, ⟨r9, r10⟩, -⟩ := let_cells (HM.out ((w.alloc (.cells #[.int .i64 L.kind, .int .i64 L.frm, .int .i64 L.to, .int .i64 L.a, .int .i64 L.b, .int .i64 L.c, .int .i64 L.d, .string L.s, .string L.t, .slice Ap np cp, .slice Ai ni ci, .int .i64 L.code, .bool L.yes, .string L.body] 26)).alloc (.cells #[.int .i64 M.kind, .int .i64 M.frm, .int .i64 M.to, .int .i64 M.a, .int .i64 M.b, .int .i64 M.c, .int .i64 M.d, .string M.s, .string M.t, .slice Bp mp dp, .slice Bi mi di, .int .i64 M.code, .bool M.yes, .string M.body] 26)) (Below.refl _ _)).2
  have Hsi := Lib.hid (sameIts_any Ai Bi ni mi ci di C C L.is M.is ((w.alloc (.cells #[.int .i64 L.kind, .int .i64 L.frm, .int .i64 L.to, .int .i64 L.a, .int .i64 L.b, .int .i64 L.c, .int .i64 L.d, .string L.s, .string L.t, .slice Ap np cp, .slice Ai ni ci, .int .i64 L.code, .bool L.yes, .string L.body] 26)).alloc (.cells #[.int .i64 M.kind, .int .i64 M.frm, .int .i64 M.to, .int .i64 M.a, .int .i64 M.b, .int .i64 M.c, .int .i64 M.d, .string M.s, .string M.t, .slice Bp mp dp, .slice Bi mi di, .int .i64 M.code, .bool M.yes, .string M.body] 26)) HIs1.out.1 HIs1.out.2 (by unfold maxLen; omega) (by unfold maxLen; omega))
  clear hP hI hP' hI'
  by_cases hnn : np = mp
  case neg =>
    have E : Hid (decide (L = M) = false) := Lib.hid (decide_eq_false fun e => hnn (by rw [← Hl.out, ← Hm.out, e]))
    have hb : ((np : Int) != (mp : Int)) = true := by simp; omega
    clear hnn
    go_enter Try.func16, Try.ntmps16
    go_wp2
    go_ret
    exact ⟨ret_bool (by rw [E.out]), HB0.out⟩
  case pos =>
    subst hnn
    go_enter Try.func16, Try.ntmps16
    go_wp2_with fail
    refine Hsi.out.mono ?_
    rintro e w2 ⟨rfl, b2⟩
    have HB2 := Lib.hid b2
    clear b2 Hsi
    by_cases hii : L.is = M.is
    case neg =>
      have E : Hid (decide (L = M) = false) := Lib.hid (decide_eq_false fun e => hii (by rw [e]))
      rw [decide_eq_false hii]
      clear hii
      go_wp2
      go_ret
      exact ⟨ret_bool (by rw [E.out]), HBe.out _ HB2.out⟩
    case pos =>
      have Hii := Lib.hid hii
      rw [decide_eq_true hii]
      clear hii q9 q10 r9 r10
      obtain ⟨-, -, ⟨q9, q10⟩, -⟩ := let_cells (HM.out w2 HB2.out).1
      obtain ⟨-, -, ⟨r9, r10⟩, -⟩ := let_cells (HM.out w2 HB2.out).2
      go_wp2
      clear q9 q10 r9 r10
      go_loopw [5] (fun i wr => ∃ k : Nat, k ≤ np ∧ i = .int .i64 (k : Int) ∧ Hid (L.ps.take k = M.ps.take k) ∧ Hid (Below ((w.alloc (.cells #[.int .i64 L.kind, .int .i64 L.frm, .int .i64 L.to, .int .i64 L.a, .int .i64 L.b, .int .i64 L.c, .int .i64 L.d, .string L.s, .string L.t, .slice Ap np cp, .slice Ai ni ci, .int .i64 L.code, .bool L.yes, .string L.body] 26)).alloc (.cells #[.int .i64 M.kind, .int .i64 M.frm, .int .i64 M.to, .int .i64 M.a, .int .i64 M.b, .int .i64 M.c, .int .i64 M.d, .string M.s, .string M.t, .slice Bp np dp, .slice Bi mi di, .int .i64 M.code, .bool M.yes, .string M.body] 26)).heap.size ((w.alloc (.cells #[.int .i64 L.kind, .int .i64 L.frm, .int .i64 L.to, .int .i64 L.a, .int .i64 L.b, .int .i64 L.c, .int .i64 L.d, .string L.s, .string L.t, .slice Ap np cp, .slice Ai ni ci, .int .i64 L.code, .bool L.yes, .string L.body] 26)).alloc (.cells #[.int .i64 M.kind, .int .i64 M.frm, .int .i64 M.to, .int .i64 M.a, .int .i64 M.b, .int .i64 M.c, .int .i64 M.d, .string M.s, .string M.t, .slice Bp np dp, .slice Bi mi di, .int .i64 M.code, .bool M.yes, .string M.body] 26)) wr)) (fun i _ => np - (intOf i).toNat)
      case atStart => exact ⟨0, by omega, rfl, Lib.hid rfl, HB2⟩
      case round =>
        obtain ⟨k, hk, rfl, Ht, HB⟩ := hrel
        obtain ⟨-, -, ⟨q9, -⟩, -⟩ := let_cells (HM.out wr HB.out).1
        obtain ⟨-, -, ⟨r9, -⟩, -⟩ := let_cells (HM.out wr HB.out).2
        by_cases hlt : k < np
        · obtain ⟨a, v, rfl, _, hv, c0, c1⟩ := (HA.out wr HB.out).1.at_ hlt
          obtain ⟨b, u, rfl, _, hu, d0, d1⟩ := (HA.out wr HB.out).2.at_ hlt
          have hk0 : (0 : Int) ≤ (k : Int) := by omega
          have hk1 : (k : Int) < (np : Int) := by omega
          have Hv := Lib.hid hv
          have Hu := Lib.hid hu
          clear hv hu
          by_cases e : v = u
          · subst e
            go_wp2
            go_quiet (fail)
            go_wp2
            go_roundw
            case rel => exact ⟨k + 1, by omega, by go_num, Lib.hid (by rw [List.take_add_one, List.take_add_one, Ht.out, Hv.out, Hu.out]), Lib.hid (below_drL HB.out _)⟩
            case measure => simp [intOf]; omega
          · have E : Hid (decide (L = M) = false) := Lib.hid (decide_eq_false fun e' => by
              rw [e', Hu.out] at Hv
              exact e (Option.some.inj Hv.out).symm)
            obtain ⟨vs, vt⟩ := v
            obtain ⟨us, ut⟩ := u
            have hx : (vs ≠ us) ∨ (vs = us ∧ vt ≠ ut) := by
              by_cases h1 : vs = us
              · exact .inr ⟨h1, fun h2 => e (by rw [h1, h2])⟩
              · exact .inl h1
            simp only at c0 c1 d0 d1
            clear e
            rcases hx with hx | ⟨rfl, hx⟩
            · have hb : (vs.toList == us.toList) = false := by rw [text_eqL]; exact decide_eq_false hx
              clear hx
              go_wp2
              go_quiet (fail)
              go_wp2
              go_ret
              exact ⟨ret_bool (by rw [E.out]), HBe.out _ (below_drL HB.out _)⟩
            · have hb : (vt.toList == ut.toList) = false := by rw [text_eqL]; exact decide_eq_false hx
              clear hx
              go_wp2
              go_quiet (fail)
              go_wp2
              go_ret
              exact ⟨ret_bool (by rw [E.out]), HBe.out _ (below_drL HB.out _)⟩
        · have Hps : Hid (L.ps = M.ps) := Lib.hid (by
            have h1 := Ht.out
            rwa [List.take_of_length_le (by have := Hl.out; omega), List.take_of_length_le (by have := Hm.out; omega)] at h1)
          go_wp2
          clear q9 r9
          generalize wr = W5 at *
          have HcN : Hid (∀ (K : Let) (Kp : Option Addr) (kp ep : Nat) (Ki : Option Addr) (ki ei : Nat) (wx : World), Below W5.heap.size W5 wx → Calls Try.prog 41 #[.agg #[.int .i64 K.kind, .int .i64 K.frm, .int .i64 K.to, .int .i64 K.a, .int .i64 K.b, .int .i64 K.c, .int .i64 K.d, .string K.s, .string K.t, .slice Kp kp ep, .slice Ki ki ei, .int .i64 K.code, .bool K.yes, .string K.body]] wx fun e w' => ∃ A, e = .returned (.slice A 7 7) ∧ NumRow w' A K.nums7 ∧ Below W5.heap.size W5 w' ∧ Below wx.heap.size wx w' ∧ Box w' w.heap.size 26 #[.int .i64 L.kind, .int .i64 L.frm, .int .i64 L.to, .int .i64 L.a, .int .i64 L.b, .int .i64 L.c, .int .i64 L.d, .string L.s, .string L.t, .slice Ap np cp, .slice Ai ni ci, .int .i64 L.code, .bool L.yes, .string L.body] ∧ Box w' (w.heap.size + 1) 26 #[.int .i64 M.kind, .int .i64 M.frm, .int .i64 M.to, .int .i64 M.a, .int .i64 M.b, .int .i64 M.c, .int .i64 M.d, .string M.s, .string M.t, .slice Bp np dp, .slice Bi mi di, .int .i64 M.code, .bool M.yes, .string M.body]) := Lib.hid fun K Kp kp ep Ki ki ei wx hx => (refNums_any K Kp kp ep Ki ki ei wx).mono (by
            rintro e w' ⟨A, rfl, h1, h2⟩
            exact ⟨A, rfl, h1, hx.trans (h2.mono hx.size), h2, HM.out w' (HB.out.trans ((hx.trans (h2.mono hx.size)).mono HB.out.size))⟩)
          have HK : Hid (∀ wx, Below W5.heap.size W5 wx → (((wx.cell? ⟨w.heap.size, 0, none⟩ = some (.int .i64 L.kind) ∧ wx.cell? ⟨w.heap.size, 1, none⟩ = some (.int .i64 L.frm) ∧ wx.cell? ⟨w.heap.size, 2, none⟩ = some (.int .i64 L.to) ∧ wx.cell? ⟨w.heap.size, 3, none⟩ = some (.int .i64 L.a) ∧ wx.cell? ⟨w.heap.size, 4, none⟩ = some (.int .i64 L.b) ∧ wx.cell? ⟨w.heap.size, 5, none⟩ = some (.int .i64 L.c) ∧ wx.cell? ⟨w.heap.size, 6, none⟩ = some (.int .i64 L.d)) ∧ (wx.cell? ⟨w.heap.size, 7, none⟩ = some (.string L.s) ∧ wx.cell? ⟨w.heap.size, 8, none⟩ = some (.string L.t)) ∧ (wx.cell? ⟨w.heap.size, 9, none⟩ = some (.slice Ap np cp) ∧ wx.cell? ⟨w.heap.size, 10, none⟩ = some (.slice Ai ni ci)) ∧ (wx.cell? ⟨w.heap.size, 11, none⟩ = some (.int .i64 L.code) ∧ wx.cell? ⟨w.heap.size, 12, none⟩ = some (.bool L.yes) ∧ wx.cell? ⟨w.heap.size, 13, none⟩ = some (.string L.body))) ∧ ((wx.cell? ⟨w.heap.size + 1, 0, none⟩ = some (.int .i64 M.kind) ∧ wx.cell? ⟨w.heap.size + 1, 1, none⟩ = some (.int .i64 M.frm) ∧ wx.cell? ⟨w.heap.size + 1, 2, none⟩ = some (.int .i64 M.to) ∧ wx.cell? ⟨w.heap.size + 1, 3, none⟩ = some (.int .i64 M.a) ∧ wx.cell? ⟨w.heap.size + 1, 4, none⟩ = some (.int .i64 M.b) ∧ wx.cell? ⟨w.heap.size + 1, 5, none⟩ = some (.int .i64 M.c) ∧ wx.cell? ⟨w.heap.size + 1, 6, none⟩ = some (.int .i64 M.d)) ∧ (wx.cell? ⟨w.heap.size + 1, 7, none⟩ = some (.string M.s) ∧ wx.cell? ⟨w.heap.size + 1, 8, none⟩ = some (.string M.t)) ∧ (wx.cell? ⟨w.heap.size + 1, 9, none⟩ = some (.slice Bp np dp) ∧ wx.cell? ⟨w.heap.size + 1, 10, none⟩ = some (.slice Bi mi di)) ∧ (wx.cell? ⟨w.heap.size + 1, 11, none⟩ = some (.int .i64 M.code) ∧ wx.cell? ⟨w.heap.size + 1, 12, none⟩ = some (.bool M.yes) ∧ wx.cell? ⟨w.heap.size + 1, 13, none⟩ = some (.string M.body)))) ∧ Below W5.heap.size W5 wx) := Lib.hid fun wx hx => ⟨⟨let_cells (HM.out wx (HB.out.trans (hx.mono HB.out.size))).1, let_cells (HM.out wx (HB.out.trans (hx.mono HB.out.size))).2⟩, hx⟩
          go_upto_region 8 with fail
          go_cut [6, 7] (fun xv yv wx => ∃ A6 A7, xv = .slice A6 7 7 ∧ yv = .slice A7 7 7 ∧ Hid (NumRow wx A6 L.nums7 ∧ NumRow wx A7 M.nums7) ∧ Hid (Below W5.heap.size W5 wx))
          case first =>
            go_region_held3 (fun wx => (((wx.cell? ⟨w.heap.size, 0, none⟩ = some (.int .i64 L.kind) ∧ wx.cell? ⟨w.heap.size, 1, none⟩ = some (.int .i64 L.frm) ∧ wx.cell? ⟨w.heap.size, 2, none⟩ = some (.int .i64 L.to) ∧ wx.cell? ⟨w.heap.size, 3, none⟩ = some (.int .i64 L.a) ∧ wx.cell? ⟨w.heap.size, 4, none⟩ = some (.int .i64 L.b) ∧ wx.cell? ⟨w.heap.size, 5, none⟩ = some (.int .i64 L.c) ∧ wx.cell? ⟨w.heap.size, 6, none⟩ = some (.int .i64 L.d)) ∧ (wx.cell? ⟨w.heap.size, 7, none⟩ = some (.string L.s) ∧ wx.cell? ⟨w.heap.size, 8, none⟩ = some (.string L.t)) ∧ (wx.cell? ⟨w.heap.size, 9, none⟩ = some (.slice Ap np cp) ∧ wx.cell? ⟨w.heap.size, 10, none⟩ = some (.slice Ai ni ci)) ∧ (wx.cell? ⟨w.heap.size, 11, none⟩ = some (.int .i64 L.code) ∧ wx.cell? ⟨w.heap.size, 12, none⟩ = some (.bool L.yes) ∧ wx.cell? ⟨w.heap.size, 13, none⟩ = some (.string L.body))) ∧ ((wx.cell? ⟨w.heap.size + 1, 0, none⟩ = some (.int .i64 M.kind) ∧ wx.cell? ⟨w.heap.size + 1, 1, none⟩ = some (.int .i64 M.frm) ∧ wx.cell? ⟨w.heap.size + 1, 2, none⟩ = some (.int .i64 M.to) ∧ wx.cell? ⟨w.heap.size + 1, 3, none⟩ = some (.int .i64 M.a) ∧ wx.cell? ⟨w.heap.size + 1, 4, none⟩ = some (.int .i64 M.b) ∧ wx.cell? ⟨w.heap.size + 1, 5, none⟩ = some (.int .i64 M.c) ∧ wx.cell? ⟨w.heap.size + 1, 6, none⟩ = some (.int .i64 M.d)) ∧ (wx.cell? ⟨w.heap.size + 1, 7, none⟩ = some (.string M.s) ∧ wx.cell? ⟨w.heap.size + 1, 8, none⟩ = some (.string M.t)) ∧ (wx.cell? ⟨w.heap.size + 1, 9, none⟩ = some (.slice Bp np dp) ∧ wx.cell? ⟨w.heap.size + 1, 10, none⟩ = some (.slice Bi mi di)) ∧ (wx.cell? ⟨w.heap.size + 1, 11, none⟩ = some (.int .i64 M.code) ∧ wx.cell? ⟨w.heap.size + 1, 12, none⟩ = some (.bool M.yes) ∧ wx.cell? ⟨w.heap.size + 1, 13, none⟩ = some (.string M.body)))) ∧ Below W5.heap.size W5 wx)
              (first | exact HK.out _ (Below.refl _ _) | exact HK.out _ (Below.refl _ _).drew | exact HK.out _ bL | exact HK.out _ bM)
              (first | (go_at_call_of 41 (Value.string L.body); refine (HcN.out L Ap np cp Ai ni ci _ (by first | exact Below.refl _ _ | exact (Below.refl _ _).drew | exact bL | exact bM | exact bL.drew | exact bM.drew)).mono ?_; rintro e' wL ⟨AL, rfl, rL, bL, bwL, -, -⟩) | (go_at_call_of 41 (Value.string M.body); refine (HcN.out M Bp np dp Bi mi di _ (by first | exact Below.refl _ _ | exact (Below.refl _ _).drew | exact bL | exact bM | exact bL.drew | exact bM.drew)).mono ?_; rintro e' wM ⟨AM, rfl, rM, bM, bwM, -, -⟩))
            all_goals go_wp2
            all_goals go_meet
            all_goals exact ⟨AL, AM, rfl, rfl, Lib.hid ⟨by first | exact rL | exact rL.below bwM | exact rL.below ((Below.refl _ _).drew.trans bwM), by first | exact rM | exact rM.below bwL | exact rM.below ((Below.refl _ _).drew.trans bwL)⟩, Lib.hid (by first | exact bM | exact bL)⟩
          case rest =>
            obtain ⟨A6, A7, rfl, rfl, HN, HW⟩ := hcut
            generalize wc = W6 at *
            have HW6 : Hid (Below ((w.alloc (.cells #[.int .i64 L.kind, .int .i64 L.frm, .int .i64 L.to, .int .i64 L.a, .int .i64 L.b, .int .i64 L.c, .int .i64 L.d, .string L.s, .string L.t, .slice Ap np cp, .slice Ai ni ci, .int .i64 L.code, .bool L.yes, .string L.body] 26)).alloc (.cells #[.int .i64 M.kind, .int .i64 M.frm, .int .i64 M.to, .int .i64 M.a, .int .i64 M.b, .int .i64 M.c, .int .i64 M.d, .string M.s, .string M.t, .slice Bp np dp, .slice Bi mi di, .int .i64 M.code, .bool M.yes, .string M.body] 26)).heap.size ((w.alloc (.cells #[.int .i64 L.kind, .int .i64 L.frm, .int .i64 L.to, .int .i64 L.a, .int .i64 L.b, .int .i64 L.c, .int .i64 L.d, .string L.s, .string L.t, .slice Ap np cp, .slice Ai ni ci, .int .i64 L.code, .bool L.yes, .string L.body] 26)).alloc (.cells #[.int .i64 M.kind, .int .i64 M.frm, .int .i64 M.to, .int .i64 M.a, .int .i64 M.b, .int .i64 M.c, .int .i64 M.d, .string M.s, .string M.t, .slice Bp np dp, .slice Bi mi di, .int .i64 M.code, .bool M.yes, .string M.body] 26)) W6) := Lib.hid (HB.out.trans (HW.out.mono HB.out.size))
            clear HcN hlt
            go_wp2
            go_loopw [8] (fun i wr => ∃ j : Nat, j ≤ 7 ∧ i = .int .i64 (j : Int) ∧ Hid (L.nums7.take j = M.nums7.take j) ∧ Hid (Below W6.heap.size W6 wr)) (fun i _ => 7 - (intOf i).toNat)
            case atStart => exact ⟨0, by omega, rfl, Lib.hid rfl, Lib.hid (Below.refl _ _)⟩
            case round =>
              obtain ⟨j, hj, rfl, Hj, HQ⟩ := hrel
              have HQw : Hid (Below ((w.alloc (.cells #[.int .i64 L.kind, .int .i64 L.frm, .int .i64 L.to, .int .i64 L.a, .int .i64 L.b, .int .i64 L.c, .int .i64 L.d, .string L.s, .string L.t, .slice Ap np cp, .slice Ai ni ci, .int .i64 L.code, .bool L.yes, .string L.body] 26)).alloc (.cells #[.int .i64 M.kind, .int .i64 M.frm, .int .i64 M.to, .int .i64 M.a, .int .i64 M.b, .int .i64 M.c, .int .i64 M.d, .string M.s, .string M.t, .slice Bp np dp, .slice Bi mi di, .int .i64 M.code, .bool M.yes, .string M.body] 26)).heap.size ((w.alloc (.cells #[.int .i64 L.kind, .int .i64 L.frm, .int .i64 L.to, .int .i64 L.a, .int .i64 L.b, .int .i64 L.c, .int .i64 L.d, .string L.s, .string L.t, .slice Ap np cp, .slice Ai ni ci, .int .i64 L.code, .bool L.yes, .string L.body] 26)).alloc (.cells #[.int .i64 M.kind, .int .i64 M.frm, .int .i64 M.to, .int .i64 M.a, .int .i64 M.b, .int .i64 M.c, .int .i64 M.d, .string M.s, .string M.t, .slice Bp np dp, .slice Bi mi di, .int .i64 M.code, .bool M.yes, .string M.body] 26)) wr) := Lib.hid (HW6.out.trans (HQ.out.mono HW6.out.size))
              by_cases hj7 : j < 7
              · obtain ⟨a, x, rfl, hv, c0⟩ := (HN.out.1.below HQ.out).at_ (k := j) (by simp [Let.nums7]; omega)
                obtain ⟨b, y, rfl, hu, d0⟩ := (HN.out.2.below HQ.out).at_ (k := j) (by simp [Let.nums7]; omega)
                have hj0 : (0 : Int) ≤ (j : Int) := by omega
                have hj1 : (j : Int) < 7 := by omega
                have Hv := Lib.hid hv
                have Hu := Lib.hid hu
                clear hv hu
                by_cases e : x = y
                · subst e
                  go_wp2
                  go_quiet (fail)
                  go_wp2
                  go_roundw
                  case rel => exact ⟨j + 1, by omega, by go_num, Lib.hid (by rw [List.take_add_one, List.take_add_one, Hj.out, Hv.out, Hu.out]), Lib.hid (below_drL HQ.out _)⟩
                  case measure => simp [intOf]; omega
                · have E : Hid (decide (L = M) = false) := Lib.hid (decide_eq_false fun e' => by
                    rw [e', Hu.out] at Hv
                    exact e (Option.some.inj Hv.out).symm)
                  have hb : (x == y) = false := by simpa using e
                  clear e
                  go_wp2
                  go_quiet (fail)
                  go_wp2
                  go_ret
                  exact ⟨ret_bool (by rw [E.out]), HBe.out _ (below_drL HQw.out _)⟩
              · have H7 : Hid (L.nums7 = M.nums7) := Lib.hid (by
                  have h1 := Hj.out
                  rwa [List.take_of_length_le (by simp [Let.nums7]; omega), List.take_of_length_le (by simp [Let.nums7]; omega)] at h1)
                obtain ⟨⟨x0, x1, x2, x3, x4, x5, x6⟩, ⟨x7, x8⟩, ⟨x9, x10⟩, ⟨x11, x12, x13⟩⟩ := let_cells (HM.out wr HQw.out).1
                obtain ⟨⟨y0, y1, y2, y3, y4, y5, y6⟩, ⟨y7, y8⟩, ⟨y9, y10⟩, ⟨y11, y12, y13⟩⟩ := let_cells (HM.out wr HQw.out).2
                clear x1 x2 x3 x4 x5 x6 x9 x10 x11 y1 y2 y3 y4 y5 y6 y9 y10 y11
                by_cases e1 : L.kind = M.kind
                case neg =>
                  have E : Hid (decide (L = M) = false) := Lib.hid (decide_eq_false fun e => e1 (by rw [e]))
                  have hb1 : (L.kind == M.kind) = false := by simpa using e1
                  clear e1
                  go_wp2
                  go_ret
                  exact ⟨ret_bool (by rw [E.out]), HBe.out _ HQw.out⟩
                have hb1 : (L.kind == M.kind) = true := by simpa using e1
                have He1 := Lib.hid e1
                clear e1
                by_cases e2 : L.yes = M.yes
                case neg =>
                  have E : Hid (decide (L = M) = false) := Lib.hid (decide_eq_false fun e => e2 (by rw [e]))
                  have hb2 : (L.yes == M.yes) = false := by simpa using e2
                  clear e2
                  go_wp2
                  go_ret
                  exact ⟨ret_bool (by rw [E.out]), HBe.out _ HQw.out⟩
                have hb2 : (L.yes == M.yes) = true := by simpa using e2
                have He2 := Lib.hid e2
                clear e2
                by_cases e3 : L.s = M.s
                case neg =>
                  have E : Hid (decide (L = M) = false) := Lib.hid (decide_eq_false fun e => e3 (by rw [e]))
                  have hb3 : (L.s.toList == M.s.toList) = false := by rw [text_eqL]; exact decide_eq_false e3
                  clear e3
                  go_wp2
                  go_ret
                  exact ⟨ret_bool (by rw [E.out]), HBe.out _ HQw.out⟩
                have hb3 : (L.s.toList == M.s.toList) = true := by rw [text_eqL]; exact decide_eq_true e3
                have He3 := Lib.hid e3
                clear e3
                by_cases e4 : L.t = M.t
                case neg =>
                  have E : Hid (decide (L = M) = false) := Lib.hid (decide_eq_false fun e => e4 (by rw [e]))
                  have hb4 : (L.t.toList == M.t.toList) = false := by rw [text_eqL]; exact decide_eq_false e4
                  clear e4
                  go_wp2
                  go_ret
                  exact ⟨ret_bool (by rw [E.out]), HBe.out _ HQw.out⟩
                have hb4 : (L.t.toList == M.t.toList) = true := by rw [text_eqL]; exact decide_eq_true e4
                have He4 := Lib.hid e4
                clear e4
                by_cases e5 : L.body = M.body
                case neg =>
                  have E : Hid (decide (L = M) = false) := Lib.hid (decide_eq_false fun e => e5 (by rw [e]))
                  have hb5 : (L.body.toList == M.body.toList) = false := by rw [text_eqL]; exact decide_eq_false e5
                  clear e5
                  go_wp2
                  go_ret
                  exact ⟨ret_bool (by rw [E.out]), HBe.out _ HQw.out⟩
                have hb5 : (L.body.toList == M.body.toList) = true := by rw [text_eqL]; exact decide_eq_true e5
                have He5 := Lib.hid e5
                clear e5
                have E : Hid (decide (L = M) = true) := Lib.hid (decide_eq_true (let_ext Hps.out Hii.out H7.out He1.out He2.out He3.out He4.out He5.out))
                go_wp2
                go_ret
                exact ⟨ret_bool (by rw [E.out]), HBe.out _ HQw.out⟩
end Go.Proofs.Ytabcoidjbigdbaa
