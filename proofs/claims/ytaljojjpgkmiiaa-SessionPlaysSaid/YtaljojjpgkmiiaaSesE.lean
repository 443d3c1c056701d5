/- Package session: Post. Condition: the end is in memory. -/
import Derived.Test.YtaljojjpgkmiiaaSesA
import Derived.Deep.RegionHeld3
namespace Go.Proofs.Ytaljojjpgkmiiaa
open Go.RowKit

theorem si_lit_at (w : World) (g : Nat) (hg : w.heap.size = g) (c : SIt) : Has (w.alloc (.cells #[.int .i64 c.n, .string c.b] 105)) (g + 1) (some ⟨g, 0, none⟩) (1 * 2) (siCells [c]) := by
  subst hg
  exact si_lit w c
theorem take_itemsS {l : List ByteArray} {d k : Nat} {x : ByteArray} (hx : l[k]? = some x) : itemsFrom d (l.take (k + 1)) = itemsFrom d (l.take k) ++ [⟨d + k, x⟩] := by
  have hk := (List.getElem?_eq_some_iff.1 hx).1
  have hx2 : l[k] = x := (List.getElem?_eq_some_iff.1 hx).2
  rw [List.take_succ_eq_append_getElem hk, hx2, itemsFrom_snoc, List.length_take, Nat.min_eq_left (by omega)]
theorem grown_belS {w w' : World} (h : Below w.heap.size w w') (i : Option Nat) : w.grownBy w' i := ⟨h.os, h.tape, h.output, h.size, fun k hk _ => h.block k hk⟩
section
variable {w : World} {B g : Nat} {v : Value} {E : SE}
set_option maxRecDepth 100000 in
set_option maxHeartbeats 3200000 in
theorem sesPost_any (h : EndAt w B g v E) (n : Int) : Calls Try.prog 21 #[.pointer (some ⟨g, 0, none⟩), .int .i64 n] w (GivesSi w.heap.size (E.post n) w) := by
  obtain ⟨D, hD⟩ : ∃ D : Nat, E.s - E.l.length = D := ⟨_, rfl⟩
  have hDi : (E.s : Int) - (E.l.length : Int) = (D : Int) := by have := h.good.le; omega
  have HP : Hid (E.post n = itemsFrom (D + 1) (E.l.take n.toNat)) := Lib.hid (by unfold SE.post; rw [hD])
  have hD9 : D ≤ 1099511627776 := by have := h.good.sl; omega
  have Htx := Lib.hid h.good.tx
  obtain ⟨A, c, rfl, hnc, -, hh⟩ := h.own.slice
  have HBr : Hid (∀ wx, Below w.heap.size w wx → Calls Try.prog 62 #[.pointer (some ⟨g, 0, none⟩)] wx fun e w' => e = .returned (.int .i64 (D : Int)) ∧ Below wx.heap.size wx w') := Lib.hid fun wx hx => by have h9 := brought_any (h.below hx); rwa [hDi] at h9
  have HX : Hid (∀ wx, Below w.heap.size w wx → wx.cell? ⟨g, 2, none⟩ = some (.slice A E.l.length c) ∧ HasTexts wx w.heap.size A E.l.length E.l) := Lib.hid fun wx hx => ⟨(h.below hx).cells.2.2.1, hh.below hx⟩
  have hN2 := h.good.ll
  have c2 := h.cells.2.2.1
  obtain ⟨N, hN⟩ : ∃ N, E.l.length = N := ⟨_, rfl⟩
  have HN := Lib.hid hN
  rw [hN] at HX hN2 c2
  obtain ⟨R, hR⟩ : ∃ R, E.post n = R := ⟨_, rfl⟩
  rw [hR] at HP ⊢
  obtain ⟨M, hM⟩ : ∃ M : Int, (if (N : Int) < n then (N : Int) else n) = M := ⟨_, rfl⟩
  have HM : Hid (M ≤ N ∧ E.l.take n.toNat = E.l.take M.toNat) := Lib.hid (by
    rw [← hM]
    split
    · refine ⟨Int.le_refl _, ?_⟩
      rw [List.take_of_length_le (by omega), List.take_of_length_le (by omega)]
    · exact ⟨by omega, rfl⟩)
  have Hsz : Hid (0 ≤ w.heap.size) := Lib.hid (Nat.zero_le _)
  clear h hh hN hDi hD hnc hR
  go_enter Try.func21, Try.ntmps21
  go_wp2
  go_loopw [5, 14] (fun o i wr => ∃ k : Nat, k ≤ M.toNat ∧ i = .int .i64 (k : Int) ∧ Hid (OwnSis wr w.heap.size o (itemsFrom (D + 1) (E.l.take k)) ∧ Below w.heap.size w wr)) (fun _ i _ => M.toNat - (intOf i).toNat)
  case atStart => exact ⟨0, Nat.zero_le _, rfl, Lib.hid ⟨OwnSis.nil _ _, Below.refl _ _⟩⟩
  case round =>
    obtain ⟨k, hk, rfl, HR⟩ := hrel
    by_cases hlt : (k : Int) < M
    · have hkN : k < N := by have := HM.out.1; omega
      obtain ⟨x, hx⟩ : ∃ x, E.l[k]? = some x := ⟨_, List.getElem?_eq_getElem (by have := HN.out; omega)⟩
      have Hx := Lib.hid hx
      have hxs : x.size ≤ 140737488355328 := by have := Htx.out x (List.mem_of_getElem? hx); omega
      obtain ⟨P, hP⟩ : ∃ P, itemsFrom (D + 1) (E.l.take k) = P := ⟨_, rfl⟩
      have hPl : P.length = k := by rw [← hP, itemsFrom_len, List.length_take]; have := HN.out; omega
      have HPk : Hid (itemsFrom (D + 1) (E.l.take (k + 1)) = P ++ [⟨D + 1 + k, x⟩]) := Lib.hid (by rw [take_itemsS hx, hP])
      rw [hP] at HR
      obtain ⟨Ao, co, rfl, hoc, hcm, -⟩ := HR.out.1.slice
      have Ho : Hid (wr.ownsRow w.heap.size 105 2 (.slice Ao k co) k (siCells P)) := Lib.hid (by have h9 := HR.out.1; unfold OwnSis at h9; rw [hPl] at h9; exact h9)
      have HPl := Lib.hid hPl
      rw [hPl] at HR hoc ⊢
      obtain ⟨a, ha⟩ : ∃ a, A = some a := by obtain ⟨a, e, -⟩ := (HX.out wr HR.out.2).2.text hkN; exact ⟨a, e⟩
      subst ha
      have HC : Hid (∀ wx, wr.grownBy wx (Value.slice Ao k co).ownBlock → (wx.cell? ⟨g, 2, none⟩ = some (.slice (some a) N c) ∧ wx.cell? (a.add k) = some (.string x)) ∧ wr.grownBy wx (Value.slice Ao k co).ownBlock) := Lib.hid fun wx hg => by
        have hb : Below w.heap.size w wx := HR.out.2.grown hg HR.out.2.size fun q hq => (Ho.out.lt q hq).1
        obtain ⟨h1, h2⟩ := HX.out wx hb
        refine ⟨⟨h1, ?_⟩, hg⟩
        obtain ⟨a', e, -, h3⟩ := h2.text hkN
        injection e with e
        subst e
        rw [h3]
        simp [hx]
      have Hb0 : Hid (∀ wx, wr.grownBy wx (Value.slice Ao k co).ownBlock → Below w.heap.size w wx) := Lib.hid fun wx hg => HR.out.2.grown hg HR.out.2.size fun q hq => (Ho.out.lt q hq).1
      have hw1 : IntKind.i64.wrap ((D : Int) + (k : Int)) = (D : Int) + (k : Int) := IntWalk.i64_in _ (by omega)
      have hw2 : IntKind.i64.wrap ((D : Int) + (k : Int) + 1) = ((D + 1 + k : Nat) : Int) := by rw [show (D : Int) + (k : Int) + 1 = ((D + 1 + k : Nat) : Int) from by omega]; exact IntWalk.i64_in _ (by omega)
      have hwc : w.heap.size ≤ wr.heap.size := HR.out.2.size
      clear hx hP hPl
      obtain ⟨⟨p0, p1⟩, -⟩ := HC.out wr (World.grownBy.refl _ _)
      go_wp2
      go_region_held3 (fun wx => (wx.cell? ⟨g, 2, none⟩ = some (.slice (some a) N c) ∧ wx.cell? (a.add k) = some (.string x)) ∧ wr.grownBy wx (Value.slice Ao k co).ownBlock)
        (first | exact HC.out _ (grown_belS (Below.refl _ _).drew _) | exact HC.out _ (World.grownBy.trans (And.right (by assumption)) (grown_belS b4 _)) | exact HC.out _ (World.grownBy.trans (And.right (by assumption)) (grown_belS b3 _)) | exact HC.out _ (World.grownBy.trans (And.right (by assumption)) (World.grownBy_alloc _ _ _)) | exact HC.out _ (World.grownBy.trans (And.right (by assumption)) gA))
        (first
          | (go_at_call 62; refine (HBr.out _ (Hb0.out _ (And.right (by assumption)))).mono ?_; rintro e w3 ⟨rfl, b3⟩)
          | (go_at_call 61; refine (clone_any x _ hxs).mono ?_; rintro e w4 ⟨rfl, b4⟩; have C4 : wr.grownBy w4 (Value.slice Ao k co).ownBlock := ((grown_belS ((Below.refl wr.heap.size wr).drew) _).trans (grown_belS b3 _)).trans (grown_belS b4 _); have B4 : Below wr.heap.size wr w4 := (((Below.refl wr.heap.size wr).drew).trans b3).trans (b4.mono b3.size))
          | (refine step_append_hasN (by rfl) _ _ _ (by rfl) 105 si_elem (by omega) Try.underlying38 (by rfl) (own_belowN Ho.out (B4.alloc B4.size (Obj.cells #[.int .i64 ((D + 1 + k : Nat) : Int), .string x] 105))) (by rfl) (si_lit_at w4 w4.heap.size rfl ⟨D + 1 + k, x⟩) (siCells_one _) (by simp only [maxLen]; omega) (by omega) (Nat.le_trans hwc (B4.alloc B4.size (Obj.cells #[.int .i64 ((D + 1 + k : Nat) : Int), .string x] 105)).size) ?_; intro vA wA oA gA zA))
      all_goals
        have HE : Hid (OwnSis wA w.heap.size vA (itemsFrom (D + 1) (E.l.take (k + 1))) ∧ Below w.heap.size w wA) := Lib.hid ⟨by unfold OwnSis; rw [HPk.out, List.length_append, HPl.out, siCells_app]; exact oA, Hb0.out wA (And.right (by assumption))⟩
        clear oA gA zA b3 b4 C4 B4 p0 p1 hw1 hw2
        go_wp2
        go_roundw
        case rel => exact ⟨k + 1, by omega, by go_num, HE⟩
        case measure => simp [intOf]; omega
    · have hke : (k : Int) = M ∨ M < 0 ∧ k = 0 := by omega
      go_wp2
      go_ret
      refine ⟨_, rfl, ?_, HR.out.2⟩
      rw [HP.out, HM.out.2, show M.toNat = k from by omega]
      exact HR.out.1
end
end Go.Proofs.Ytaljojjpgkmiiaa
