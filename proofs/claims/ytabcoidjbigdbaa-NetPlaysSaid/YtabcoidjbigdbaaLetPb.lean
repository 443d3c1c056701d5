/- The document's Pack of a letter. Condition: rows in memory, texts that fit. -/
import Derived.Test.YtabcoidjbigdbaaLetPa
namespace Go.Proofs.Ytabcoidjbigdbaa
open Go.RowKit
open Go.Lib (strCells)

set_option maxRecDepth 100000 in
set_option maxHeartbeats 12800000 in
theorem refLetPack_any (L : Let) (Ap : Option Addr) (np cp : Nat) (Ai : Option Addr) (ni ci : Nat) (C : Nat) (w : World) (hP : HasLps w C Ap np L.ps) (hI : HasLis w C Ai ni L.is) (hC : C ≤ w.heap.size) (hn : np ≤ maxLen ∧ ni ≤ maxLen) (ht : ∀ s ∈ L.txts, s.size ≤ 140737488355328) (htp : ∀ p ∈ L.ps, p.k.size ≤ 140737488355328 ∧ p.v.size ≤ 140737488355328) (hti : ∀ p ∈ L.is, p.e.size ≤ 140737488355328) :
    Calls Try.prog 13 #[.agg #[.int .i64 L.kind, .int .i64 L.frm, .int .i64 L.to, .int .i64 L.a, .int .i64 L.b, .int .i64 L.c, .int .i64 L.d, .string L.s, .string L.t, .slice Ap np cp, .slice Ai ni ci, .int .i64 L.code, .bool L.yes, .string L.body]] w (LetPackPost L w) := by
  unfold maxLen at hn
  obtain ⟨hn1, hn2⟩ := hn
  obtain ⟨W0, hW0⟩ : ∃ W0, (w.alloc (.cells #[.int .i64 L.kind, .int .i64 L.frm, .int .i64 L.to, .int .i64 L.a, .int .i64 L.b, .int .i64 L.c, .int .i64 L.d, .string L.s, .string L.t, .slice Ap np cp, .slice Ai ni ci, .int .i64 L.code, .bool L.yes, .string L.body] 26)) = W0 := ⟨_, rfl⟩
  have b0 : Below w.heap.size w W0 := hW0 ▸ below_box _
  have x0 : Box W0 w.heap.size 26 #[.int .i64 L.kind, .int .i64 L.frm, .int .i64 L.to, .int .i64 L.a, .int .i64 L.b, .int .i64 L.c, .int .i64 L.d, .string L.s, .string L.t, .slice Ap np cp, .slice Ai ni ci, .int .i64 L.code, .bool L.yes, .string L.body] := hW0 ▸ Box.made _ _ _
  have HX : Hid (∀ wx, Below W0.heap.size W0 wx → Box wx w.heap.size 26 #[.int .i64 L.kind, .int .i64 L.frm, .int .i64 L.to, .int .i64 L.a, .int .i64 L.b, .int .i64 L.c, .int .i64 L.d, .string L.s, .string L.t, .slice Ap np cp, .slice Ai ni ci, .int .i64 L.code, .bool L.yes, .string L.body] ∧ HasLps wx C Ap np L.ps ∧ HasLis wx C Ai ni L.is ∧ Below w.heap.size w wx) := Lib.hid fun wx hx =>
    ⟨x0.below hx x0.lt, hP.belowOf (b0.trans (hx.mono b0.size)) hC, hI.belowOf (b0.trans (hx.mono b0.size)) hC, b0.trans (hx.mono b0.size)⟩
  have HC0 : Hid (C ≤ w.heap.size ∧ w.heap.size ≤ W0.heap.size) := Lib.hid ⟨hC, b0.size⟩
  have Hlp : Hid (L.ps.length = np) := Lib.hid hP.1
  have Hli : Hid (L.is.length = ni) := Lib.hid hI.1
  have Htx := Lib.hid ht
  have Htp := Lib.hid htp
  have Hti := Lib.hid hti
  have HBW := Lib.hid (And.intro x0 b0)
  unfold LetPackPost
  obtain ⟨z, hz⟩ : ∃ z, L.err = z := ⟨_, rfl⟩
  obtain ⟨Z, hZ⟩ : ∃ Z, L.packed = Z := ⟨_, rfl⟩
  rw [hz, hZ]
  have Hz := Lib.hid hz
  have HZ := Lib.hid hZ
  have HZ0 : Hid (z ≠ 0 → Z = []) := Lib.hid fun h => by rw [← hZ]; exact if_neg (by rw [hz]; exact h)
  clear hP hI hC ht htp hti hz hZ b0 x0
  by_cases hk0 : L.kind < 0
  · obtain rfl : (1 : Int) = z := by rw [← Hz.out]; exact (if_pos (fun h => by have := (h.2.1 L.kind (by simp [Let.nums])).1; omega)).symm
    obtain rfl : Z = [] := HZ0.out (by decide)
    obtain ⟨⟨x0, -, -, -, -, -, -⟩, -⟩ := let_cells HBW.out.1
    go_enter Try.func13, Try.ntmps13
    go_wp2
    go_ret2
    exact ⟨rfl, HBW.out.2⟩
  by_cases hk1 : 255 < L.kind
  · obtain rfl : (1 : Int) = z := by rw [← Hz.out]; exact (if_pos (fun h => by have := h.1; omega)).symm
    obtain rfl : Z = [] := HZ0.out (by decide)
    obtain ⟨⟨x0, -, -, -, -, -, -⟩, -⟩ := let_cells HBW.out.1
    have hk0' : 0 ≤ L.kind := by omega
    clear hk0
    go_enter Try.func13, Try.ntmps13
    go_wp2
    go_ret2
    exact ⟨rfl, HBW.out.2⟩
  have hk0' : 0 ≤ L.kind := by omega
  have hk1' : L.kind ≤ 255 := by omega
  have HKD : Hid (okNum L.kind ∧ L.kind ≤ 255) := Lib.hid ⟨⟨hk0', by omega⟩, hk1'⟩
  clear hk0 hk1
  obtain ⟨⟨x0, x1, x2, x3, x4, x5, x6⟩, ⟨x7, x8⟩, ⟨x9, x10⟩, ⟨x11, x12, x13⟩⟩ := let_cells HBW.out.1
  go_enter Try.func13, Try.ntmps13
  go_wp2_with fail
  refine (refNums_any L Ap np cp Ai ni ci W0).mono ?_
  rintro e w1 ⟨An, rfl, hnr, b1⟩
  have HB1 := Lib.hid b1
  have HNR : Hid (∀ wx, Below w1.heap.size w1 wx → NumRow wx An L.nums7) := Lib.hid fun wx hx => hnr.below hx
  have HX1 : Hid (∀ wx, Below w1.heap.size w1 wx → Below W0.heap.size W0 wx) := Lib.hid fun wx hx => b1.trans (hx.mono b1.size)
  clear x0 x1 x2 x3 x4 x5 x6 x7 x8 x9 x10 x11 x12 x13 hnr b1 hW0 HBW
  go_wp2
  go_loopw [5] (fun iv wr => ∃ k : Nat, k ≤ 7 ∧ iv = .int .i64 (k : Int) ∧ Hid (∀ x ∈ L.nums7.take k, okNum x) ∧ Hid (Below w1.heap.size w1 wr)) (fun iv _ => 7 - (intOf iv).toNat)
  case atStart => exact ⟨0, by omega, rfl, Lib.hid (by simp), Lib.hid (Below.refl _ _)⟩
  case round =>
    obtain ⟨k, hk, rfl, HT, HB⟩ := hrel
    by_cases hlt : k < 7
    · obtain ⟨a, x, rfl, hx, c0⟩ := (HNR.out wr HB.out).at_ (k := k) (by simp [Let.nums7]; omega)
      have hk0 : (0 : Int) ≤ (k : Int) := by omega
      have hk1 : (k : Int) < 7 := by omega
      have Hx := Lib.hid hx
      clear hx
      go_wp2_with fail
      refine (refNumber_any x wr).mono ?_
      rintro e w2 ⟨rfl, rfl⟩
      by_cases ho : okNum x
      · rw [decide_eq_true ho]
        have HT2 : Hid (∀ y ∈ L.nums7.take (k + 1), okNum y) := Lib.hid fun y hy => by
          rw [List.take_add_one, Hx.out] at hy
          rcases List.mem_append.1 hy with hy | hy
          · exact HT.out y hy
          · simp at hy; subst hy; exact ho
        clear ho
        go_wp2
        go_roundw
        case rel => exact ⟨k + 1, by omega, by go_num, HT2, HB⟩
        case measure => simp [intOf]; omega
      · rw [decide_eq_false ho]
        obtain rfl : (1 : Int) = z := by rw [← Hz.out]; exact (if_pos (fun h => ho (h.2.1 x (by have := List.mem_of_getElem? Hx.out; simp [Let.nums7] at this; simp [Let.nums]; rcases this with h | h | h | h | h | h | h <;> simp [h])))).symm
        obtain rfl : Z = [] := HZ0.out (by decide)
        have HE := Lib.hid (HX.out _ (HX1.out _ HB.out)).2.2.2
        clear ho
        go_wp2
        go_ret2
        exact ⟨rfl, HE.out⟩
    · have H7 : Hid (∀ x ∈ L.nums7, okNum x) := Lib.hid (by have h := HT.out; rwa [List.take_of_length_le (by simp [Let.nums7]; omega)] at h)
      have hlt' : ¬ (k : Int) < 7 := by omega
      generalize (k : Int) = k7 at *
      clear HT hlt hk
      go_wp2
      generalize wr = w3 at *
      go_loopw [6] (fun iv wr => ∃ k : Nat, k ≤ ni ∧ iv = .int .i64 (k : Int) ∧ Hid (∀ p ∈ L.is.take k, okNum p.v) ∧ Hid (Below w1.heap.size w1 wr)) (fun iv _ => ni - (intOf iv).toNat)
      case atStart => exact ⟨0, by omega, rfl, Lib.hid (by simp), HB⟩
      case round =>
        clear HB
        obtain ⟨k, hk, rfl, HT, HB⟩ := hrel
        have q10 : wr.cell? ⟨w.heap.size, 10, none⟩ = some (.slice Ai ni ci) := (HX.out wr (HX1.out wr HB.out)).1.cell 10
        by_cases hlt : k < ni
        · obtain ⟨a, p, rfl, hab, hp, -, c1, -⟩ := (HX.out wr (HX1.out wr HB.out)).2.2.1.at_ hlt
          have hk0 : (0 : Int) ≤ (k : Int) := by omega
          have hk1 : (k : Int) < (ni : Int) := by omega
          have Hp := Lib.hid hp
          clear hp hab
          go_wp2_with fail
          refine (refNumber_any p.v wr).mono ?_
          rintro e w2 ⟨rfl, rfl⟩
          by_cases ho : okNum p.v
          · rw [decide_eq_true ho]
            have HT2 : Hid (∀ y ∈ L.is.take (k + 1), okNum y.v) := Lib.hid fun y hy => by
              rw [List.take_add_one, Hp.out] at hy
              rcases List.mem_append.1 hy with hy | hy
              · exact HT.out y hy
              · simp at hy; subst hy; exact ho
            clear ho
            go_wp2
            go_roundw
            case rel => exact ⟨k + 1, by omega, by go_num, HT2, HB⟩
            case measure => simp [intOf]; omega
          · rw [decide_eq_false ho]
            obtain rfl : (1 : Int) = z := by rw [← Hz.out]; exact (if_pos (fun h => ho (h.2.2 p (List.mem_of_getElem? Hp.out)))).symm
            obtain rfl : Z = [] := HZ0.out (by decide)
            have HE := Lib.hid (HX.out _ (HX1.out _ HB.out)).2.2.2
            clear ho
            go_wp2
            go_ret2
            exact ⟨rfl, HE.out⟩
        · obtain rfl : k = ni := by omega
          have HIN : Hid L.inside := Lib.hid ⟨HKD.out.2, fun x hx => by
              have h7 := H7.out
              simp [Let.nums] at hx
              simp [Let.nums7] at h7
              rcases hx with rfl | rfl | rfl | rfl | rfl | rfl | rfl | rfl
              · exact HKD.out.1
              all_goals simp [h7], by have h := HT.out; rwa [List.take_of_length_le (by have := Hli.out; omega)] at h⟩
          clear HT hlt hk q10
          have q9 : wr.cell? ⟨w.heap.size, 9, none⟩ = some (.slice Ap np cp) := (HX.out wr (HX1.out wr HB.out)).1.cell 9
          have q10 : wr.cell? ⟨w.heap.size, 10, none⟩ = some (.slice Ai k ci) := (HX.out wr (HX1.out wr HB.out)).1.cell 10
          have hlk : ¬ (k : Int) < (k : Int) := by omega
          by_cases hp2 : 256 < np
          · have hp2' : (256 : Int) < (np : Int) := by omega
            obtain rfl : (4 : Int) = z := by rw [← Hz.out]; unfold Let.err; rw [if_neg (by simpa using HIN.out), if_pos (.inl (by have := Hlp.out; omega))]
            obtain rfl : Z = [] := HZ0.out (by decide)
            have HE := Lib.hid (HX.out _ (HX1.out _ HB.out)).2.2.2
            go_wp2
            go_ret2
            exact ⟨rfl, HE.out⟩
          by_cases hi2 : 256 < k
          · have hp2' : ¬ (256 : Int) < (np : Int) := by omega
            have hi2' : (256 : Int) < (k : Int) := by omega
            obtain rfl : (4 : Int) = z := by rw [← Hz.out]; unfold Let.err; rw [if_neg (by simpa using HIN.out), if_pos (.inr (.inl (by have := Hli.out; omega)))]
            obtain rfl : Z = [] := HZ0.out (by decide)
            have HE := Lib.hid (HX.out _ (HX1.out _ HB.out)).2.2.2
            go_wp2
            go_ret2
            exact ⟨rfl, HE.out⟩
          have hp2' : ¬ (256 : Int) < (np : Int) := by omega
          have hi2' : ¬ (256 : Int) < (k : Int) := by omega
          obtain ⟨y0, -⟩ := let_cells (HX.out wr (HX1.out wr HB.out)).1
          obtain ⟨y0, -, -, -, -, -, -⟩ := y0
          have hl9 := numForm_len9 (k := L.kind.toNat) (by omega)
          go_wp2_with fail
          refine (refPutNum_any L.kind wr (by omega)).mono ?_
          rintro e w4 ⟨v4, rfl, o4, b4⟩
          rw [if_neg (by omega)] at o4
          have HQ4 : Hid (OwnBs w4 w1.heap.size v4 (formsOf ((L.kind :: L.nums7.take 0).map LTok.n)) ∧ (formsOf ((L.kind :: L.nums7.take 0).map LTok.n)).length ≤ 9) := Lib.hid (by
            have e1 : formsOf ((L.kind :: L.nums7.take 0).map LTok.n) = numForm L.kind.toNat := by rw [List.take_zero]; show formsOf [LTok.n L.kind] = _; rw [formsOf_one, tok_num HKD.out.1]
            rw [e1]
            exact ⟨own_baseN o4 HB.out.size, hl9⟩)
          have HB4 := Lib.hid (HB.out.trans (b4.mono HB.out.size))
          clear o4 b4 y0 q9 q10 hl9 HB
          go_wp2
          go_loopw [7, 8] (fun ov iv wr => ∃ j : Nat, j ≤ 7 ∧ iv = .int .i64 (j : Int) ∧ Hid (OwnBs wr w1.heap.size ov (formsOf ((L.kind :: L.nums7.take j).map LTok.n)) ∧ (formsOf ((L.kind :: L.nums7.take j).map LTok.n)).length ≤ 9 * (j + 1)) ∧ Hid (Below w1.heap.size w1 wr)) (fun _ iv _ => 7 - (intOf iv).toNat)
          case atStart => exact ⟨0, by omega, rfl, HQ4, HB4⟩
          case round =>
            clear HQ4 HB4
            obtain ⟨j, hj, rfl, HQ, HB⟩ := hrel
            by_cases hlt : j < 7
            · obtain ⟨a, x, rfl, hx, c0⟩ := (HNR.out wr HB.out).at_ (k := j) (by simp [Let.nums7]; omega)
              have hj0 : (0 : Int) ≤ (j : Int) := by omega
              have hj1 : (j : Int) < 7 := by omega
              have HO := Lib.hid HQ.out.1
              have HL := Lib.hid HQ.out.2
              have hxo := H7.out x (List.mem_of_getElem? hx)
              have hx0 := hxo.1
              have hx1 := hxo.2
              have Hx := Lib.hid hx
              have Hxo := Lib.hid hxo
              have hl9 := numForm_len9 (k := x.toNat) (by omega)
              clear hx hxo
              go_wp2_with fail
              refine (refPutNum_any x wr (by omega)).mono ?_
              rintro e w5 ⟨v5, rfl, o5, b5⟩
              rw [if_neg (by omega)] at o5
              obtain ⟨A5, m5, rfl, -, -, x5⟩ := own_slice o5
              have Ho5 := Lib.hid (own_belowN HO.out b5)
              have Hb5 := Lib.hid (HB.out.trans (b5.mono HB.out.size))
              have hs5 : w1.heap.size ≤ w5.heap.size := Hb5.out.size
              have X5 := Lib.hid x5
              have hm5 : (numForm x.toNat).length ≤ 9 := hl9
              clear o5 b5 x5
              go_wp2_with (at_builtin; refine wpList_append_has rfl (.tmp 69) (.tmp 74) _ rfl 5 u8_elem Try.underlying69 rfl Ho5.out rfl X5.out (byteCells_one _) (by have := HL.out; simp only [maxLen]; omega) (by have := HL.out; omega) hs5 ?_; intro v6 w6 o6 g6 _; have HQ6 := Lib.hid (push_tok (T' := ((L.kind :: L.nums7.take (j + 1)).map LTok.n)) (x := LTok.n x) o6 (rfl) (tok_num Hxo.out) (by rw [List.take_add_one, Hx.out]; simp) HL.out hm5); have HB6 := Lib.hid (Hb5.out.grown g6 hs5 fun g e => (Ho5.out.lt g e).1); clear o6 g6)
              go_roundw
              case rel => exact ⟨j + 1, by omega, by go_num, Lib.hid ⟨HQ6.out.1, by have := HQ6.out.2; omega⟩, HB6⟩
              case measure => simp [intOf]; omega
            · have h7 := HQ.out
              rw [List.take_of_length_le (by simp [Let.nums7]; omega)] at h7
              have h8 : (formsOf ((L.kind :: L.nums7).map LTok.n)) = formsOf L.head := rfl
              rw [h8] at h7
              have HO := Lib.hid h7.1
              have HL : Hid ((formsOf L.head).length ≤ 72) := Lib.hid (by have := h7.2; omega)
              clear h7 h8
              have hltj : ¬ (j : Int) < 7 := by omega
              generalize (j : Int) = j7 at *
              have hlf : (numForm (one L.yes).toNat).length ≤ 1 := by rw [one_nat]; simp
              clear HQ hlt hj
              generalize wr = w7 at *
              obtain ⟨⟨x0, x1, x2, x3, x4, x5, x6⟩, ⟨x7, x8⟩, ⟨x9, x10⟩, ⟨x11, x12, x13⟩⟩ := let_cells (HX.out w7 (HX1.out w7 HB.out)).1
              go_wp2_with fail
              refine (refFlag_any L.yes w7).mono ?_
              rintro e w8 ⟨v8, rfl, o8, b8⟩
              obtain ⟨A8, m8, rfl, -, -, x8⟩ := own_slice o8
              have Ho8 := Lib.hid (own_belowN HO.out b8)
              have Hb8 := Lib.hid (HB.out.trans (b8.mono HB.out.size))
              have hs8 : w1.heap.size ≤ w8.heap.size := Hb8.out.size
              have X8 := Lib.hid x8
              have hm8 : (numForm (one L.yes).toNat).length ≤ 1 := hlf
              clear o8 b8 x8
              go_wp2_with (at_builtin; refine wpList_append_has rfl (.tmp 76) (.tmp 79) _ rfl 5 u8_elem Try.underlying69 rfl Ho8.out rfl X8.out (byteCells_one _) (by have := HL.out; simp only [maxLen]; omega) (by have := HL.out; omega) hs8 ?_; intro v9 w9 o9 g9 _; have HQ9 := Lib.hid (push_tok (T' := (L.head ++ (LTok.n (one L.yes) :: (L.txts.take 0).map LTok.t))) (x := LTok.n (one L.yes)) o9 (rfl) (by cases L.yes <;> rfl) (by simp) HL.out hm8); have HB9 := Lib.hid (Hb8.out.grown g9 hs8 fun g e => (Ho8.out.lt g e).1); clear x0 x1 x2 x3 x4 x5 x6 x7 x8 x9 x10 x11 x12 x13; obtain ⟨⟨x0, x1, x2, x3, x4, x5, x6⟩, ⟨x7, x8⟩, ⟨x9, x10⟩, ⟨x11, x12, x13⟩⟩ := let_cells (HX.out w9 (HX1.out w9 HB9.out)).1; obtain ⟨w10, hw10⟩ : ∃ w10, w9.alloc (.cells #[.string L.s, .string L.t, .string L.body] 9) = w10 := ⟨_, rfl⟩; have HBX := Lib.hid (show Box w10 w9.heap.size 9 #[.string L.s, .string L.t, .string L.body] from hw10 ▸ Box.made _ _ _); have hb10 : Below w9.heap.size w9 w10 := hw10 ▸ below_box _; have HB10 := Lib.hid (HB9.out.trans (hb10.mono HB9.out.size)); have HQ10 := Lib.hid (And.intro (own_belowN HQ9.out.1 hb10) HQ9.out.2); clear hb10; clear o9 g9)
              clear x0 x1 x2 x3 x4 x5 x6 x7 x8 x9 x10 x11 x12 x13 hlf hltj HL HO HB
              generalize w9.heap.size = g9 at *
              go_loopw [7, 10] (fun ov iv wr => ∃ j : Nat, j ≤ 3 ∧ iv = .int .i64 (j : Int) ∧ Hid (OwnBs wr w1.heap.size ov (formsOf (L.head ++ (LTok.n (one L.yes) :: (L.txts.take j).map LTok.t))) ∧ (formsOf (L.head ++ (LTok.n (one L.yes) :: (L.txts.take j).map LTok.t))).length ≤ 73 + 65545 * j) ∧ Hid (Below w1.heap.size w1 wr) ∧ Hid (Box wr g9 9 #[.string L.s, .string L.t, .string L.body])) (fun _ iv _ => 3 - (intOf iv).toNat)
              case atStart => exact ⟨0, by omega, rfl, HQ10, HB10, HBX⟩
              case round =>
                clear HQ10 HB10 HBX
                obtain ⟨j, hj, rfl, HQ, HB, HBX⟩ := hrel
                by_cases hlt : j < 3
                · obtain ⟨x, hx⟩ : ∃ x, L.txts[j]? = some x := ⟨_, List.getElem?_eq_getElem (by simp [Let.txts]; omega)⟩
                  have c0 : wr.cell? ⟨g9, j, none⟩ = some (.string x) := by
                    rw [HBX.out.cell j]
                    have h9 : j = 0 ∨ j = 1 ∨ j = 2 := by omega
                    rcases h9 with rfl | rfl | rfl <;> simp [Let.txts] at hx <;> subst hx <;> rfl
                  have hj0 : (0 : Int) ≤ (j : Int) := by omega
                  have hj1 : (j : Int) < 3 := by omega
                  have HO := Lib.hid HQ.out.1
                  have HL : Hid ((formsOf (L.head ++ (LTok.n (one L.yes) :: (L.txts.take j).map LTok.t))).length ≤ 200000) := Lib.hid (by have := HQ.out.2; omega)
                  have Hx := Lib.hid hx
                  clear hx
                  by_cases hbig : 65536 < x.size
                  · have hbig' : (65536 : Int) < (x.size : Int) := by omega
                    obtain rfl : (4 : Int) = z := by rw [← Hz.out]; exact (err_big HIN.out (by have h9 := text_le (s := x) (T := L.toks) (by have := List.mem_of_getElem? Hx.out; simp [Let.toks, this]); omega)).symm
                    obtain rfl : Z = [] := HZ0.out (by decide)
                    have HE := Lib.hid (HX.out wr (HX1.out wr HB.out)).2.2.2
                    go_wp2
                    go_ret2
                    exact ⟨rfl, HE.out⟩
                  · have hbig' : ¬ (65536 : Int) < (x.size : Int) := by omega
                    go_wp2_with fail
                    refine (refPutText_any x wr (by omega)).mono ?_
                    rintro e w11 ⟨v11, rfl, o11, b11⟩
                    obtain ⟨A11, m11, rfl, -, -, x11⟩ := own_slice o11
                    have Ho11 := Lib.hid (own_belowN HO.out b11)
                    have Hb11 := Lib.hid (HB.out.trans (b11.mono HB.out.size))
                    have hs11 : w1.heap.size ≤ w11.heap.size := Hb11.out.size
                    have X11 := Lib.hid x11
                    have hm11 : (textForm x.data.toList).length ≤ 65545 := txt_len x (by omega)
                    have HBXa := Lib.hid (HBX.out.below b11 HBX.out.lt)
                    clear o11 b11 x11
                    go_wp2_with (at_builtin; refine wpList_append_has rfl (.tmp 100) (.tmp 105) _ rfl 5 u8_elem Try.underlying69 rfl Ho11.out rfl X11.out (byteCells_one _) (by have := HL.out; simp only [maxLen]; omega) (by have := HL.out; omega) hs11 ?_; intro v12 w12 o12 g12 _; have HQ12 := Lib.hid (push_tok (T' := (L.head ++ (LTok.n (one L.yes) :: (L.txts.take (j + 1)).map LTok.t))) (x := LTok.t x) o12 (rfl) (rfl) (by rw [List.take_add_one, Hx.out]; simp) HL.out hm11); have HB12 := Lib.hid (Hb11.out.grown g12 hs11 fun g e => (Ho11.out.lt g e).1); have HBX2 := Lib.hid (HBXa.out.grown g12 (fun e => own_box_ne Ho11.out HBXa.out (by decide) _ e.symm rfl)); have HL2 : Hid ((formsOf (L.head ++ (LTok.n (one L.yes) :: (L.txts.take (j + 1)).map LTok.t))).length ≤ 73 + 65545 * (j + 1)) := Lib.hid (by have h8 := HQ.out.2; have h9 := len_tok (x := LTok.t x) (T := (L.head ++ (LTok.n (one L.yes) :: (L.txts.take j).map LTok.t))) (T' := (L.head ++ (LTok.n (one L.yes) :: (L.txts.take (j + 1)).map LTok.t))) (by rw [List.take_add_one, Hx.out]; simp) rfl hm11; exact Nat.le_trans h9 (Nat.le_trans (Nat.add_le_add_right h8 65545) (len4 j))); clear o12 g12)
                    go_roundw
                    case rel => exact ⟨j + 1, by omega, by go_num, Lib.hid ⟨HQ12.out.1, HL2.out⟩, HB12, HBX2⟩
                    case measure => simp [intOf]; omega
                · have h7 := HQ.out
                  rw [List.take_of_length_le (by simp [Let.txts]; omega)] at h7
                  have HO := Lib.hid h7.1
                  have HL : Hid ((formsOf (L.head ++ (LTok.n (one L.yes) :: L.txts.map LTok.t))).length ≤ 200000) := Lib.hid (by have := h7.2; omega)
                  have hltj : ¬ (j : Int) < 3 := by omega
                  have hlp := numForm_len9 (k := np) (by omega)
                  generalize (j : Int) = j3 at *
                  clear HQ hlt hj h7 HBX
                  generalize wr = w13 at *
                  obtain ⟨⟨x0, x1, x2, x3, x4, x5, x6⟩, ⟨x7, x8⟩, ⟨x9, x10⟩, ⟨x11, x12, x13⟩⟩ := let_cells (HX.out w13 (HX1.out w13 HB.out)).1
                  go_wp2_with fail
                  refine (refPutNum_any (np : Int) w13 (by omega)).mono ?_
                  rintro e w14 ⟨v14, rfl, o14, b14⟩
                  rw [if_neg (by omega)] at o14
                  rw [Int.toNat_natCast] at o14
                  obtain ⟨A14, m14, rfl, -, -, x14⟩ := own_slice o14
                  have Ho14 := Lib.hid (own_belowN HO.out b14)
                  have Hb14 := Lib.hid (HB.out.trans (b14.mono HB.out.size))
                  have hs14 : w1.heap.size ≤ w14.heap.size := Hb14.out.size
                  have X14 := Lib.hid x14
                  have hm14 : (numForm np).length ≤ 9 := hlp
                  clear o14 b14 x14
                  go_wp2_with (at_builtin; refine wpList_append_has rfl (.tmp 107) (.tmp 111) _ rfl 5 u8_elem Try.underlying69 rfl Ho14.out rfl X14.out (byteCells_one _) (by have := HL.out; simp only [maxLen]; omega) (by have := HL.out; omega) hs14 ?_; intro v15 w15 o15 g15 _; have HQ15 := Lib.hid (push_tok (T' := ((L.head ++ (LTok.n (one L.yes) :: L.txts.map LTok.t)) ++ (LTok.n L.ps.length :: prToks (L.ps.take 0)))) (x := LTok.n L.ps.length) o15 (rfl) (by rw [Hlp.out, tok_num ⟨by omega, by omega⟩, Int.toNat_natCast]) (by simp [prToks]) HL.out hm14); have HB15 := Lib.hid (Hb14.out.grown g15 hs14 fun g e => (Ho14.out.lt g e).1); clear o15 g15)
                  clear x0 x1 x2 x3 x4 x5 x6 x7 x8 x9 x10 x11 x12 x13 hltj hlp HL HO HB
                  have HQ15b : Hid (OwnBs w15 w1.heap.size v15 (formsOf ((L.head ++ (LTok.n (one L.yes) :: L.txts.map LTok.t)) ++ (LTok.n L.ps.length :: prToks (L.ps.take 0)))) ∧ (formsOf ((L.head ++ (LTok.n (one L.yes) :: L.txts.map LTok.t)) ++ (LTok.n L.ps.length :: prToks (L.ps.take 0)))).length ≤ 400000) := Lib.hid ⟨HQ15.out.1, by have := HQ15.out.2; omega⟩
                  clear HQ15
                  go_loopw [7, 11] (fun ov iv wr => ∃ j : Nat, j ≤ np ∧ iv = .int .i64 (j : Int) ∧ Hid (OwnBs wr w1.heap.size ov (formsOf ((L.head ++ (LTok.n (one L.yes) :: L.txts.map LTok.t)) ++ (LTok.n L.ps.length :: prToks (L.ps.take j)))) ∧ (formsOf ((L.head ++ (LTok.n (one L.yes) :: L.txts.map LTok.t)) ++ (LTok.n L.ps.length :: prToks (L.ps.take j)))).length ≤ 400000) ∧ Hid (Below w1.heap.size w1 wr)) (fun _ iv _ => np - (intOf iv).toNat)
                  case atStart => exact ⟨0, by omega, rfl, HQ15b, HB15⟩
                  case round =>
                    clear HQ15b HB15
                    obtain ⟨j, hj, rfl, HQ, HB⟩ := hrel
                    have q9 : wr.cell? ⟨w.heap.size, 9, none⟩ = some (.slice Ap np cp) := (HX.out wr (HX1.out wr HB.out)).1.cell 9
                    by_cases hlt : j < np
                    · obtain ⟨a, p, rfl, hab, hp, d0, d1⟩ := (HX.out wr (HX1.out wr HB.out)).2.1.at_ hlt
                      have hj0 : (0 : Int) ≤ (j : Int) := by omega
                      have hj1 : (j : Int) < (np : Int) := by omega
                      obtain ⟨NX, hNX⟩ : ∃ NX, (formsOf ((L.head ++ (LTok.n (one L.yes) :: L.txts.map LTok.t)) ++ (LTok.n L.ps.length :: prToks (L.ps.take j)))).length = NX := ⟨_, rfl⟩
                      have hq := HQ.out
                      unfold OwnBs at hq
                      rw [hNX] at hq
                      obtain ⟨Ao, co, rfl, -, -, -⟩ := own_slice hq.1
                      have HO := Lib.hid hq.1
                      have HNX := Lib.hid hNX
                      have hN4 := hq.2
                      have Hp := Lib.hid hp
                      clear hq hNX hp hab HQ
                      by_cases hX : 65536 < NX
                      · have hX' : (65536 : Int) < (NX : Int) := by omega
                        obtain rfl : (4 : Int) = z := by rw [← Hz.out]; exact (err_big HIN.out (by have h9 := forms_le (T := ((L.head ++ (LTok.n (one L.yes) :: L.txts.map LTok.t)) ++ (LTok.n L.ps.length :: prToks (L.ps.take j)))) (R := prToks (L.ps.drop j) ++ (LTok.n L.is.length :: itToks L.is)) (A := L.toks) (by have e1 : prToks (L.ps.take j) ++ prToks (L.ps.drop j) = prToks L.ps := (by rw [← prToks_app, List.take_append_drop]); simp only [Let.toks, ← e1, List.append_assoc, List.cons_append]); rw [HNX.out] at h9; omega)).symm
                        obtain rfl : Z = [] := HZ0.out (by decide)
                        have HE := Lib.hid (HX.out wr (HX1.out wr HB.out)).2.2.2
                        go_wp2
                        go_ret2
                        exact ⟨rfl, HE.out⟩
                      have hX' : ¬ (65536 : Int) < (NX : Int) := by omega
                      by_cases hk2 : 65536 < p.k.size
                      · have hk2' : (65536 : Int) < (p.k.size : Int) := by omega
                        obtain rfl : (4 : Int) = z := by rw [← Hz.out]; exact (err_big HIN.out (by have h9 := text_le (s := p.k) (T := L.toks) (by have h8 := (pr_mem (List.mem_of_getElem? Hp.out)).1; simp [Let.toks, h8]); omega)).symm
                        obtain rfl : Z = [] := HZ0.out (by decide)
                        have HE := Lib.hid (HX.out wr (HX1.out wr HB.out)).2.2.2
                        go_wp2
                        go_ret2
                        exact ⟨rfl, HE.out⟩
                      have hk2' : ¬ (65536 : Int) < (p.k.size : Int) := by omega
                      by_cases hv2 : 65536 < p.v.size
                      · have hv2' : (65536 : Int) < (p.v.size : Int) := by omega
                        obtain rfl : (4 : Int) = z := by rw [← Hz.out]; exact (err_big HIN.out (by have h9 := text_le (s := p.v) (T := L.toks) (by have h8 := (pr_mem (List.mem_of_getElem? Hp.out)).2; simp [Let.toks, h8]); omega)).symm
                        obtain rfl : Z = [] := HZ0.out (by decide)
                        have HE := Lib.hid (HX.out wr (HX1.out wr HB.out)).2.2.2
                        go_wp2
                        go_ret2
                        exact ⟨rfl, HE.out⟩
                      have hv2' : ¬ (65536 : Int) < (p.v.size : Int) := by omega
                      have HL : Hid ((formsOf ((L.head ++ (LTok.n (one L.yes) :: L.txts.map LTok.t)) ++ (LTok.n L.ps.length :: prToks (L.ps.take j)))).length ≤ 65536 ∧ NX ≤ 65536) := Lib.hid ⟨by rw [HNX.out]; omega, by omega⟩
                      go_wp2_with fail
                      refine (refPutText_any p.k wr (by omega)).mono ?_
                      rintro e w17 ⟨v17, rfl, o17, b17⟩
                      obtain ⟨A17, m17, rfl, -, -, x17⟩ := own_slice o17
                      have Ho17 := Lib.hid (own_belowN HO.out b17)
                      have Hb17 := Lib.hid (HB.out.trans (b17.mono HB.out.size))
                      have hs17 : w1.heap.size ≤ w17.heap.size := Hb17.out.size
                      have X17 := Lib.hid x17
                      have hm17 : (textForm p.k.data.toList).length ≤ 65545 := txt_len p.k (by omega)
                      clear o17 b17 x17
                      go_wp2_with (at_builtin; refine wpList_append_has rfl (.tmp 143) (.tmp 150) _ rfl 5 u8_elem Try.underlying69 rfl Ho17.out rfl X17.out (byteCells_one _) (by have := HL.out; simp only [maxLen]; omega) (by have := HL.out; omega) hs17 ?_; intro v18 w18 o18 g18 _; have HQ18 := Lib.hid (push_tok (T' := (((L.head ++ (LTok.n (one L.yes) :: L.txts.map LTok.t)) ++ (LTok.n L.ps.length :: prToks (L.ps.take j))) ++ [LTok.t p.k])) (x := LTok.t p.k) o18 (HNX.out) (rfl) (rfl) HL.out.1 hm17); have HB18 := Lib.hid (Hb17.out.grown g18 hs17 fun g e => (Ho17.out.lt g e).1); have HO18 := Lib.hid HQ18.out.1; have HL18 := Lib.hid HQ18.out.2; clear q9 d0 d1; have q9 : w18.cell? ⟨w.heap.size, 9, none⟩ = some (.slice (some a) np cp) := (HX.out w18 (HX1.out w18 HB18.out)).1.cell 9; have d1 := (lps_cells (HX.out w18 (HX1.out w18 HB18.out)).2.1 hlt Hp.out).2; clear o18 g18)
                      go_wp2_with fail
                      refine (refPutText_any p.v w18 (by omega)).mono ?_
                      rintro e w19 ⟨v19, rfl, o19, b19⟩
                      obtain ⟨A19, m19, rfl, -, -, x19⟩ := own_slice o19
                      have Ho19 := Lib.hid (own_belowN HO18.out b19)
                      have Hb19 := Lib.hid (HB18.out.trans (b19.mono HB18.out.size))
                      have hs19 : w1.heap.size ≤ w19.heap.size := Hb19.out.size
                      have X19 := Lib.hid x19
                      have hm19 : (textForm p.v.data.toList).length ≤ 65545 := txt_len p.v (by omega)
                      clear o19 b19 x19
                      go_wp2_with (at_builtin; refine wpList_append_has rfl (.tmp 152) (.tmp 159) _ rfl 5 u8_elem Try.underlying69 rfl Ho19.out rfl X19.out (byteCells_one _) (by have := HL18.out; simp only [maxLen]; omega) (by have := HL18.out; omega) hs19 ?_; intro v20 w20 o20 g20 _; have HQ20 := Lib.hid (push_tok (T' := ((L.head ++ (LTok.n (one L.yes) :: L.txts.map LTok.t)) ++ (LTok.n L.ps.length :: prToks (L.ps.take (j + 1))))) (x := LTok.t p.v) o20 (rfl) (rfl) (by rw [prToks_succ Hp.out]; simp) HL18.out hm19); have HB20 := Lib.hid (Hb19.out.grown g20 hs19 fun g e => (Ho19.out.lt g e).1); clear o20 g20)
                      go_roundw
                      case rel => exact ⟨j + 1, by omega, by go_num, Lib.hid ⟨HQ20.out.1, by have := HQ20.out.2; omega⟩, HB20⟩
                      case measure => simp [intOf]; omega
                    · have h7 := HQ.out
                      rw [List.take_of_length_le (by have := Hlp.out; omega)] at h7
                      have HO := Lib.hid h7.1
                      have HL : Hid ((formsOf ((L.head ++ (LTok.n (one L.yes) :: L.txts.map LTok.t)) ++ (LTok.n L.ps.length :: prToks L.ps))).length ≤ 400000) := Lib.hid h7.2
                      have hltj : ¬ (j : Int) < (np : Int) := by omega
                      have hli := numForm_len9 (k := k) (by omega)
                      generalize (j : Int) = j4 at *
                      clear HQ hlt hj h7
                      generalize wr = w21 at *
                      have q10 : w21.cell? ⟨w.heap.size, 10, none⟩ = some (.slice Ai k ci) := (HX.out w21 (HX1.out w21 HB.out)).1.cell 10
                      go_wp2_with fail
                      refine (refPutNum_any (k : Int) w21 (by omega)).mono ?_
                      rintro e w22 ⟨v22, rfl, o22, b22⟩
                      rw [if_neg (by omega)] at o22
                      rw [Int.toNat_natCast] at o22
                      obtain ⟨A22, m22, rfl, -, -, x22⟩ := own_slice o22
                      have Ho22 := Lib.hid (own_belowN HO.out b22)
                      have Hb22 := Lib.hid (HB.out.trans (b22.mono HB.out.size))
                      have hs22 : w1.heap.size ≤ w22.heap.size := Hb22.out.size
                      have X22 := Lib.hid x22
                      have hm22 : (numForm k).length ≤ 9 := hli
                      clear o22 b22 x22
                      go_wp2_with (at_builtin; refine wpList_append_has rfl (.tmp 161) (.tmp 165) _ rfl 5 u8_elem Try.underlying69 rfl Ho22.out rfl X22.out (byteCells_one _) (by have := HL.out; simp only [maxLen]; omega) (by have := HL.out; omega) hs22 ?_; intro v23 w23 o23 g23 _; have HQ23 := Lib.hid (push_tok (T' := (((L.head ++ (LTok.n (one L.yes) :: L.txts.map LTok.t)) ++ (LTok.n L.ps.length :: prToks L.ps)) ++ (LTok.n L.is.length :: itToks (L.is.take 0)))) (x := LTok.n L.is.length) o23 (rfl) (by rw [Hli.out, tok_num ⟨by omega, by omega⟩, Int.toNat_natCast]) (by simp [itToks]) HL.out hm22); have HB23 := Lib.hid (Hb22.out.grown g23 hs22 fun g e => (Ho22.out.lt g e).1); clear o23 g23)
                      clear q9 q10 hltj hli HL HO HB
                      have HQ23b : Hid (OwnBs w23 w1.heap.size v23 (formsOf (((L.head ++ (LTok.n (one L.yes) :: L.txts.map LTok.t)) ++ (LTok.n L.ps.length :: prToks L.ps)) ++ (LTok.n L.is.length :: itToks (L.is.take 0)))) ∧ (formsOf (((L.head ++ (LTok.n (one L.yes) :: L.txts.map LTok.t)) ++ (LTok.n L.ps.length :: prToks L.ps)) ++ (LTok.n L.is.length :: itToks (L.is.take 0)))).length ≤ 500000) := Lib.hid ⟨HQ23.out.1, by have := HQ23.out.2; omega⟩
                      clear HQ23
                      go_loopw [7, 12] (fun ov iv wr => ∃ j : Nat, j ≤ k ∧ iv = .int .i64 (j : Int) ∧ Hid (OwnBs wr w1.heap.size ov (formsOf (((L.head ++ (LTok.n (one L.yes) :: L.txts.map LTok.t)) ++ (LTok.n L.ps.length :: prToks L.ps)) ++ (LTok.n L.is.length :: itToks (L.is.take j)))) ∧ (formsOf (((L.head ++ (LTok.n (one L.yes) :: L.txts.map LTok.t)) ++ (LTok.n L.ps.length :: prToks L.ps)) ++ (LTok.n L.is.length :: itToks (L.is.take j)))).length ≤ 500000) ∧ Hid (Below w1.heap.size w1 wr)) (fun _ iv _ => k - (intOf iv).toNat)
                      case atStart => exact ⟨0, by omega, rfl, HQ23b, HB23⟩
                      case round =>
                        clear HQ23b HB23
                        obtain ⟨j, hj, rfl, HQ, HB⟩ := hrel
                        have q10 : wr.cell? ⟨w.heap.size, 10, none⟩ = some (.slice Ai k ci) := (HX.out wr (HX1.out wr HB.out)).1.cell 10
                        by_cases hlt : j < k
                        · obtain ⟨a, p, rfl, hab, hp, d0, d1, d2⟩ := (HX.out wr (HX1.out wr HB.out)).2.2.1.at_ hlt
                          have hj0 : (0 : Int) ≤ (j : Int) := by omega
                          have hj1 : (j : Int) < (k : Int) := by omega
                          obtain ⟨NX, hNX⟩ : ∃ NX, (formsOf (((L.head ++ (LTok.n (one L.yes) :: L.txts.map LTok.t)) ++ (LTok.n L.ps.length :: prToks L.ps)) ++ (LTok.n L.is.length :: itToks (L.is.take j)))).length = NX := ⟨_, rfl⟩
                          have hq := HQ.out
                          unfold OwnBs at hq
                          rw [hNX] at hq
                          obtain ⟨Ao, co, rfl, -, -, -⟩ := own_slice hq.1
                          have HO := Lib.hid hq.1
                          have HNX := Lib.hid hNX
                          have hN4 := hq.2
                          have Hp := Lib.hid hp
                          have hvo := HIN.out.2.2 p (List.mem_of_getElem? hp)
                          have hv0 := hvo.1
                          have hv1 := hvo.2
                          have Hvo := Lib.hid hvo
                          have hl9 := numForm_len9 (k := p.v.toNat) (by omega)
                          have hlf : (numForm (one p.g).toNat).length ≤ 1 := by rw [one_nat]; simp
                          clear hq hNX hp hab HQ hvo
                          by_cases hX : 65536 < NX
                          · have hX' : (65536 : Int) < (NX : Int) := by omega
                            obtain rfl : (4 : Int) = z := by rw [← Hz.out]; exact (err_big HIN.out (by have h9 := forms_le (T := (((L.head ++ (LTok.n (one L.yes) :: L.txts.map LTok.t)) ++ (LTok.n L.ps.length :: prToks L.ps)) ++ (LTok.n L.is.length :: itToks (L.is.take j)))) (R := itToks (L.is.drop j)) (A := L.toks) (by have e1 : itToks (L.is.take j) ++ itToks (L.is.drop j) = itToks L.is := (by rw [← itToks_app, List.take_append_drop]); simp only [Let.toks, ← e1, List.append_assoc, List.cons_append]); rw [HNX.out] at h9; omega)).symm
                            obtain rfl : Z = [] := HZ0.out (by decide)
                            have HE := Lib.hid (HX.out wr (HX1.out wr HB.out)).2.2.2
                            go_wp2
                            go_ret2
                            exact ⟨rfl, HE.out⟩
                          have hX' : ¬ (65536 : Int) < (NX : Int) := by omega
                          by_cases hk2 : 65536 < p.e.size
                          · have hk2' : (65536 : Int) < (p.e.size : Int) := by omega
                            obtain rfl : (4 : Int) = z := by rw [← Hz.out]; exact (err_big HIN.out (by have h9 := text_le (s := p.e) (T := L.toks) (by have h8 := it_mem (List.mem_of_getElem? Hp.out); simp [Let.toks, h8]); omega)).symm
                            obtain rfl : Z = [] := HZ0.out (by decide)
                            have HE := Lib.hid (HX.out wr (HX1.out wr HB.out)).2.2.2
                            go_wp2
                            go_ret2
                            exact ⟨rfl, HE.out⟩
                          have hk2' : ¬ (65536 : Int) < (p.e.size : Int) := by omega
                          have HL : Hid ((formsOf (((L.head ++ (LTok.n (one L.yes) :: L.txts.map LTok.t)) ++ (LTok.n L.ps.length :: prToks L.ps)) ++ (LTok.n L.is.length :: itToks (L.is.take j)))).length ≤ 65536 ∧ NX ≤ 65536) := Lib.hid ⟨by rw [HNX.out]; omega, by omega⟩
                          go_wp2_with fail
                          refine (refPutText_any p.e wr (by omega)).mono ?_
                          rintro e w25 ⟨v25, rfl, o25, b25⟩
                          obtain ⟨A25, m25, rfl, -, -, x25⟩ := own_slice o25
                          have Ho25 := Lib.hid (own_belowN HO.out b25)
                          have Hb25 := Lib.hid (HB.out.trans (b25.mono HB.out.size))
                          have hs25 : w1.heap.size ≤ w25.heap.size := Hb25.out.size
                          have X25 := Lib.hid x25
                          have hm25 : (textForm p.e.data.toList).length ≤ 65545 := txt_len p.e (by omega)
                          clear o25 b25 x25
                          go_wp2_with (at_builtin; refine wpList_append_has rfl (.tmp 187) (.tmp 194) _ rfl 5 u8_elem Try.underlying69 rfl Ho25.out rfl X25.out (byteCells_one _) (by have := HL.out; simp only [maxLen]; omega) (by have := HL.out; omega) hs25 ?_; intro v26 w26 o26 g26 _; have HQ26 := Lib.hid (push_tok (T' := ((((L.head ++ (LTok.n (one L.yes) :: L.txts.map LTok.t)) ++ (LTok.n L.ps.length :: prToks L.ps)) ++ (LTok.n L.is.length :: itToks (L.is.take j))) ++ [LTok.t p.e])) (x := LTok.t p.e) o26 (HNX.out) (rfl) (rfl) HL.out.1 hm25); have HB26 := Lib.hid (Hb25.out.grown g26 hs25 fun g e => (Ho25.out.lt g e).1); have HO26 := Lib.hid HQ26.out.1; have HL26 := Lib.hid HQ26.out.2; clear q10 d0 d1 d2; have q10 : w26.cell? ⟨w.heap.size, 10, none⟩ = some (.slice (some a) k ci) := (HX.out w26 (HX1.out w26 HB26.out)).1.cell 10; have d1 := (lis_cells (HX.out w26 (HX1.out w26 HB26.out)).2.2.1 hlt Hp.out).2.1; clear o26 g26)
                          go_wp2_with fail
                          refine (refPutNum_any p.v w26 (by omega)).mono ?_
                          rintro e w27 ⟨v27, rfl, o27, b27⟩
                          rw [if_neg (by omega)] at o27
                          obtain ⟨A27, m27, rfl, -, -, x27⟩ := own_slice o27
                          have Ho27 := Lib.hid (own_belowN HO26.out b27)
                          have Hb27 := Lib.hid (HB26.out.trans (b27.mono HB26.out.size))
                          have hs27 : w1.heap.size ≤ w27.heap.size := Hb27.out.size
                          have X27 := Lib.hid x27
                          have hm27 : (numForm p.v.toNat).length ≤ 9 := hl9
                          clear o27 b27 x27
                          go_wp2_with (at_builtin; refine wpList_append_has rfl (.tmp 196) (.tmp 203) _ rfl 5 u8_elem Try.underlying69 rfl Ho27.out rfl X27.out (byteCells_one _) (by have := HL26.out; simp only [maxLen]; omega) (by have := HL26.out; omega) hs27 ?_; intro v28 w28 o28 g28 _; have HQ28 := Lib.hid (push_tok (T' := ((((L.head ++ (LTok.n (one L.yes) :: L.txts.map LTok.t)) ++ (LTok.n L.ps.length :: prToks L.ps)) ++ (LTok.n L.is.length :: itToks (L.is.take j))) ++ [LTok.t p.e] ++ [LTok.n p.v])) (x := LTok.n p.v) o28 (rfl) (tok_num Hvo.out) (rfl) HL26.out hm27); have HB28 := Lib.hid (Hb27.out.grown g28 hs27 fun g e => (Ho27.out.lt g e).1); have HO28 := Lib.hid HQ28.out.1; have HL28 := Lib.hid HQ28.out.2; clear q10 d1; have q10 : w28.cell? ⟨w.heap.size, 10, none⟩ = some (.slice (some a) k ci) := (HX.out w28 (HX1.out w28 HB28.out)).1.cell 10; have d2 := (lis_cells (HX.out w28 (HX1.out w28 HB28.out)).2.2.1 hlt Hp.out).2.2; clear o28 g28)
                          go_wp2_with fail
                          refine (refFlag_any p.g w28).mono ?_
                          rintro e w29 ⟨v29, rfl, o29, b29⟩
                          obtain ⟨A29, m29, rfl, -, -, x29⟩ := own_slice o29
                          have Ho29 := Lib.hid (own_belowN HO28.out b29)
                          have Hb29 := Lib.hid (HB28.out.trans (b29.mono HB28.out.size))
                          have hs29 : w1.heap.size ≤ w29.heap.size := Hb29.out.size
                          have X29 := Lib.hid x29
                          have hm29 : (numForm (one p.g).toNat).length ≤ 1 := hlf
                          clear o29 b29 x29
                          go_wp2_with (at_builtin; refine wpList_append_has rfl (.tmp 205) (.tmp 212) _ rfl 5 u8_elem Try.underlying69 rfl Ho29.out rfl X29.out (byteCells_one _) (by have := HL28.out; simp only [maxLen]; omega) (by have := HL28.out; omega) hs29 ?_; intro v30 w30 o30 g30 _; have HQ30 := Lib.hid (push_tok (T' := (((L.head ++ (LTok.n (one L.yes) :: L.txts.map LTok.t)) ++ (LTok.n L.ps.length :: prToks L.ps)) ++ (LTok.n L.is.length :: itToks (L.is.take (j + 1))))) (x := LTok.n (one p.g)) o30 (rfl) (by cases p.g <;> rfl) (by rw [itToks_succ Hp.out]; simp) HL28.out hm29); have HB30 := Lib.hid (Hb29.out.grown g30 hs29 fun g e => (Ho29.out.lt g e).1); clear o30 g30)
                          go_roundw
                          case rel => exact ⟨j + 1, by omega, by go_num, Lib.hid ⟨HQ30.out.1, by have := HQ30.out.2; omega⟩, HB30⟩
                          case measure => simp [intOf]; omega
                        · have h7 := HQ.out
                          rw [List.take_of_length_le (by have := Hli.out; omega)] at h7
                          have h8 : ((L.head ++ (LTok.n (one L.yes) :: L.txts.map LTok.t)) ++ (LTok.n L.ps.length :: prToks L.ps)) ++ (LTok.n L.is.length :: itToks L.is) = L.toks := rfl
                          rw [h8] at h7
                          have hltj : ¬ (j : Int) < (k : Int) := by omega
                          obtain ⟨X, hX⟩ : ∃ X, formsOf L.toks = X := ⟨_, rfl⟩
                          rw [hX] at h7
                          obtain ⟨NX, hNX⟩ : ∃ NX, X.length = NX := ⟨_, rfl⟩
                          have ho := h7.1
                          unfold OwnBs at ho
                          rw [hNX] at ho
                          obtain ⟨Ao, co, rfl, -, -, hh⟩ := own_slice ho
                          have hcv : (convert 69 9 (.slice Ao NX co)).run Try.prog wr = .ok (.string ⟨X.toArray⟩) wr := string_run (w := wr) (l := X) hh co
                          have HXX := Lib.hid (And.intro hX hNX)
                          have HE := Lib.hid (HX.out wr (HX1.out wr HB.out)).2.2.2
                          clear h7 h8 hX hNX ho hh HQ
                          by_cases hbig : 65536 < NX
                          · have hbig' : (65536 : Int) < (NX : Int) := by omega
                            obtain rfl : (4 : Int) = z := by rw [← Hz.out]; exact (err_big HIN.out (by rw [HXX.out.1, HXX.out.2]; exact hbig)).symm
                            obtain rfl : Z = [] := HZ0.out (by decide)
                            go_wp2
                            go_ret2
                            exact ⟨rfl, HE.out⟩
                          · have hbig' : ¬ (65536 : Int) < (NX : Int) := by omega
                            have h0 : L.err = 0 := err_zero.2 ⟨HIN.out, by have := Hlp.out; omega, by have := Hli.out; omega, by rw [HXX.out.1, HXX.out.2]; omega⟩
                            obtain rfl : (0 : Int) = z := by rw [← Hz.out]; exact h0.symm
                            obtain rfl : X = Z := by rw [← HZ.out]; unfold Let.packed; rw [if_pos h0]; exact HXX.out.1.symm
                            clear h0
                            go_wp2
                            go_ret2
                            exact ⟨rfl, HE.out⟩
end Go.Proofs.Ytabcoidjbigdbaa
