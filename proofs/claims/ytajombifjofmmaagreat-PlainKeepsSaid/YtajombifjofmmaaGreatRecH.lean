/- Entry of the program gives what the plain text (SpecRec) gives. Condition: the row is in memory; the key is a text. -/
import Derived.Test.YtajombifjofmmaaGreatRecL
import Derived.Test.YtajombifjofmmaaGreatRegion
namespace Go.Proofs.YtajombifjofmmaaGreat
open Go.RowKit
open Go.Lib (strCells compareBytes)

theorem entry_first {id : Int} {l : List TVal} {key : List UInt8} {n : Nat} (hl : l.length = n) {b c : Bool} (hb : b = (!isIdB id || decide (n = 0))) (hc : c = (!l.all notNull || !keyOk key)) :
    firstI [whenI b 1, whenI (decide ((2 : Int) < (n : Int))) 4, (rowErr l : Int), whenI c 1] = (entryErr id l key : Int) := by
  subst hb hc hl
  unfold entryErr
  cases hi : isIdB id with
  | false => simp [firstI, whenI]
  | true =>
    by_cases h0 : l.length = 0
    · simp [h0, firstI, whenI]
    · by_cases h2 : 2 < l.length
      · have : (2 : Int) < (l.length : Int) := by omega
        simp [h0, h2, this, firstI, whenI]
      · have : ¬ (2 : Int) < (l.length : Int) := by omega
        by_cases hr : rowErr l = 0
        · cases ha : l.all notNull <;> cases hk : keyOk key <;> simp [h0, h2, this, hr, firstI, whenI]
        · simp [h0, h2, this, hr, firstI, whenI]
def entryVal (id : Int) (l : List TVal) (key : List UInt8) : Value := textErr (entryT id l key) (entryErr id l key)
theorem entry_bad {id : Int} {l : List TVal} {key : List UInt8} (h : entryErr id l key ≠ 0) : entryT id l key = [] := by unfold entryT; rw [if_neg h]

set_option maxHeartbeats 1600000 in
set_option maxRecDepth 100000 in
theorem entry_any (id : Int) (A : Option Addr) (n c B : Nat) (l : List TVal) (key : ByteArray) (w : World) (h : HasVals w B A n l) (hn : n ≤ maxLen) (hw : B ≤ w.heap.size) (hi : ∀ u ∈ l, InI64 u.n) :
    Calls Tryz.prog 41 #[.int .i64 id, .slice A n c, .string key] w fun e w' => e = .returned (textErr (entryT id l key.data.toList) (entryErr id l key.data.toList)) ∧ Below w.heap.size w w' := by
  have H := Lib.hid h
  have Hl := Lib.hid h.1
  have Hk := Lib.hid (key_any A n c B l w h hn hw hi)
  have Hid1 := Lib.hid (fun wx => isId_any id wx)
  have Hkey := Lib.hid (fun wx => recKey_any key wx)
  have Hnull := Lib.hid (fun wx (hb : Below w.heap.size w wx) => containsNull_any A n c B l wx (H.out.belowOf hb hw) hn (Nat.le_trans hw hb.size))
  have Hf := Lib.hid (fun (b c : Bool) (hb : b = (!isIdB id || decide (n = 0))) (hc : c = (!l.all notNull || !keyOk key.data.toList)) => entry_first (id := id) (l := l) (key := key.data.toList) Hl.out hb hc)
  simp only [textErr] at Hk ⊢
  clear h hi
  obtain ⟨sx, hsx⟩ : ∃ sx : ByteArray, ⟨(keyT l).toArray⟩ = sx := ⟨_, rfl⟩
  have Hsx : Hid (sx.data.toList = keyT l) := Lib.hid (by rw [← hsx])
  rw [hsx] at Hk
  clear hsx
  have Hne : Hid (entryErr id l key.data.toList ≠ 0 → (((entryErr id l key.data.toList : Int) == 0) = false ∧ ((entryErr id l key.data.toList : Int) != 0) = true) ∧ entryT id l key.data.toList = []) := Lib.hid fun h => ⟨num_ne h, entry_bad h⟩
  cases hnl : l.all notNull with
  | false =>
    have hne : entryErr id l key.data.toList ≠ 0 := by
      unfold entryErr
      rw [hnl]
      split
      · omega
      · split
        · omega
        · split
          · assumption
          · simp
    obtain ⟨⟨hz1, hz2⟩, e2⟩ := Hne.out hne
    have E2 := Lib.hid e2
    rw [hnl] at Hnull Hf
    clear hnl hne e2
    cases hid : isIdB id with
    | false =>
      rw [hid] at Hid1 Hf
      clear hid
      have Hf1 := Lib.hid (Hf.out true true rfl rfl)
      clear Hf
      go_enter Tryz.func41, Tryz.ntmps41
      go_wp2_with fail
      refine Hk.out.mono ?_
      rintro e w1 ⟨rfl, hb1⟩
      have Hb1 := Lib.hid hb1
      clear hb1
      go_wp2_with fail
      refine (Hid1.out _).mono ?_
      rintro e w2 ⟨rfl, rfl⟩
      go_wp2_with fail
      refine (when_any _ _ _).mono ?_
      rintro e w2 ⟨rfl, rfl⟩
      go_wp2_with fail
      refine (when_any _ _ _).mono ?_
      rintro e w2 ⟨rfl, rfl⟩
      go_wp2_with fail
      refine (Hnull.out w1 Hb1.out).mono ?_
      rintro e w2 ⟨rfl, hb2⟩
      have Hb2 := Lib.hid (Hb1.out.trans (hb2.mono Hb1.out.size))
      clear hb2
      go_wp2_with fail
      refine (when_any _ _ _).mono ?_
      rintro e w3 ⟨rfl, rfl⟩
      go_wp2_with fail
      refine (first_lit _ #[.int .i64 (whenI true 1), .int .i64 (whenI (decide ((2 : Int) < (n : Int))) 4), .int .i64 (rowErr l : Int), .int .i64 (whenI true 1)] _ [whenI true 1, whenI (decide ((2 : Int) < (n : Int))) 4, (rowErr l : Int), whenI true 1] 4 4 (entryErr id l key.data.toList : Int) rfl rfl (by omega) Hf1.out).mono ?_
      rintro e w4 ⟨rfl, rfl⟩
      have Hb4 := Lib.hid (Hb2.out.alloc Hb2.out.size (.cells #[.int .i64 (whenI true 1), .int .i64 (whenI (decide ((2 : Int) < (n : Int))) 4), .int .i64 (rowErr l : Int), .int .i64 (whenI true 1)] 30))
      go_wp2
      go_ret2
      exact ⟨by rw [E2.out]; rfl, Hb4.out⟩
    | true =>
      rw [hid] at Hid1 Hf
      clear hid
      by_cases h0 : n = 0
      · subst h0
        have Hf1 := Lib.hid (Hf.out true true rfl rfl)
        clear Hf
        go_enter Tryz.func41, Tryz.ntmps41
        go_wp2_with fail
        refine Hk.out.mono ?_
        rintro e w1 ⟨rfl, hb1⟩
        have Hb1 := Lib.hid hb1
        clear hb1
        go_wp2_with fail
        refine (Hid1.out _).mono ?_
        rintro e w2 ⟨rfl, rfl⟩
        go_wp2_with fail
        refine (when_any _ _ _).mono ?_
        rintro e w2 ⟨rfl, rfl⟩
        go_wp2_with fail
        refine (when_any _ _ _).mono ?_
        rintro e w2 ⟨rfl, rfl⟩
        go_wp2_with fail
        refine (Hnull.out w1 Hb1.out).mono ?_
        rintro e w2 ⟨rfl, hb2⟩
        have Hb2 := Lib.hid (Hb1.out.trans (hb2.mono Hb1.out.size))
        clear hb2
        go_wp2_with fail
        refine (when_any _ _ _).mono ?_
        rintro e w3 ⟨rfl, rfl⟩
        go_wp2_with fail
        refine (first_lit _ #[.int .i64 (whenI true 1), .int .i64 (whenI (decide ((2 : Int) < 0)) 4), .int .i64 (rowErr l : Int), .int .i64 (whenI true 1)] _ [whenI true 1, whenI (decide ((2 : Int) < 0)) 4, (rowErr l : Int), whenI true 1] 4 4 (entryErr id l key.data.toList : Int) rfl rfl (by omega) Hf1.out).mono ?_
        rintro e w4 ⟨rfl, rfl⟩
        have Hb4 := Lib.hid (Hb2.out.alloc Hb2.out.size (.cells #[.int .i64 (whenI true 1), .int .i64 (whenI (decide ((2 : Int) < 0)) 4), .int .i64 (rowErr l : Int), .int .i64 (whenI true 1)] 30))
        go_wp2
        go_ret2
        exact ⟨by rw [E2.out]; rfl, Hb4.out⟩
      · have hb : ((n : Int) == 0) = false := by simp; omega
        have Hf1 := Lib.hid (Hf.out false true (by rw [decide_eq_false h0]; rfl) rfl)
        clear Hf
        clear h0
        go_enter Tryz.func41, Tryz.ntmps41
        go_wp2_with fail
        refine Hk.out.mono ?_
        rintro e w1 ⟨rfl, hb1⟩
        have Hb1 := Lib.hid hb1
        clear hb1
        go_wp2_with fail
        refine (Hid1.out _).mono ?_
        rintro e w2 ⟨rfl, rfl⟩
        go_wp2_with fail
        refine (when_any _ _ _).mono ?_
        rintro e w2 ⟨rfl, rfl⟩
        go_wp2_with fail
        refine (when_any _ _ _).mono ?_
        rintro e w2 ⟨rfl, rfl⟩
        go_wp2_with fail
        refine (Hnull.out w1 Hb1.out).mono ?_
        rintro e w2 ⟨rfl, hb2⟩
        have Hb2 := Lib.hid (Hb1.out.trans (hb2.mono Hb1.out.size))
        clear hb2
        go_wp2_with fail
        refine (when_any _ _ _).mono ?_
        rintro e w3 ⟨rfl, rfl⟩
        go_wp2_with fail
        refine (first_lit _ #[.int .i64 (whenI false 1), .int .i64 (whenI (decide ((2 : Int) < (n : Int))) 4), .int .i64 (rowErr l : Int), .int .i64 (whenI true 1)] _ [whenI false 1, whenI (decide ((2 : Int) < (n : Int))) 4, (rowErr l : Int), whenI true 1] 4 4 (entryErr id l key.data.toList : Int) rfl rfl (by omega) Hf1.out).mono ?_
        rintro e w4 ⟨rfl, rfl⟩
        have Hb4 := Lib.hid (Hb2.out.alloc Hb2.out.size (.cells #[.int .i64 (whenI false 1), .int .i64 (whenI (decide ((2 : Int) < (n : Int))) 4), .int .i64 (rowErr l : Int), .int .i64 (whenI true 1)] 30))
        go_wp2
        go_ret2
        exact ⟨by rw [E2.out]; rfl, Hb4.out⟩
  | true =>
    rw [hnl] at Hnull Hf
    clear hnl
    cases hid : isIdB id with
    | false =>
      have hne : entryErr id l key.data.toList ≠ 0 := by
        unfold entryErr
        rw [if_pos (.inl hid)]
        omega
      obtain ⟨⟨hz1, hz2⟩, e2⟩ := Hne.out hne
      have E2 := Lib.hid e2
      rw [hid] at Hid1 Hf
      clear hid hne e2
      have Hf1 := Lib.hid (Hf.out true (!keyOk key.data.toList) rfl rfl)
      clear Hf
      go_enter Tryz.func41, Tryz.ntmps41
      go_wp2_with fail
      refine Hk.out.mono ?_
      rintro e w1 ⟨rfl, hb1⟩
      have Hb1 := Lib.hid hb1
      clear hb1
      go_wp2_with fail
      refine (Hid1.out _).mono ?_
      rintro e w2 ⟨rfl, rfl⟩
      go_wp2_with fail
      refine (when_any _ _ _).mono ?_
      rintro e w2 ⟨rfl, rfl⟩
      go_wp2_with fail
      refine (when_any _ _ _).mono ?_
      rintro e w2 ⟨rfl, rfl⟩
      go_wp2_with fail
      refine (Hnull.out w1 Hb1.out).mono ?_
      rintro e w2 ⟨rfl, hb2⟩
      have Hb2 := Lib.hid (Hb1.out.trans (hb2.mono Hb1.out.size))
      clear hb2
      go_wp2_with fail
      refine (Hkey.out _).mono ?_
      rintro e w3 ⟨rfl, rfl⟩
      go_wp2_with fail
      refine (when_any _ _ _).mono ?_
      rintro e w3 ⟨rfl, rfl⟩
      go_wp2_with fail
      refine (first_lit _ #[.int .i64 (whenI true 1), .int .i64 (whenI (decide ((2 : Int) < (n : Int))) 4), .int .i64 (rowErr l : Int), .int .i64 (whenI (!keyOk key.data.toList) 1)] _ [whenI true 1, whenI (decide ((2 : Int) < (n : Int))) 4, (rowErr l : Int), whenI (!keyOk key.data.toList) 1] 4 4 (entryErr id l key.data.toList : Int) rfl rfl (by omega) Hf1.out).mono ?_
      rintro e w4 ⟨rfl, rfl⟩
      have Hb4 := Lib.hid (Hb2.out.alloc Hb2.out.size (.cells #[.int .i64 (whenI true 1), .int .i64 (whenI (decide ((2 : Int) < (n : Int))) 4), .int .i64 (rowErr l : Int), .int .i64 (whenI (!keyOk key.data.toList) 1)] 30))
      go_wp2
      go_ret2
      exact ⟨by rw [E2.out]; rfl, Hb4.out⟩
    | true =>
      have Hids := Lib.hid hid
      rw [hid] at Hid1 Hf
      clear hid
      by_cases h0 : n = 0
      · have hne : entryErr id l key.data.toList ≠ 0 := by
          unfold entryErr
          rw [if_pos (.inr (by rw [Hl.out, h0]))]
          omega
        obtain ⟨⟨hz1, hz2⟩, e2⟩ := Hne.out hne
        have E2 := Lib.hid e2
        clear hne e2
        subst h0
        have Hf1 := Lib.hid (Hf.out true (!keyOk key.data.toList) rfl rfl)
        clear Hf
        go_enter Tryz.func41, Tryz.ntmps41
        go_wp2_with fail
        refine Hk.out.mono ?_
        rintro e w1 ⟨rfl, hb1⟩
        have Hb1 := Lib.hid hb1
        clear hb1
        go_wp2_with fail
        refine (Hid1.out _).mono ?_
        rintro e w2 ⟨rfl, rfl⟩
        go_wp2_with fail
        refine (when_any _ _ _).mono ?_
        rintro e w2 ⟨rfl, rfl⟩
        go_wp2_with fail
        refine (when_any _ _ _).mono ?_
        rintro e w2 ⟨rfl, rfl⟩
        go_wp2_with fail
        refine (Hnull.out w1 Hb1.out).mono ?_
        rintro e w2 ⟨rfl, hb2⟩
        have Hb2 := Lib.hid (Hb1.out.trans (hb2.mono Hb1.out.size))
        clear hb2
        go_wp2_with fail
        refine (Hkey.out _).mono ?_
        rintro e w3 ⟨rfl, rfl⟩
        go_wp2_with fail
        refine (when_any _ _ _).mono ?_
        rintro e w3 ⟨rfl, rfl⟩
        go_wp2_with fail
        refine (first_lit _ #[.int .i64 (whenI true 1), .int .i64 (whenI (decide ((2 : Int) < 0)) 4), .int .i64 (rowErr l : Int), .int .i64 (whenI (!keyOk key.data.toList) 1)] _ [whenI true 1, whenI (decide ((2 : Int) < 0)) 4, (rowErr l : Int), whenI (!keyOk key.data.toList) 1] 4 4 (entryErr id l key.data.toList : Int) rfl rfl (by omega) Hf1.out).mono ?_
        rintro e w4 ⟨rfl, rfl⟩
        have Hb4 := Lib.hid (Hb2.out.alloc Hb2.out.size (.cells #[.int .i64 (whenI true 1), .int .i64 (whenI (decide ((2 : Int) < 0)) 4), .int .i64 (rowErr l : Int), .int .i64 (whenI (!keyOk key.data.toList) 1)] 30))
        go_wp2
        go_ret2
        exact ⟨by rw [E2.out]; rfl, Hb4.out⟩
      · have hb : ((n : Int) == 0) = false := by simp; omega
        have Hf1 := Lib.hid (Hf.out false (!keyOk key.data.toList) (by rw [decide_eq_false h0]; rfl) rfl)
        clear Hf
        clear h0
        by_cases hne : entryErr id l key.data.toList = 0
        · have E := Lib.hid hne
          rw [hne] at Hf1
          clear hne
          have hks : keyOk key.data.toList = true := by
            have := E.out
            unfold entryErr at this
            split at this
            · omega
            · split at this
              · omega
              · split at this
                · omega
                · split at this
                  · next h => simpa using (Bool.and_eq_true _ _ ▸ h).2
                  · omega
          have hkl : key.size ≤ 16 := by
            unfold keyOk at hks
            rw [Lib.size_eq]
            simp at hks
            exact hks.2
          have hsl : sx.size ≤ 268 := by
            have hr := (entryErr_ok E.out).2
            have h4 := rowErr_ok.1 hr
            have := keyL_len h4.2
            rw [Lib.size_eq, Hsx.out, keyT_eq hr]
            omega
          have Hres : Hid (entryT id l key.data.toList = idT id ++ sx.data.toList ++ 0 :: key.data.toList) := Lib.hid (by
            unfold entryT
            rw [if_pos E.out, Hsx.out, keyT_eq (entryErr_ok E.out).2])
          have Hit := Lib.hid (fun wx => idText_any id Hids.out wx)
          obtain ⟨ix, hix⟩ : ∃ ix : ByteArray, ⟨(idT id).toArray⟩ = ix := ⟨_, rfl⟩
          have Hix : Hid (ix.data.toList = idT id) := Lib.hid (by rw [← hix])
          have hixs : ix.size = 2 := by rw [Lib.size_eq, Hix.out]; rfl
          rw [hix] at Hit
          have hcv0 : ∀ wx : World, (convert 119 9 (.slice (some ⟨wx.heap.size, 0, none⟩) 1 1)).run Tryz.prog (wx.alloc (.cells #[.int .u8 0] 5)) = .ok (.string ⟨#[0]⟩) (wx.alloc (.cells #[.int .u8 0] 5)) := fun wx => string_run (lit_bytes wx [0] 5 #[.int .u8 0] rfl) 1
          have Hend : Hid (Ending.returned (.tuple #[.string (ix ++ sx ++ ⟨#[0]⟩ ++ key), .int .i64 0]) = .returned (.tuple #[.string ⟨(entryT id l key.data.toList).toArray⟩, .int .i64 ((0 : Nat) : Int)])) := Lib.hid (by
            have e : ix ++ sx ++ ⟨#[0]⟩ ++ key = ⟨(entryT id l key.data.toList).toArray⟩ := bytes_ext (by
              simp only [ByteArray.data_append, Array.toList_append, Hix.out, Hres.out, List.append_assoc]
              rfl)
            rw [e]
            rfl)
          clear hix hks
          go_enter Tryz.func41, Tryz.ntmps41
          go_wp2_with fail
          refine Hk.out.mono ?_
          rintro e w1 ⟨rfl, hb1⟩
          have Hb1 := Lib.hid hb1
          clear hb1
          go_wp2_with fail
          refine (Hid1.out _).mono ?_
          rintro e w2 ⟨rfl, rfl⟩
          go_wp2_with fail
          refine (when_any _ _ _).mono ?_
          rintro e w2 ⟨rfl, rfl⟩
          go_wp2_with fail
          refine (when_any _ _ _).mono ?_
          rintro e w2 ⟨rfl, rfl⟩
          go_wp2_with fail
          refine (Hnull.out w1 Hb1.out).mono ?_
          rintro e w2 ⟨rfl, hb2⟩
          have Hb2 := Lib.hid (Hb1.out.trans (hb2.mono Hb1.out.size))
          clear hb2
          go_wp2_with fail
          refine (Hkey.out _).mono ?_
          rintro e w3 ⟨rfl, rfl⟩
          go_wp2_with fail
          refine (when_any _ _ _).mono ?_
          rintro e w3 ⟨rfl, rfl⟩
          go_wp2_with fail
          refine (first_lit _ #[.int .i64 (whenI false 1), .int .i64 (whenI (decide ((2 : Int) < (n : Int))) 4), .int .i64 (rowErr l : Int), .int .i64 (whenI (!keyOk key.data.toList) 1)] _ [whenI false 1, whenI (decide ((2 : Int) < (n : Int))) 4, (rowErr l : Int), whenI (!keyOk key.data.toList) 1] 4 4 0 rfl rfl (by omega) Hf1.out).mono ?_
          rintro e w4 ⟨rfl, rfl⟩
          have Hb4 := Lib.hid (Hb2.out.alloc Hb2.out.size (.cells #[.int .i64 (whenI false 1), .int .i64 (whenI (decide ((2 : Int) < (n : Int))) 4), .int .i64 (rowErr l : Int), .int .i64 (whenI (!keyOk key.data.toList) 1)] 30))
          obtain ⟨w4, hw4⟩ : ∃ w4, w2.alloc (.cells #[.int .i64 (whenI false 1), .int .i64 (whenI (decide ((2 : Int) < (n : Int))) 4), .int .i64 (rowErr l : Int), .int .i64 (whenI (!keyOk key.data.toList) 1)] 30) = w4 := ⟨_, rfl⟩
          rw [hw4] at Hb4 ⊢
          clear hw4
          have hz4 := Hb4.out.size
          go_wp2
          refine wp_region_held_drew (S := fun _ => True) (by kernel_rfl) trivial (fun hHeld => ?_)
          refine wpAnyH_take (i := 0) (oi := ⟨some 42, _, _, _, _, _⟩) (v := .int .i64 id) rfl (by kernel_rfl) (by kernel_rfl) (by kernel_rfl) (fun _ _ _ h => h) (Or.inl ⟨by rfl, ?_⟩) (by assumption) ?_
          · intro w hSw; (try dsimp only at hSw); go_simp
          simp only [Act.put, List.setIfInBounds_toArray, List.set_cons_zero, List.set_cons_succ]
          refine wpAnyH_take (i := 2) (oi := ⟨some 44, _, _, _, _, _⟩) (v := .string sx) rfl (by kernel_rfl) (by kernel_rfl) (by kernel_rfl) (fun _ _ _ h => h) (Or.inl ⟨by rfl, ?_⟩) (by assumption) ?_
          · intro w hSw; (try dsimp only at hSw); go_simp
          simp only [Act.put, List.setIfInBounds_toArray, List.set_cons_zero, List.set_cons_succ]
          refine wpAnyH_take (i := 7) (oi := ⟨some 49, _, _, _, _, _⟩) (v := .string key) rfl (by kernel_rfl) (by kernel_rfl) (by kernel_rfl) (fun _ _ _ h => h) (Or.inl ⟨by rfl, ?_⟩) (by assumption) ?_
          · intro w hSw; (try dsimp only at hSw); go_simp
          simp only [Act.put, List.setIfInBounds_toArray, List.set_cons_zero, List.set_cons_succ]
          refine wpAnyH_ready (rs := [1, 4]) (by kernel_rfl) (by simp) (AllReadyH.cons (o := ⟨some 43, _, _, _, _, _⟩) rfl (fun K hK => ?_) (AllReadyH.cons (o := ⟨some 46, _, _, _, _, _⟩) rfl (fun K hK => ?_) AllReadyH.nil))
          · go_simp
            refine (Hit.out _).mono ?_
            rintro e w9 ⟨rfl, hb9⟩
            have Hb9 : Hid (Below w.heap.size w w9) := Lib.hid (Hb4.out.trans (((((Below.refl _ w4).drew).trans hb9)).mono hz4))
            clear hb9
            refine hK.out _ _ trivial (fun _ => ?_)
            clear hK K
            refine wpAnyH_take (i := 3) (oi := ⟨some 45, _, _, _, _, _⟩) (v := .string (ix ++ sx)) rfl (by kernel_rfl) (by kernel_rfl) (by kernel_rfl) (fun _ _ _ h => h) (Or.inl ⟨by rfl, ?_⟩) (by assumption) ?_
            · intro w hSw; (try dsimp only at hSw); (go_simp <;> omega)
            simp only [Act.put, List.setIfInBounds_toArray, List.set_cons_zero, List.set_cons_succ]
            refine wpAnyH_ready (rs := [4]) (by kernel_rfl) (by simp) (AllReadyH.cons (o := ⟨some 46, _, _, _, _, _⟩) rfl (fun K hK => ?_) AllReadyH.nil)
            go_simp
            refine hK.out _ _ trivial (fun _ => ?_)
            clear hK K
            refine held_more (S' := fun wx => (convert 119 9 (.slice (some ⟨w9.heap.size, 0, none⟩) 1 1)).run Tryz.prog wx = .ok (.string ⟨#[0]⟩) wx) (fun _ _ => trivial) _ _ _ _ ?_
            have hS9 : (fun wx => (convert 119 9 (.slice (some ⟨w9.heap.size, 0, none⟩) 1 1)).run Tryz.prog wx = .ok (.string ⟨#[0]⟩) wx) (w9.alloc (.cells #[.int .u8 0] 5)) := hcv0 w9
            refine wpAnyH_take (i := 5) (oi := ⟨some 47, _, _, _, _, _⟩) (v := .string ⟨#[0]⟩) rfl (by kernel_rfl) (by kernel_rfl) (by kernel_rfl) (fun _ _ _ h => h) (Or.inl ⟨by rfl, ?_⟩) (by assumption) ?_
            · intro w hSw; (try dsimp only at hSw); go_simp
            simp only [Act.put, List.setIfInBounds_toArray, List.set_cons_zero, List.set_cons_succ]
            refine wpAnyH_take (i := 6) (oi := ⟨some 48, _, _, _, _, _⟩) (v := .string (ix ++ sx ++ ⟨#[0]⟩)) rfl (by kernel_rfl) (by kernel_rfl) (by kernel_rfl) (fun _ _ _ h => h) (Or.inl ⟨by rfl, ?_⟩) (by assumption) ?_
            · intro w hSw; (try dsimp only at hSw); (go_simp <;> omega)
            simp only [Act.put, List.setIfInBounds_toArray, List.set_cons_zero, List.set_cons_succ]
            refine wpAnyH_take (i := 8) (oi := ⟨some 50, _, _, _, _, _⟩) (v := .string (ix ++ sx ++ ⟨#[0]⟩ ++ key)) rfl (by kernel_rfl) (by kernel_rfl) (by kernel_rfl) (fun _ _ _ h => h) (Or.inl ⟨by rfl, ?_⟩) (by assumption) ?_
            · intro w hSw; (try dsimp only at hSw); (go_simp <;> omega)
            simp only [Act.put, List.setIfInBounds_toArray, List.set_cons_zero, List.set_cons_succ]
            refine wpAnyH_take (i := 9) (oi := ⟨some 6, _, _, _, _, _⟩) (v := .string (ix ++ sx ++ ⟨#[0]⟩ ++ key)) rfl (by kernel_rfl) (by kernel_rfl) (by kernel_rfl) (fun _ _ _ h => h) (Or.inl ⟨by rfl, ?_⟩) (by assumption) ?_
            · intro w hSw; (try dsimp only at hSw); go_simp
            simp only [Act.put, List.setIfInBounds_toArray, List.set_cons_zero, List.set_cons_succ]
            refine wpAnyH_take (i := 10) (oi := ⟨some 7, _, _, _, _, _⟩) (v := .int .i64 0) rfl (by kernel_rfl) (by kernel_rfl) (by kernel_rfl) (fun _ _ _ h => h) (Or.inl ⟨by rfl, ?_⟩) (by assumption) ?_
            · intro w hSw; (try dsimp only at hSw); go_simp
            simp only [Act.put, List.setIfInBounds_toArray, List.set_cons_zero, List.set_cons_succ]
            refine wpAnyH_done (by kernel_rfl) ?_ _
            go_wp2
            go_ret2
            exact ⟨by rw [E.out]; exact Hend.out, Hb9.out.alloc Hb9.out.size _⟩
          · go_simp
            refine hK.out _ _ trivial (fun _ => ?_)
            clear hK K
            refine held_more (S' := fun wx => (convert 119 9 (.slice (some ⟨w4.heap.size, 0, none⟩) 1 1)).run Tryz.prog wx = .ok (.string ⟨#[0]⟩) wx) (fun _ _ => trivial) _ _ _ _ ?_
            have hS4 : (fun wx => (convert 119 9 (.slice (some ⟨w4.heap.size, 0, none⟩) 1 1)).run Tryz.prog wx = .ok (.string ⟨#[0]⟩) wx) (w4.drew.alloc (.cells #[.int .u8 0] 5)) := hcv0 w4.drew
            refine wpAnyH_take (i := 5) (oi := ⟨some 47, _, _, _, _, _⟩) (v := .string ⟨#[0]⟩) rfl (by kernel_rfl) (by kernel_rfl) (by kernel_rfl) (fun _ _ _ h => h) (Or.inl ⟨by rfl, ?_⟩) (by assumption) ?_
            · intro w hSw; (try dsimp only at hSw); go_simp
            simp only [Act.put, List.setIfInBounds_toArray, List.set_cons_zero, List.set_cons_succ]
            refine wpAnyH_ready (rs := [1]) (by kernel_rfl) (by simp) (AllReadyH.cons (o := ⟨some 43, _, _, _, _, _⟩) rfl (fun K hK => ?_) AllReadyH.nil)
            go_simp
            refine (Hit.out _).mono ?_
            rintro e w9 ⟨rfl, hb9⟩
            have hS9 : (fun wx => (convert 119 9 (.slice (some ⟨w4.heap.size, 0, none⟩) 1 1)).run Tryz.prog wx = .ok (.string ⟨#[0]⟩) wx) w9 := string_run (Has.below (lit_bytes w4.drew [0] 5 #[.int .u8 0] rfl) hb9) 1
            have Hb9 : Hid (Below w.heap.size w w9) := Lib.hid ((Hb4.out.drew.alloc hz4 _).trans (hb9.mono (le_alloc hz4 _)))
            clear hb9
            refine hK.out _ _ hS9 (fun _ => ?_)
            clear hK K
            refine wpAnyH_take (i := 3) (oi := ⟨some 45, _, _, _, _, _⟩) (v := .string (ix ++ sx)) rfl (by kernel_rfl) (by kernel_rfl) (by kernel_rfl) (fun _ _ _ h => h) (Or.inl ⟨by rfl, ?_⟩) (by assumption) ?_
            · intro w hSw; (try dsimp only at hSw); (go_simp <;> omega)
            simp only [Act.put, List.setIfInBounds_toArray, List.set_cons_zero, List.set_cons_succ]
            refine wpAnyH_take (i := 6) (oi := ⟨some 48, _, _, _, _, _⟩) (v := .string (ix ++ sx ++ ⟨#[0]⟩)) rfl (by kernel_rfl) (by kernel_rfl) (by kernel_rfl) (fun _ _ _ h => h) (Or.inl ⟨by rfl, ?_⟩) (by assumption) ?_
            · intro w hSw; (try dsimp only at hSw); (go_simp <;> omega)
            simp only [Act.put, List.setIfInBounds_toArray, List.set_cons_zero, List.set_cons_succ]
            refine wpAnyH_take (i := 8) (oi := ⟨some 50, _, _, _, _, _⟩) (v := .string (ix ++ sx ++ ⟨#[0]⟩ ++ key)) rfl (by kernel_rfl) (by kernel_rfl) (by kernel_rfl) (fun _ _ _ h => h) (Or.inl ⟨by rfl, ?_⟩) (by assumption) ?_
            · intro w hSw; (try dsimp only at hSw); (go_simp <;> omega)
            simp only [Act.put, List.setIfInBounds_toArray, List.set_cons_zero, List.set_cons_succ]
            refine wpAnyH_take (i := 9) (oi := ⟨some 6, _, _, _, _, _⟩) (v := .string (ix ++ sx ++ ⟨#[0]⟩ ++ key)) rfl (by kernel_rfl) (by kernel_rfl) (by kernel_rfl) (fun _ _ _ h => h) (Or.inl ⟨by rfl, ?_⟩) (by assumption) ?_
            · intro w hSw; (try dsimp only at hSw); go_simp
            simp only [Act.put, List.setIfInBounds_toArray, List.set_cons_zero, List.set_cons_succ]
            refine wpAnyH_take (i := 10) (oi := ⟨some 7, _, _, _, _, _⟩) (v := .int .i64 0) rfl (by kernel_rfl) (by kernel_rfl) (by kernel_rfl) (fun _ _ _ h => h) (Or.inl ⟨by rfl, ?_⟩) (by assumption) ?_
            · intro w hSw; (try dsimp only at hSw); go_simp
            simp only [Act.put, List.setIfInBounds_toArray, List.set_cons_zero, List.set_cons_succ]
            refine wpAnyH_done (by kernel_rfl) ?_ _
            go_wp2
            go_ret2
            exact ⟨by rw [E.out]; exact Hend.out, Hb9.out⟩
        · obtain ⟨⟨hz1, hz2⟩, e2⟩ := Hne.out hne
          have E2 := Lib.hid e2
          clear hne e2
          go_enter Tryz.func41, Tryz.ntmps41
          go_wp2_with fail
          refine Hk.out.mono ?_
          rintro e w1 ⟨rfl, hb1⟩
          have Hb1 := Lib.hid hb1
          clear hb1
          go_wp2_with fail
          refine (Hid1.out _).mono ?_
          rintro e w2 ⟨rfl, rfl⟩
          go_wp2_with fail
          refine (when_any _ _ _).mono ?_
          rintro e w2 ⟨rfl, rfl⟩
          go_wp2_with fail
          refine (when_any _ _ _).mono ?_
          rintro e w2 ⟨rfl, rfl⟩
          go_wp2_with fail
          refine (Hnull.out w1 Hb1.out).mono ?_
          rintro e w2 ⟨rfl, hb2⟩
          have Hb2 := Lib.hid (Hb1.out.trans (hb2.mono Hb1.out.size))
          clear hb2
          go_wp2_with fail
          refine (Hkey.out _).mono ?_
          rintro e w3 ⟨rfl, rfl⟩
          go_wp2_with fail
          refine (when_any _ _ _).mono ?_
          rintro e w3 ⟨rfl, rfl⟩
          go_wp2_with fail
          refine (first_lit _ #[.int .i64 (whenI false 1), .int .i64 (whenI (decide ((2 : Int) < (n : Int))) 4), .int .i64 (rowErr l : Int), .int .i64 (whenI (!keyOk key.data.toList) 1)] _ [whenI false 1, whenI (decide ((2 : Int) < (n : Int))) 4, (rowErr l : Int), whenI (!keyOk key.data.toList) 1] 4 4 (entryErr id l key.data.toList : Int) rfl rfl (by omega) Hf1.out).mono ?_
          rintro e w4 ⟨rfl, rfl⟩
          have Hb4 := Lib.hid (Hb2.out.alloc Hb2.out.size (.cells #[.int .i64 (whenI false 1), .int .i64 (whenI (decide ((2 : Int) < (n : Int))) 4), .int .i64 (rowErr l : Int), .int .i64 (whenI (!keyOk key.data.toList) 1)] 30))
          go_wp2
          go_ret2
          exact ⟨by rw [E2.out]; rfl, Hb4.out⟩

end Go.Proofs.YtajombifjofmmaaGreat
