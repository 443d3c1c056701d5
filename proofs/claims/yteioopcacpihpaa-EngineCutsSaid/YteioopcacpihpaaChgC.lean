/- Light, and Right of the program and of the document, give what the plain text (SpecRun) gives. Condition: rows in memory. -/
import Derived.Test.YteioopcacpihpaaChgB
namespace Go.Proofs.Yteioopcacpihpaa
open Go.RowKit
open Go.Lib (strCells compareBytes)

def msz (c : Chg) : Nat := min c.k.size 4001 + min c.v.size 4001
def tot (l : List Chg) : Nat := (l.map msz).sum
theorem tot_take {l : List Chg} {k : Nat} {c : Chg} (h : l[k]? = some c) : tot (l.take (k + 1)) = tot (l.take k) + min c.k.size 4001 + min c.v.size 4001 := by
  rw [List.take_add_one, h]
  simp [tot, msz, Nat.add_assoc]
/-- few changes, and short ones -/
def LightC (most : Nat) (l : List Chg) : Prop := l.length ≤ most ∧ tot l ≤ 4000
theorem LightC.mem {most : Nat} {l : List Chg} (h : LightC most l) {c : Chg} (hc : c ∈ l) : c.k.size + c.v.size ≤ 4000 := by
  have h2 := h.2
  clear h
  induction l with
  | nil => simp at hc
  | cons y l ih =>
    simp only [tot, List.map_cons, List.sum_cons, msz] at h2 ih
    rcases List.mem_cons.1 hc with rfl | hc
    · omega
    · exact ih hc (by omega)
def LightPost (l : List Chg) (most : Nat) (w : World) (e : Ending) (w' : World) : Prop := ∃ b : Bool, e = .returned (.bool b) ∧ (b = true → LightC most l) ∧ ∃ q, w' = w.drewN q

theorem light_any (A : Option Addr) (n c B most : Nat) (l : List Chg) (w : World) (h : HasChs w B A n l) (hn : n ≤ maxLen) (hm : most ≤ 2000) (hs : ∀ v ∈ l, v.k.size ≤ maxLen ∧ v.v.size ≤ maxLen) :
    Calls Try.prog 11 #[.slice A n c, .int .i64 (most : Int)] w (LightPost l most w) := by
  unfold maxLen at hn hs
  have Hs := Lib.hid hs
  have H := Lib.hid h
  clear hs h
  have Hl := Lib.hid H.out.1
  by_cases h1 : most < n
  · go_enter Try.func11, Try.ntmps11
    go_wp2
    go_ret
    exact ⟨false, rfl, by simp, 0, rfl⟩
  · go_enter Try.func11, Try.ntmps11
    go_wp2
    go_loopw [5, 6] (fun t i wr => ∃ (k s : Nat), k ≤ n ∧ s ≤ 15000 ∧ i = .int .i64 (k : Int) ∧ t = .int .i64 (s : Int) ∧ Hid (s = tot (l.take k)) ∧ ∃ q, wr = w.drewN q) (fun _ i _ => n - (intOf i).toNat)
    case atStart => exact ⟨0, 0, by omega, by omega, rfl, rfl, Lib.hid (by simp [tot]), 0, rfl⟩
    case round =>
      obtain ⟨k, s, hk, hs15, rfl, rfl, Ht, q, rfl⟩ := hrel
      by_cases hlt : k < n
      · by_cases h4 : s ≤ 4000
        · obtain ⟨a, v, rfl, _, hv, c0, c1, c2⟩ := H.out.at_ hlt
          have hvs := Hs.out v (List.mem_of_getElem? hv)
          have Ht1 : Hid (tot (l.take (k + 1)) = s + min v.k.size 4001 + min v.v.size 4001) := Lib.hid (by rw [tot_take hv, Ht.out])
          obtain ⟨x, hx⟩ : ∃ x, min v.k.size 4001 = x := ⟨_, rfl⟩
          obtain ⟨y, hy⟩ : ∃ y, min v.v.size 4001 = y := ⟨_, rfl⟩
          have hxs : (if (4001 : Int) < (v.k.size : Int) then 4001 else (v.k.size : Int)) = (x : Int) := by split <;> omega
          have hys : (if (4001 : Int) < (v.v.size : Int) then 4001 else (v.v.size : Int)) = (y : Int) := by split <;> omega
          have hx4 : x ≤ 4001 := by omega
          have hy4 : y ≤ 4001 := by omega
          rw [hx, hy] at Ht1
          have hk0 : (0 : Int) ≤ (k : Int) := by omega
          have hk1 : (k : Int) < (n : Int) := by omega
          clear hv hx hy c2
          go_wp2
          go_region
          all_goals
            go_wp2
            go_roundw
            case rel => exact ⟨k + 1, s + x + y, by omega, by omega, by go_num, by go_num, Lib.hid Ht1.out.symm, _, rfl⟩
            case measure => simp [intOf]; omega
        · have h5 : ¬ (s : Int) ≤ 4000 := by omega
          go_wp2
          go_ret
          exact ⟨_, rfl, by simp, q, rfl⟩
      · obtain rfl : k = n := by omega
        have E : Hid (s = tot l) := Lib.hid (by have := Ht.out; rwa [List.take_of_length_le (by have := Hl.out; omega)] at this)
        go_wp2
        go_ret
        refine ⟨_, rfl, fun h => ?_, q, rfl⟩
        have := Hl.out
        have := E.out
        simp at h
        exact ⟨by omega, by omega⟩

/-! ### Right -/
theorem empty_no {s : ByteArray} (h : s ≠ ⟨#[]⟩) : s.toList.isEmpty = false := by
  rw [ByteArray.toList_eq]
  cases hs : s.data.toList with
  | nil => exact absurd (bytes_ext hs) h
  | cons x l => rfl
theorem right_any (A : Option Addr) (n c B : Nat) (l : List Chg) (w : World) (h : HasChs w B A n l) (hn : n ≤ maxLen) (hB : B ≤ w.heap.size) :
    Calls Try.prog 15 #[.slice A n c] w fun e w' => e = .returned (.bool (runB l)) ∧ Below w.heap.size w w' := by
  unfold maxLen at hn
  have H := Lib.hid h
  have HB := Lib.hid hB
  clear h hB
  have Hl := Lib.hid H.out.1
  go_enter Try.func15, Try.ntmps15
  go_wp2
  go_loopw [3, 4, 7] (fun _ _ i wr => ∃ k : Nat, k ≤ n ∧ i = .int .i64 (k : Int) ∧ Hid (Run (l.take k)) ∧ Below w.heap.size w wr) (fun _ _ i _ => n - (intOf i).toNat)
  case atStart => exact ⟨0, by omega, rfl, Lib.hid (by simpa using Run.nil), Below.refl _ _⟩
  case round =>
    obtain ⟨k, hk, rfl, Hr, hb⟩ := hrel
    by_cases hlt : k < n
    · obtain ⟨a, v, rfl, _, hv, c0, c1, c2⟩ := (H.out.belowOf hb HB.out).at_ hlt
      have Hs := Lib.hid (run_succ hv)
      have Hb := Lib.hid hb
      have hsz := hb.size
      clear hb
      obtain ⟨vk, vv, vg⟩ := v
      have hk0 : (0 : Int) ≤ (k : Int) := by omega
      have hk1 : (k : Int) < (n : Int) := by omega
      by_cases hok : Okc ⟨vk, vv, vg⟩
      · have hgo : (vg = false) ∨ (vg = true ∧ vv = ⟨#[]⟩) := by
          cases vg with
          | true => exact .inr ⟨rfl, hok rfl⟩
          | false => exact .inl rfl
        have Hok := Lib.hid hok
        clear hok
        by_cases hk00 : k = 0
        · have Hr1 : Hid (Run (l.take (k + 1))) := Lib.hid (Hs.out.2 ⟨Hr.out, Hok.out, by omega⟩)
          have hkz : decide (0 < k) = false := decide_eq_false (by omega)
          clear hk00
          rcases hgo with rfl | ⟨rfl, rfl⟩
          · simp only at c0 c1 c2
            go_wp2
            go_quiet (fail)
            go_wp2
            go_roundw
            case rel => exact ⟨k + 1, by omega, by go_num, Hr1, below_dr (Hb.out.alloc hsz _) _⟩
            case measure => simp [intOf]; omega
          · simp only at c0 c1 c2
            go_wp2
            go_quiet (fail)
            go_wp2
            go_roundw
            case rel => exact ⟨k + 1, by omega, by go_num, Hr1, below_dr (Hb.out.alloc hsz _) _⟩
            case measure => simp [intOf]; omega
        · obtain ⟨j, rfl⟩ : ∃ j, k = j + 1 := ⟨k - 1, by omega⟩
          clear hk00
          obtain ⟨a', u, e', hab, hu, d0, d1, d2⟩ := (H.out.belowOf Hb.out HB.out).at_ (i := j) (by omega)
          injection e' with e'
          subst e'
          have Hu : Hid (∀ b, 0 < j + 1 → l[j + 1 - 1]? = some b → b = u) := Lib.hid fun b _ hb => by rw [Nat.add_sub_cancel, hu] at hb; exact (Option.some.inj hb).symm
          have Hu2 := Lib.hid hu
          obtain ⟨uk, uv, ug⟩ := u
          have d3 : ∀ o, (wr.alloc o).cell? (a.add (j * 3)) = some (.string uk) := fun o => (World.cell?_alloc_lt wr o _ (by rw [addr_block]; have := HB.out; omega)).trans d0
          have hwj : IntKind.i64.wrap (j : Int) = (j : Int) := IntWalk.i64_in _ (by omega)
          have hj0 : (0 : Int) ≤ (j : Int) := by omega
          have hj1 : (j : Int) < (n : Int) := by omega
          clear hu d0 d1 d2 hab
          by_cases hkl : uk.data.toList < vk.data.toList
          · have Hr1 : Hid (Run (l.take (j + 1 + 1))) := Lib.hid (Hs.out.2 ⟨Hr.out, Hok.out, fun b h1 h2 => by rw [Hu.out b h1 h2]; exact hkl⟩)
            have hb1 : Op.bytesLess vk.toList uk.toList = false := by rw [ByteArray.toList_eq, ByteArray.toList_eq, bytesLess_lt]; exact decide_eq_false (lt_asymm' hkl)
            have hb2 : (vk.toList == uk.toList) = false := by rw [eq_toList]; exact decide_eq_false fun e => by rw [e] at hkl; exact lt_irr _ hkl
            clear hkl
            rcases hgo with rfl | ⟨rfl, rfl⟩
            · simp only at c0 c1 c2
              go_wp2
              go_quiet (fail)
              go_wp2
              go_roundw
              case rel => exact ⟨j + 1 + 1, by omega, by go_num, Hr1, below_dr (Hb.out.alloc hsz _) _⟩
              case measure => simp [intOf]; omega
            · simp only at c0 c1 c2
              go_wp2
              go_quiet (fail)
              go_wp2
              go_roundw
              case rel => exact ⟨j + 1 + 1, by omega, by go_num, Hr1, below_dr (Hb.out.alloc hsz _) _⟩
              case measure => simp [intOf]; omega
          · have E : Hid (runB l = false) := Lib.hid (runB_false fun h => hkl ((Hs.out.1 (h.take _)).2.2 ⟨uk, uv, ug⟩ (by omega) (by rw [Nat.add_sub_cancel]; exact Hu2.out)))
            by_cases hke : vk.data.toList < uk.data.toList
            · have hb1 : Op.bytesLess vk.toList uk.toList = true := by rw [ByteArray.toList_eq, ByteArray.toList_eq, bytesLess_lt]; exact decide_eq_true hke
              clear hkl hke
              rcases hgo with rfl | ⟨rfl, rfl⟩
              · simp only at c0 c1 c2
                go_wp2
                go_quiet (fail)
                go_wp2
                go_ret
                exact ⟨ret_bool (by rw [E.out]), below_dr (Hb.out.alloc hsz _) _⟩
              · simp only at c0 c1 c2
                go_wp2
                go_quiet (fail)
                go_wp2
                go_ret
                exact ⟨ret_bool (by rw [E.out]), below_dr (Hb.out.alloc hsz _) _⟩
            · have hke2 : uk = vk := by
                rcases lt_tri uk.data.toList vk.data.toList with h | h | h
                · exact absurd h hkl
                · exact bytes_ext h
                · exact absurd h hke
              have hb1 : Op.bytesLess vk.toList uk.toList = false := by rw [ByteArray.toList_eq, ByteArray.toList_eq, bytesLess_lt]; exact decide_eq_false hke
              have hb2 : (vk.toList == uk.toList) = true := by rw [eq_toList, hke2]; exact decide_eq_true rfl
              clear hkl hke hke2
              rcases hgo with rfl | ⟨rfl, rfl⟩
              · simp only at c0 c1 c2
                go_wp2
                go_quiet (fail)
                go_wp2
                go_ret
                exact ⟨ret_bool (by rw [E.out]), below_dr (Hb.out.alloc hsz _) _⟩
              · simp only at c0 c1 c2
                go_wp2
                go_quiet (fail)
                go_wp2
                go_ret
                exact ⟨ret_bool (by rw [E.out]), below_dr (Hb.out.alloc hsz _) _⟩
      · have hg : vg = true := by
          cases vg with
          | true => rfl
          | false => exact absurd (fun h => absurd h (by simp)) hok
        subst hg
        have hv0 : vv.toList.isEmpty = false := empty_no fun e => hok fun _ => e
        have E : Hid (runB l = false) := Lib.hid (runB_false fun h => hok ((Hs.out.1 (h.take _)).2.1))
        simp only at c0 c1 c2
        go_wp2
        go_quiet (fail)
        go_wp2
        go_ret
        exact ⟨ret_bool (by rw [E.out]), below_dr (Hb.out.alloc hsz _) _⟩
    · obtain rfl : k = n := by omega
      have E : Hid (runB l = true) := Lib.hid (runB_true (run_all Hr.out (by have := Hl.out; omega)))
      have Hb := Lib.hid hb
      clear hb
      go_wp2
      go_ret
      exact ⟨ret_bool (by rw [E.out]), Hb.out⟩

theorem refRight_any (A : Option Addr) (n c B : Nat) (l : List Chg) (w : World) (h : HasChs w B A n l) (hn : n ≤ maxLen) (hB : B ≤ w.heap.size) :
    Calls Try.prog 16 #[.slice A n c] w fun e w' => e = .returned (.bool (runB l)) ∧ Below w.heap.size w w' := by
  unfold maxLen at hn
  have H := Lib.hid h
  have HB := Lib.hid hB
  clear h hB
  have Hl := Lib.hid H.out.1
  go_enter Try.func16, Try.ntmps16
  go_wp2
  go_loopw [3] (fun i wr => ∃ k : Nat, k ≤ n ∧ i = .int .i64 (k : Int) ∧ Hid (Run (l.take k)) ∧ Below w.heap.size w wr) (fun i _ => n - (intOf i).toNat)
  case atStart => exact ⟨0, by omega, rfl, Lib.hid (by simpa using Run.nil), Below.refl _ _⟩
  case round =>
    obtain ⟨k, hk, rfl, Hr, hb⟩ := hrel
    by_cases hlt : k < n
    · obtain ⟨a, v, rfl, _, hv, c0, c1, c2⟩ := (H.out.belowOf hb HB.out).at_ hlt
      have Hs := Lib.hid (run_succ hv)
      have Hb := Lib.hid hb
      have hsz := hb.size
      clear hb
      obtain ⟨vk, vv, vg⟩ := v
      have hk0 : (0 : Int) ≤ (k : Int) := by omega
      have hk1 : (k : Int) < (n : Int) := by omega
      by_cases hok : Okc ⟨vk, vv, vg⟩
      · have hgo : (vg = false) ∨ (vg = true ∧ vv = ⟨#[]⟩) := by
          cases vg with
          | true => exact .inr ⟨rfl, hok rfl⟩
          | false => exact .inl rfl
        have Hok := Lib.hid hok
        clear hok
        by_cases hk00 : k = 0
        · have Hr1 : Hid (Run (l.take (k + 1))) := Lib.hid (Hs.out.2 ⟨Hr.out, Hok.out, by omega⟩)
          have hkz : decide (0 < k) = false := decide_eq_false (by omega)
          clear hk00
          rcases hgo with rfl | ⟨rfl, rfl⟩
          · simp only at c0 c1 c2
            go_wp2
            go_quiet (fail)
            go_wp2
            go_roundw
            case rel => exact ⟨k + 1, by omega, by go_num, Hr1, below_dr Hb.out _⟩
            case measure => simp [intOf]; omega
          · simp only at c0 c1 c2
            go_wp2
            go_quiet (fail)
            go_wp2
            go_roundw
            case rel => exact ⟨k + 1, by omega, by go_num, Hr1, below_dr Hb.out _⟩
            case measure => simp [intOf]; omega
        · obtain ⟨j, rfl⟩ : ∃ j, k = j + 1 := ⟨k - 1, by omega⟩
          clear hk00
          obtain ⟨a', u, e', hab, hu, d0, d1, d2⟩ := (H.out.belowOf Hb.out HB.out).at_ (i := j) (by omega)
          injection e' with e'
          subst e'
          have Hu : Hid (∀ b, 0 < j + 1 → l[j + 1 - 1]? = some b → b = u) := Lib.hid fun b _ hb => by rw [Nat.add_sub_cancel, hu] at hb; exact (Option.some.inj hb).symm
          have Hu2 := Lib.hid hu
          obtain ⟨uk, uv, ug⟩ := u
          have hwj : IntKind.i64.wrap (j : Int) = (j : Int) := IntWalk.i64_in _ (by omega)
          have hj0 : (0 : Int) ≤ (j : Int) := by omega
          have hj1 : (j : Int) < (n : Int) := by omega
          clear hu d1 d2 hab
          by_cases hkl : uk.data.toList < vk.data.toList
          · have Hr1 : Hid (Run (l.take (j + 1 + 1))) := Lib.hid (Hs.out.2 ⟨Hr.out, Hok.out, fun b h1 h2 => by rw [Hu.out b h1 h2]; exact hkl⟩)
            have hb1 : Op.bytesLess vk.toList uk.toList = false := by rw [ByteArray.toList_eq, ByteArray.toList_eq, bytesLess_lt]; exact decide_eq_false (lt_asymm' hkl)
            have hb2 : (vk.toList == uk.toList) = false := by rw [eq_toList]; exact decide_eq_false fun e => by rw [e] at hkl; exact lt_irr _ hkl
            clear hkl
            rcases hgo with rfl | ⟨rfl, rfl⟩
            · simp only at c0 c1 c2
              go_wp2
              go_quiet (fail)
              go_wp2
              go_roundw
              case rel => exact ⟨j + 1 + 1, by omega, by go_num, Hr1, below_dr Hb.out _⟩
              case measure => simp [intOf]; omega
            · simp only at c0 c1 c2
              go_wp2
              go_quiet (fail)
              go_wp2
              go_roundw
              case rel => exact ⟨j + 1 + 1, by omega, by go_num, Hr1, below_dr Hb.out _⟩
              case measure => simp [intOf]; omega
          · have E : Hid (runB l = false) := Lib.hid (runB_false fun h => hkl ((Hs.out.1 (h.take _)).2.2 ⟨uk, uv, ug⟩ (by omega) (by rw [Nat.add_sub_cancel]; exact Hu2.out)))
            by_cases hke : vk.data.toList < uk.data.toList
            · have hb1 : Op.bytesLess vk.toList uk.toList = true := by rw [ByteArray.toList_eq, ByteArray.toList_eq, bytesLess_lt]; exact decide_eq_true hke
              clear hkl hke
              rcases hgo with rfl | ⟨rfl, rfl⟩
              · simp only at c0 c1 c2
                go_wp2
                go_quiet (fail)
                go_wp2
                go_ret
                exact ⟨ret_bool (by rw [E.out]), below_dr Hb.out _⟩
              · simp only at c0 c1 c2
                go_wp2
                go_quiet (fail)
                go_wp2
                go_ret
                exact ⟨ret_bool (by rw [E.out]), below_dr Hb.out _⟩
            · have hke2 : uk = vk := by
                rcases lt_tri uk.data.toList vk.data.toList with h | h | h
                · exact absurd h hkl
                · exact bytes_ext h
                · exact absurd h hke
              have hb1 : Op.bytesLess vk.toList uk.toList = false := by rw [ByteArray.toList_eq, ByteArray.toList_eq, bytesLess_lt]; exact decide_eq_false hke
              have hb2 : (vk.toList == uk.toList) = true := by rw [eq_toList, hke2]; exact decide_eq_true rfl
              clear hkl hke hke2
              rcases hgo with rfl | ⟨rfl, rfl⟩
              · simp only at c0 c1 c2
                go_wp2
                go_quiet (fail)
                go_wp2
                go_ret
                exact ⟨ret_bool (by rw [E.out]), below_dr Hb.out _⟩
              · simp only at c0 c1 c2
                go_wp2
                go_quiet (fail)
                go_wp2
                go_ret
                exact ⟨ret_bool (by rw [E.out]), below_dr Hb.out _⟩
      · have hg : vg = true := by
          cases vg with
          | true => rfl
          | false => exact absurd (fun h => absurd h (by simp)) hok
        subst hg
        have hv0 : vv.toList.isEmpty = false := empty_no fun e => hok fun _ => e
        have E : Hid (runB l = false) := Lib.hid (runB_false fun h => hok ((Hs.out.1 (h.take _)).2.1))
        simp only at c0 c1 c2
        go_wp2
        go_ret
        exact ⟨ret_bool (by rw [E.out]), Hb.out⟩
    · obtain rfl : k = n := by omega
      have E : Hid (runB l = true) := Lib.hid (runB_true (run_all Hr.out (by have := Hl.out; omega)))
      have Hb := Lib.hid hb
      clear hb
      go_wp2
      go_ret
      exact ⟨ret_bool (by rw [E.out]), Hb.out⟩
end Go.Proofs.Yteioopcacpihpaa
