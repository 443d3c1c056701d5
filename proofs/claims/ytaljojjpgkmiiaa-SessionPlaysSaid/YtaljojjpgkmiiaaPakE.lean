/- pack.GetText gives what the readers of the plain text (SpecPack) give. Condition: the bytes are in memory. -/
import Derived.Test.YtaljojjpgkmiiaaPakD
namespace Go.Proofs.Ytaljojjpgkmiiaa
open Go.RowKit
open Go.Lib (strCells)

set_option maxHeartbeats 400000 in
/-- GetText -/
theorem getText_any (A : Option Addr) (n c B : Nat) (p most : Int) (l : List UInt8) (w : World) (h : HasBytes w B A n l) (hn : n ≤ 4611686018427387904) (hnc : n ≤ c) :
    Calls Try.prog 104 #[.slice A n c, .int .i64 p, .int .i64 most] w fun e w' =>
      e = .returned (.tuple #[.string ⟨(getText l p most).1.toArray⟩, .int .i64 ((getText l p most).2.1 : Int), .int .i64 ((getText l p most).2.2 : Int)]) ∧ w = w' := by
  have hl := h.len
  obtain ⟨r, hr⟩ : ∃ r, getNum l p = r := ⟨_, rfl⟩
  obtain ⟨x, u, e⟩ := r
  have hcall := getNum_any A n c B p l w h (by unfold maxLen; omega) hnc
  rw [hr] at hcall
  have hT : getText l p most = if e ≠ 0 then ([], 0, e) else if most < x then ([], 0, 4) else if l.length - u < x then ([], 0, 2) else ((l.drop u).take x, u + x, 0) := by
    simp only [getText, hr]
  rw [hl] at hT
  have hcall2 := Lib.hid hcall
  clear hcall
  by_cases he : e = 0
  · subst he
    have hbd := getNum_bound (l := l) (p := p) (by rw [hr])
    rw [hr] at hbd
    simp only [hl] at hbd
    rw [if_neg (by omega)] at hT
    have Hl := Lib.hid hl
    clear hl hr
    by_cases hm : most < x
    · rw [if_pos hm] at hT
      have HT := Lib.hid hT
      clear hT
      go_enter Try.func104, Try.ntmps104
      go_wp2_with fail
      refine hcall2.out.mono ?_
      rintro e w' ⟨rfl, rfl⟩
      go_wp2
      go_ret3
      rw [HT.out]
      exact ⟨rfl, rfl⟩
    · rw [if_neg hm] at hT
      by_cases hs : n - u < x
      · rw [if_pos hs] at hT
        have HT := Lib.hid hT
        clear hT
        go_enter Try.func104, Try.ntmps104
        go_wp2_with fail
        refine hcall2.out.mono ?_
        rintro e w' ⟨rfl, rfl⟩
        go_wp2
        go_ret3
        rw [HT.out]
        exact ⟨rfl, rfl⟩
      · rw [if_neg hs] at hT
        have HT := Lib.hid hT
        clear hT
        have hux : u + x ≤ n := by omega
        have hcut : HasBytes w B (if c = u then A else A.map (·.add u)) (n - u) (l.drop u) := h.part (by omega) hnc
        obtain ⟨A', hA⟩ : ∃ A', (if c = u then A else A.map (·.add u)) = A' := ⟨_, rfl⟩
        rw [hA] at hcut
        have hcv := fun cap => run_string_of (P := Try.prog) (hcut.head (k := x) (by omega)) cap 76 9 5 Try.underlying76 Try.underlying5 Try.underlying9
        clear hcut
        go_enter Try.func104, Try.ntmps104
        go_wp2_with fail
        refine hcall2.out.mono ?_
        rintro e w' ⟨rfl, rfl⟩
        go_wp2
        go_ret3
        rw [HT.out]
        exact ⟨rfl, rfl⟩
  · rw [if_pos he] at hT
    have hgt : 0 < e := by omega
    have h3 := getNum_e_lt l p
    have h0 := getNum_err (l := l) (p := p) (by rw [hr]; exact he)
    rw [hr] at h3 h0
    simp only [Prod.mk.injEq, and_true] at h3 h0
    obtain ⟨rfl, rfl⟩ := h0
    have hei : ((e : Int) == 0) = false := by simp; omega
    have HT := Lib.hid hT
    clear hT hl hr
    go_enter Try.func104, Try.ntmps104
    go_wp2_with fail
    refine hcall2.out.mono ?_
    rintro e w' ⟨rfl, rfl⟩
    go_wp2
    go_ret3
    rw [HT.out]
    exact ⟨rfl, rfl⟩

end Go.Proofs.Ytaljojjpgkmiiaa
