/- run.getChange and run.Unpack give what the plain text (SpecPk) gives. Condition: four thousand bytes at most, in memory. -/
import Derived.Test.YtmbolempigbkdaaPckB
import Derived.Test.YtmbolempigbkdaaPakE
namespace Go.Proofs.Ytmbolempigbkdaa
open Go.RowKit
open Go.Lib (strCells compareBytes)

section
variable {b : List UInt8} {p tq x u vq e : Nat} {ts vs : List UInt8}
theorem getChg_e1 (h : getText b p 9223372036854775807 = (ts, tq, e)) (he : e ≠ 0) : getChg b p = (default, 0, e) := by unfold getChg; simp [h, he]
theorem getChg_e2 (h : getText b p 9223372036854775807 = (ts, tq, 0)) (h2 : getNum b tq = (x, u, e)) (he : e ≠ 0) : getChg b p = (default, 0, e) := by unfold getChg; simp [h, h2, he]
theorem getChg_e3 (h : getText b p 9223372036854775807 = (ts, tq, 0)) (h2 : getNum b tq = (x, u, 0)) (hx : 1 < x) : getChg b p = (default, 0, 3) := by unfold getChg; simp [h, h2, hx]
theorem getChg_e4 (h : getText b p 9223372036854775807 = (ts, tq, 0)) (h2 : getNum b tq = (x, u, 0)) (hx : ¬ 1 < x) (h3 : getText b u 9223372036854775807 = (vs, vq, e)) (he : e ≠ 0) : getChg b p = (default, 0, e) := by unfold getChg; simp [h, h2, hx, h3, he]
theorem getChg_e5 (h : getText b p 9223372036854775807 = (ts, tq, 0)) (h2 : getNum b tq = (x, u, 0)) (hx : ¬ 1 < x) (h3 : getText b u 9223372036854775807 = (vs, vq, 0)) : getChg b p = (⟨⟨ts.toArray⟩, ⟨vs.toArray⟩, decide (x = 1)⟩, vq, 0) := by unfold getChg; simp [h, h2, hx, h3]
end
def ChgPost (r : Chg × Nat × Nat) (w : World) (e : Ending) (w' : World) : Prop := e = .returned (.tuple #[cagg r.1, .int .i64 (r.2.1 : Int), .int .i64 (r.2.2 : Int)]) ∧ Below w.heap.size w w'
set_option maxRecDepth 100000 in
set_option maxHeartbeats 3200000 in
theorem getChange_any (A : Option Addr) (n c C p : Nat) (b : List UInt8) (w : World) (h : HasBytes w C A n b) (hC : C ≤ w.heap.size) (hn : n ≤ 4000000) (hnc : n ≤ c) :
    Calls Try.prog 45 #[.slice A n c, .int .i64 (p : Int)] w (ChgPost (getChg b p) w) := by
  obtain ⟨⟨ts, tq, te⟩, ht⟩ : ∃ r, getText b p 9223372036854775807 = r := ⟨_, rfl⟩
  have hmax : n ≤ maxLen := by unfold maxLen; omega
  have Ht := Lib.hid (getText_any A n c C (p : Int) 9223372036854775807 b (w.alloc (Obj.cells #[.string ⟨#[]⟩, .string ⟨#[]⟩, .bool false] 38)) (Has.alloc h hC _) (by omega) hnc)
  rw [ht] at Ht
  have Hn := Lib.hid (getNum_any A n c C (tq : Int) b (w.alloc (Obj.cells #[.string ⟨#[]⟩, .string ⟨#[]⟩, .bool false] 38)) (Has.alloc h hC _) hmax hnc)
  obtain ⟨⟨x, u, ne⟩, hnn⟩ : ∃ r, getNum b tq = r := ⟨_, rfl⟩
  rw [hnn] at Hn
  have Hv := Lib.hid (getText_any A n c C (u : Int) 9223372036854775807 b (w.alloc (Obj.cells #[.string ⟨#[]⟩, .string ⟨#[]⟩, .bool false] 38)) (Has.alloc h hC _) (by omega) hnc)
  obtain ⟨⟨vs, vq, ve⟩, hv⟩ : ∃ r, getText b u 9223372036854775807 = r := ⟨_, rfl⟩
  rw [hv] at Hv
  have HT := Lib.hid ht
  have HN := Lib.hid hnn
  have HV := Lib.hid hv
  simp only at Ht Hn Hv
  clear h hC hmax ht hnn hv
  by_cases h1 : te = 0
  · subst h1
    by_cases h2 : ne = 0
    · subst h2
      by_cases h3 : 1 < x
      · have E := Lib.hid (getChg_e3 HT.out HN.out h3)
        go_enter Try.func45, Try.ntmps45
        go_wp2_with fail
        refine Ht.out.mono ?_
        rintro e w1 ⟨rfl, rfl⟩
        go_wp2_with fail
        refine Hn.out.mono ?_
        rintro e w1 ⟨rfl, rfl⟩
        go_wp2
        refine bodyPost_ret (v := .tuple #[cagg default, .int .i64 0, .int .i64 3]) ?_ rfl ⟨by rw [E.out]; rfl, below_box _⟩
        simp [results, Try.results45, go_sem, cagg, default]
      · by_cases h4 : ve = 0
        · subst h4
          have E := Lib.hid (getChg_e5 HT.out HN.out h3 HV.out)
          have hx01 : x = 0 ∨ x = 1 := by omega
          clear h3
          rcases hx01 with rfl | rfl
          · go_enter Try.func45, Try.ntmps45
            go_wp2_with fail
            refine Ht.out.mono ?_
            rintro e w1 ⟨rfl, rfl⟩
            go_wp2_with fail
            refine Hn.out.mono ?_
            rintro e w1 ⟨rfl, rfl⟩
            go_wp2_with fail
            refine Hv.out.mono ?_
            rintro e w1 ⟨rfl, rfl⟩
            go_wp2
            refine bodyPost_ret (v := .tuple #[cagg ⟨⟨ts.toArray⟩, ⟨vs.toArray⟩, false⟩, .int .i64 (vq : Int), .int .i64 0]) ?_ rfl ⟨by rw [E.out]; rfl, below_box _⟩
            simp [results, Try.results45, go_sem, cagg]
          · go_enter Try.func45, Try.ntmps45
            go_wp2_with fail
            refine Ht.out.mono ?_
            rintro e w1 ⟨rfl, rfl⟩
            go_wp2_with fail
            refine Hn.out.mono ?_
            rintro e w1 ⟨rfl, rfl⟩
            go_wp2_with fail
            refine Hv.out.mono ?_
            rintro e w1 ⟨rfl, rfl⟩
            go_wp2
            refine bodyPost_ret (v := .tuple #[cagg ⟨⟨ts.toArray⟩, ⟨vs.toArray⟩, true⟩, .int .i64 (vq : Int), .int .i64 0]) ?_ rfl ⟨by rw [E.out]; rfl, below_box _⟩
            simp [results, Try.results45, go_sem, cagg]
        · have h4b : ((ve : Int) != 0) = true := by simpa using h4
          have E := Lib.hid (getChg_e4 HT.out HN.out h3 HV.out h4)
          clear h4
          go_enter Try.func45, Try.ntmps45
          go_wp2_with fail
          refine Ht.out.mono ?_
          rintro e w1 ⟨rfl, rfl⟩
          go_wp2_with fail
          refine Hn.out.mono ?_
          rintro e w1 ⟨rfl, rfl⟩
          go_wp2_with fail
          refine Hv.out.mono ?_
          rintro e w1 ⟨rfl, rfl⟩
          go_wp2
          refine bodyPost_ret (v := .tuple #[cagg default, .int .i64 0, .int .i64 (ve : Int)]) ?_ rfl ⟨by rw [E.out]; rfl, below_box _⟩
          simp [results, Try.results45, go_sem, cagg, default]
    · have h2b : ((ne : Int) != 0) = true := by simpa using h2
      have E := Lib.hid (getChg_e2 HT.out HN.out h2)
      clear h2
      go_enter Try.func45, Try.ntmps45
      go_wp2_with fail
      refine Ht.out.mono ?_
      rintro e w1 ⟨rfl, rfl⟩
      go_wp2_with fail
      refine Hn.out.mono ?_
      rintro e w1 ⟨rfl, rfl⟩
      go_wp2
      refine bodyPost_ret (v := .tuple #[cagg default, .int .i64 0, .int .i64 (ne : Int)]) ?_ rfl ⟨by rw [E.out]; rfl, below_box _⟩
      simp [results, Try.results45, go_sem, cagg, default]
  · have h1b : ((te : Int) != 0) = true := by simpa using h1
    have E := Lib.hid (getChg_e1 HT.out h1)
    clear h1
    go_enter Try.func45, Try.ntmps45
    go_wp2_with fail
    refine Ht.out.mono ?_
    rintro e w1 ⟨rfl, rfl⟩
    go_wp2
    refine bodyPost_ret (v := .tuple #[cagg default, .int .i64 0, .int .i64 (te : Int)]) ?_ rfl ⟨by rw [E.out]; rfl, below_box _⟩
    simp [results, Try.results45, go_sem, cagg, default]
end Go.Proofs.Ytmbolempigbkdaa
