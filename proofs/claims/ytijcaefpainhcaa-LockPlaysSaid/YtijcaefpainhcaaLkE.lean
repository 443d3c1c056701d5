/- Package lock: Blocks. Condition: the table is in memory. -/
import Derived.Test.YtijcaefpainhcaaLkD
import Derived.Test.YtijcaefpainhcaaRngC
namespace Go.Proofs.Ytijcaefpainhcaa
open Go.RowKit Go.Maps

theorem LkAt.has {F : Nat → Prop} {w : World} {sb mb : Nat} {lease : Int} {M : List LE} (h : LkAt w F sb mb lease M) {e : LE} (he : e ∈ M) : w.cell? ⟨e.b, 0, none⟩ = some (.slice e.A e.p.L.length e.c) ∧ HasRgs w w.heap.size e.A e.p.L.length e.p.L := by
  obtain ⟨A', c', ev, -, -, hrs⟩ := (h.rows e he).slice
  have ev2 : e.row = .slice e.A e.p.L.length e.c := rfl
  rw [ev2] at ev
  injection ev with eA _ _
  subst eA
  exact ⟨(h.held e he).cell 0, hrs⟩
set_option maxRecDepth 100000 in
theorem hasKey_any (x : Rg) (s : ByteArray) (g : Nat) (w : World) (hbx : Box w g 9 #[.string s]) : Calls Try.prog 64 #[ragg x, .pointer (some ⟨g, 0, none⟩)] w fun e w' => e = .returned (.bool (decide (hasR x s.data.toList))) ∧ Below w.heap.size w w' := by
  obtain ⟨w1, hw1⟩ : ∃ w1, w.alloc (.cells #[.string x.lo, .string x.hi] 23) = w1 := ⟨_, rfl⟩
  have b1 : Below w.heap.size w w1 := hw1 ▸ below_box _
  have x1 : Box w1 w.heap.size 23 #[.string x.lo, .string x.hi] := hw1 ▸ Box.made _ _ _
  have c0 : w1.cell? ⟨w.heap.size, 0, none⟩ = some (.string x.lo) := x1.cell 0
  have c1 : w1.cell? ⟨w.heap.size, 1, none⟩ = some (.string x.hi) := x1.cell 1
  have k0 : w1.cell? ⟨g, 0, none⟩ = some (.string s) := (hbx.below b1 hbx.lt).cell 0
  have Hh := Lib.hid (has_any x s w1)
  unfold ragg at Hh ⊢
  obtain ⟨D, hD⟩ : ∃ D, decide (hasR x s.data.toList) = D := ⟨_, rfl⟩
  rw [hD] at Hh ⊢
  have Hb := Lib.hid b1
  clear hbx hD x1 b1
  go_enter Try.func64, Try.ntmps64
  go_wp2_with fail
  refine Hh.out.mono ?_
  rintro e w2 ⟨rfl, b2⟩
  have Hb2 := Lib.hid (Hb.out.trans (b2.mono Hb.out.size))
  clear b2
  go_wp2
  go_ret
  exact ⟨rfl, Hb2.out⟩
/-- the place of the first range that has s; -1, if none has -/
def HasAt (s : List UInt8) (l : List Rg) (w : World) (e : Ending) (w' : World) : Prop :=
  Below w.heap.size w w' ∧ ((e = .returned (.int .i64 (-1)) ∧ ∀ c ∈ l, ¬ hasR c s) ∨ ∃ (i : Nat) (c : Rg), e = .returned (.int .i64 (i : Int)) ∧ l[i]? = some c ∧ hasR c s ∧ ∀ c ∈ l.take i, ¬ hasR c s)
set_option maxRecDepth 100000 in
set_option maxHeartbeats 1600000 in
theorem indexHas_any (A : Option Addr) (n c C g : Nat) (l : List Rg) (s : ByteArray) (w : World) (hbx : Box w g 9 #[.string s]) (h : HasRgs w C A n l) (hC : C ≤ w.heap.size) (hn : n ≤ 1000000) :
    Calls Try.prog 70 #[.slice A n c, .func (.func 64) #[] #[.pointer (some ⟨g, 0, none⟩)]] w (HasAt s.data.toList l w) := by
  have H := Lib.hid h
  have Hl := Lib.hid h.1
  have Hc := Lib.hid (fun x wx (hb : Below w.heap.size w wx) => hasKey_any x s g wx (hbx.below hb hbx.lt))
  unfold ragg at Hc
  clear h hbx
  go_enter Try.func70, Try.ntmps70
  go_wp2
  go_loopw [5, 8] (fun _ iv wr => ∃ k : Nat, k ≤ n ∧ iv = .int .i64 (k : Int) ∧ Hid (∀ c ∈ l.take k, ¬ hasR c s.data.toList) ∧ Below w.heap.size w wr) (fun _ iv _ => n - (intOf iv).toNat)
  case atStart => exact ⟨0, by omega, rfl, Lib.hid (by simp), Below.refl _ _⟩
  case round =>
    obtain ⟨k, hk, rfl, Hp, hb⟩ := hrel
    have Hb := Lib.hid hb
    have hsz := hb.size
    clear hb
    by_cases hlt : k < n
    · obtain ⟨a, y, rfl, hab, hy, c0, c1⟩ := (H.out.belowOf Hb.out hC).at_ hlt
      have Hy := Lib.hid hy
      have hk0 : (0 : Int) ≤ (k : Int) := by omega
      have hk1 : (k : Int) < (n : Int) := by omega
      obtain ⟨yk, yv⟩ := y
      have Hc1 := Lib.hid (Hc.out ⟨yk, yv⟩ wr Hb.out)
      simp only at c0 c1 Hc1
      obtain ⟨yg, hyg⟩ : ∃ yg, decide (hasR ⟨yk, yv⟩ s.data.toList) = yg := ⟨_, rfl⟩
      rw [hyg] at Hc1
      have Hyg := Lib.hid hyg
      clear hy hyg
      cases yg with
      | false =>
        have Hp1 : Hid (∀ c ∈ l.take (k + 1), ¬ hasR c s.data.toList) := Lib.hid (by
          rw [List.take_add_one, Hy.out]
          intro x hx
          rcases List.mem_append.1 hx with hx | hx
          · exact Hp.out x hx
          · simp at hx; subst hx; exact of_decide_eq_false Hyg.out)
        go_wp2_with fail
        refine Hc1.out.mono ?_
        rintro e w2 ⟨rfl, hb2⟩
        have Hb2 := Lib.hid (Hb.out.trans (hb2.mono hsz))
        clear hb2
        go_wp2
        go_roundw
        case rel => exact ⟨k + 1, by omega, by go_num, Hp1, Hb2.out⟩
        case measure => simp [intOf]; omega
      | true =>
        go_wp2_with fail
        refine Hc1.out.mono ?_
        rintro e w2 ⟨rfl, hb2⟩
        have Hb2 := Lib.hid (Hb.out.trans (hb2.mono hsz))
        clear hb2
        go_wp2
        go_ret
        exact ⟨Hb2.out, .inr ⟨k, _, rfl, Hy.out, of_decide_eq_true Hyg.out, Hp.out⟩⟩
    · have E : Hid (∀ c ∈ l, ¬ hasR c s.data.toList) := Lib.hid (by have h1 := Hp.out; rwa [List.take_of_length_le (by have := Hl.out; omega)] at h1)
      obtain rfl : k = n := by omega
      go_wp2
      go_ret
      exact ⟨Hb.out, .inl ⟨rfl, E.out⟩⟩
set_option maxRecDepth 100000 in
theorem contHas_any (A : Option Addr) (n c C g : Nat) (l : List Rg) (s : ByteArray) (w : World) (hbx : Box w g 9 #[.string s]) (h : HasRgs w C A n l) (hC : C ≤ w.heap.size) (hn : n ≤ 1000000) :
    Calls Try.prog 56 #[.slice A n c, .func (.func 64) #[] #[.pointer (some ⟨g, 0, none⟩)]] w fun e w' => e = .returned (.bool (decide (inS l s.data.toList))) ∧ Below w.heap.size w w' := by
  have Hc := Lib.hid (indexHas_any A n c C g l s w hbx h hC hn)
  obtain ⟨D, hD⟩ : ∃ D, decide (inS l s.data.toList) = D := ⟨_, rfl⟩
  rw [hD]
  have HD := Lib.hid hD
  clear hbx h hC hn hD
  go_enter Try.func56, Try.ntmps56
  go_wp2_with fail
  refine Hc.out.mono ?_
  rintro e w1 ⟨b1, ⟨rfl, hn⟩ | ⟨i, x, rfl, hx, hc, -⟩⟩
  · have E : Hid (D = false) := Lib.hid (by rw [← HD.out]; exact decide_eq_false fun ⟨x, hx, hc⟩ => hn x hx hc)
    have Hb := Lib.hid b1
    clear b1 hn
    go_wp2
    go_ret
    exact ⟨ret_bool E.out.symm, Hb.out⟩
  · have E : Hid (D = true) := Lib.hid (by rw [← HD.out]; exact decide_eq_true ⟨x, List.mem_of_getElem? hx, hc⟩)
    have Hb := Lib.hid b1
    have hi : decide ((0 : Int) ≤ (i : Int)) = true := decide_eq_true (by omega)
    clear b1 hx hc
    go_wp2
    go_ret
    exact ⟨ret_bool E.out.symm, Hb.out⟩
def blocksB (s : List UInt8) (E : List TL) : Bool := E.any fun p => decide (inS p.L s)
section
variable {F : Nat → Prop} {w : World} {sb mb : Nat} {lease : Int} {M : List LE}
set_option maxRecDepth 100000 in
set_option maxHeartbeats 6400000 in
theorem lockBlocks_any (h : LkAt w F sb mb lease M) (hM : ∀ p ∈ pl M, p.L.length ≤ 100000) (s : ByteArray) : Calls Try.prog 30 #[.pointer (some ⟨sb, 0, none⟩), .string s] w fun e w' => e = .returned (.bool (blocksB s.data.toList (pl M))) ∧ Below w.heap.size w w' := by
  obtain ⟨w1, hw1⟩ : ∃ w1, w.alloc (.cells #[.string s] 9) = w1 := ⟨_, rfl⟩
  have b1 : Below w.heap.size w w1 := hw1 ▸ below_box _
  have x1 : Box w1 w.heap.size 9 #[.string s] := hw1 ▸ Box.made _ _ _
  have h1 := h.below b1
  obtain ⟨q0, q1⟩ := h1.cells
  have hown := h1.own
  have H := Lib.hid (And.intro h1 (And.intro x1 (And.intro b1 hM)))
  obtain ⟨D, hD⟩ : ∃ D, blocksB s.data.toList (pl M) = D := ⟨_, rfl⟩
  rw [hD]
  have HD := Lib.hid hD
  clear h h1 x1 b1 hM hD
  go_enter Try.func30, Try.ntmps30
  go_wp2_with (first
    | (at_range; refine wpList_range_own _ rfl _ 73 rfl 3 79 intKeyed Try.underlying73 _ mb M.length _ rfl hown ?_; intro w0 hrg0 hg0 hs0)
    | go_in)
  go_frame
  have H0 : Hid (w0.ranges Try.prog 3 Rn mb w1.heap.size M.length (lmap M) (Maps.has (lmap M)) (Maps.size (lmap M)) ∧ Below w1.heap.size w1 w0 ∧ ∀ p ∈ pl M, Maps.has (lmap M) (.int .i64 p.n) = false → ¬ inS p.L s.data.toList) := Lib.hid ⟨hrg0, grown_none hg0, fun p hp hl => by
    rw [left_all rfl p hp] at hl; cases hl⟩
  clear hown q0 q1 hrg0 hg0 hs0
  go_loopw [7] (fun _ wr => ∃ (left : Lit → Bool) (cnt : Nat), Hid (wr.ranges Try.prog 3 Rn mb w1.heap.size M.length (lmap M) left cnt ∧ Below w1.heap.size w1 wr ∧ ∀ p ∈ pl M, left (.int .i64 p.n) = false → ¬ inS p.L s.data.toList)) (fun _ wr => wr.rangeLeft mb w1.heap.size)
  case atStart => exact ⟨_, _, H0⟩
  case round =>
    obtain ⟨left, cnt, HR⟩ := hrel
    have hrg := HR.out.1
    have Hcnt : Hid (wr.rangeLeft mb w1.heap.size = cnt) := Lib.hid hrg.left_eq
    go_wp2_with (first
      | (at_next; refine wpList_next_lk (w := wr) rfl _ rfl mb w1.heap.size M.length M left cnt rfl hrg ?_ ?_)
      | go_in)
    · intro _ hl0
      have E : Hid (D = false) := Lib.hid (by
        rw [← HD.out]
        unfold blocksB
        rw [List.any_eq_false]
        intro p hp
        simpa using HR.out.2.2 p hp (hl0 _))
      have HE : Hid (Below w.heap.size w wr) := Lib.hid (H.out.2.2.1.trans (HR.out.2.1.mono H.out.2.2.1.size))
      clear hrg HR H0
      go_wp2
      go_ret
      exact ⟨ret_bool E.out.symm, HE.out⟩
    · intro e w2 cnt1 he hwx hlx hrg1 hlt hg1 hs2 hen
      have b2 : Below w1.heap.size w1 w2 := HR.out.2.1.grown hg1 HR.out.2.1.size (fun q hq => by injection hq with hq; omega)
      have h2 := H.out.1.below b2
      obtain ⟨c0, hrs⟩ := h2.has he
      have hp : e.p ∈ pl M := List.mem_map.2 ⟨e, he, rfl⟩
      have Hct := Lib.hid (contHas_any e.A e.p.L.length e.c w2.heap.size w.heap.size e.p.L s w2 (H.out.2.1.below b2 H.out.2.1.lt) hrs (Nat.le_refl _) (by have := H.out.2.2.2 _ hp; omega))
      have HB := Lib.hid (And.intro hrg1 (And.intro b2 (And.intro HR.out.2.2 (And.intro hp he))))
      obtain ⟨y, hy⟩ : ∃ y, decide (inS e.p.L s.data.toList) = y := ⟨_, rfl⟩
      rw [hy] at Hct
      have Hy := Lib.hid hy
      clear hrg hg1 HR H0 b2 h2 hrs hy hp hrg1 he
      cases y with
      | true =>
        have E : Hid (D = true) := Lib.hid (by
          rw [← HD.out]
          unfold blocksB
          rw [List.any_eq_true]
          exact ⟨_, HB.out.2.2.2.1, Hy.out⟩)
        go_wp2_with fail
        refine Hct.out.mono ?_
        rintro ee w3 ⟨rfl, b3⟩
        have HE : Hid (Below w.heap.size w w3) := Lib.hid (H.out.2.2.1.trans ((HB.out.2.1.trans (b3.mono HB.out.2.1.size)).mono H.out.2.2.1.size))
        clear b3
        go_wp2
        go_ret
        exact ⟨ret_bool E.out.symm, HE.out⟩
      | false =>
        go_wp2_with fail
        refine Hct.out.mono ?_
        rintro ee w3 ⟨rfl, b3⟩
        have HE : Hid (w3.ranges Try.prog 3 Rn mb w1.heap.size M.length (lmap M) (fun z => left z && !z.sameKey (.int .i64 e.p.n)) cnt1 ∧ Below w1.heap.size w1 w3 ∧ ∀ p ∈ pl M, (left (.int .i64 p.n) && !(Lit.int .i64 p.n).sameKey (.int .i64 e.p.n)) = false → ¬ inS p.L s.data.toList) := Lib.hid ⟨(HB.out.1.kept (row := none) ⟨b3.os, b3.tape, b3.output, b3.size, fun i hi _ => b3.block i hi⟩ (by simp) (by simp)), HB.out.2.1.trans (b3.mono HB.out.2.1.size), fun p hp hl => by
          rw [sameKeyI] at hl
          by_cases hpe : p.n = e.p.n
          · rw [rise_eq H.out.1.rise hp HB.out.2.2.2.1 hpe]
            exact of_decide_eq_false Hy.out
          · simp [hpe] at hl
            exact HB.out.2.2.1 p hp hl⟩
        clear b3
        go_wp2
        go_roundw
        case rel => exact ⟨_, _, HE⟩
        case measure => rw [HE.out.1.left_eq, Hcnt.out]; exact hlt
end
end Go.Proofs.Ytijcaefpainhcaa
