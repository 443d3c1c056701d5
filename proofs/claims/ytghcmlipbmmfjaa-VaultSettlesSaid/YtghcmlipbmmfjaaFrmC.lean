/- frame.First gives what the plain text (SpecFrame) gives. Condition: the bytes are in memory. -/
import Derived.Test.YtghcmlipbmmfjaaFrmB
namespace Go.Proofs.Ytghcmlipbmmfjaa
open Go.RowKit
open Go.Lib (strCells)

/-- what First answers of the bytes l -/
def FirstPost (l : List UInt8) (w : World) (e : Ending) (w' : World) : Prop :=
  (firstErr l ≠ 0 ∧ e = .returned (.tuple #[.slice none 0 0, .int .i64 0, .int .i64 (firstErr l : Int)]) ∧ Below w.heap.size w w') ∨
  (firstErr l = 0 ∧ ∃ v, e = .returned (.tuple #[v, .int .i64 (8 + (sizeAt l : Int)), .int .i64 0]) ∧ w'.ownsRow w.heap.size 5 1 v (sizeAt l) (byteCells (payAt l)) ∧ v.ownBlock = some w.heap.size ∧ Below w.heap.size w w')
theorem first_err {l : List UInt8} {w w' : World} {k : Nat} (h : firstErr l = k) (hk : k ≠ 0) (hb : Below w.heap.size w w') : FirstPost l w (.returned (.tuple #[.slice none 0 0, .int .i64 0, .int .i64 (k : Int)])) w' := .inl ⟨by rw [h]; exact hk, by rw [h], hb⟩
theorem first_ok {l : List UInt8} {w w' : World} {S : Nat} {v : Value} (h : firstErr l = 0) (hS : sizeAt l = S) (hv : w'.ownsRow w.heap.size 5 1 v S (byteCells (payAt l))) (ho : v.ownBlock = some w.heap.size) (hb : Below w.heap.size w w') :
    FirstPost l w (.returned (.tuple #[v, .int .i64 (8 + (S : Int)), .int .i64 0])) w' := .inr ⟨h, v, by rw [hS], by rw [hS]; exact hv, ho, hb⟩
theorem map_add8 (A : Option Addr) : A.map (·.add 8) = Option.map (fun x : Addr => (⟨x.block, x.off + 8, none⟩ : Addr)) A := by
  cases A <;> simp [Addr.add]
theorem getSum_in {l : List UInt8} {p : Nat} (h : p + 4 ≤ l.length) : getSum l (p : Int) = (sumNum 0 ((l.drop p).take 4), 0) := by
  unfold getSum
  rw [if_neg (by omega), if_neg (by omega)]
  rfl

set_option maxHeartbeats 1600000 in
theorem first_any (A : Option Addr) (n c B : Nat) (l : List UInt8) (w : World) (h : HasBytes w B A n l) (hB : B ≤ w.heap.size) (hn : n ≤ 4611686018427387904) (hnc : n ≤ c) :
    Calls Try.prog 37 #[.slice A n c] w (FirstPost l w) := by
  have hl := h.len
  by_cases h8 : n < 8
  · have He : Hid (firstErr l = 2) := Lib.hid (by unfold firstErr; rw [hl, if_pos h8])
    clear h hl
    go_enter Try.func37, Try.ntmps37
    go_wp2
    go_ret3
    exact first_err (k := 2) He.out (by decide) (Below.refl _ _)
  · obtain ⟨S, hS⟩ : ∃ S, sizeAt l = S := ⟨_, rfl⟩
    have Hget0 : Hid (∀ w, HasBytes w B A n l → Calls Try.prog 40 #[.slice A n c, .int .i64 0] w fun e w' => e = .returned (.tuple #[.int .u32 (S : Int), .int .i64 0]) ∧ w = w') := Lib.hid fun w hw => by
      have := get_any A n c B ((0 : Nat) : Int) l w hw hn hnc
      rw [getSum_in (by omega), List.drop_zero, show sumNum 0 (l.take 4) = S from hS] at this
      exact this
    obtain ⟨T, hT⟩ : ∃ T, sumNum 0 ((l.drop 4).take 4) = T := ⟨_, rfl⟩
    have Hget4 : Hid (∀ w, HasBytes w B A n l → Calls Try.prog 40 #[.slice A n c, .int .i64 4] w fun e w' => e = .returned (.tuple #[.int .u32 (T : Int), .int .i64 0]) ∧ w = w') := Lib.hid fun w hw => by
      have := get_any A n c B ((4 : Nat) : Int) l w hw hn hnc
      rw [getSum_in (by omega), hT] at this
      exact this
    have hS32 : S < 4294967296 := by
      have := sumNum_lt (l.take 4)
      rw [show sumNum 0 (l.take 4) = S from hS, List.length_take, hl, Nat.min_eq_left (by omega)] at this
      omega
    by_cases hbig : 65536 < S
    · have He : Hid (firstErr l = 4) := Lib.hid (by unfold firstErr; rw [hl, hS, if_neg h8, if_pos hbig])
      have H := Lib.hid h
      clear h hl hS hT
      go_enter Try.func37, Try.ntmps37
      go_wp2_with fail
      refine (Hget0.out _ H.out).mono ?_
      rintro e w' ⟨rfl, rfl⟩
      go_wp2_with fail
      refine (Hget4.out _ H.out).mono ?_
      rintro e w' ⟨rfl, rfl⟩
      go_wp2
      go_ret3
      exact first_err (k := 4) He.out (by decide) (Below.refl _ _)
    · by_cases hsh : n < 8 + S
      · have He : Hid (firstErr l = 2) := Lib.hid (by unfold firstErr; rw [hl, hS, if_neg h8, if_neg hbig, if_pos hsh])
        have H := Lib.hid h
        clear h hl hS hT
        go_enter Try.func37, Try.ntmps37
        go_wp2_with fail
        refine (Hget0.out _ H.out).mono ?_
        rintro e w' ⟨rfl, rfl⟩
        go_wp2_with fail
        refine (Hget4.out _ H.out).mono ?_
        rintro e w' ⟨rfl, rfl⟩
        go_wp2
        go_ret3
        exact first_err (k := 2) He.out (by decide) (Below.refl _ _)
      · have h4 := HasBytes.head h (k := 4) (by omega)
        have hrest := HasBytes.part h (k := 8) (cap := c) (by omega) hnc
        obtain ⟨D, hD⟩ : ∃ D, (if c = 8 then A else Option.map (fun x : Addr => (⟨x.block, x.off + 8, none⟩ : Addr)) A) = D := ⟨_, rfl⟩
        rw [map_add8, hD] at hrest
        have hpay : HasBytes w B D S (payAt l) := by
          have := HasBytes.head hrest (k := S) (by omega)
          unfold payAt
          rwa [hS]
        obtain ⟨M, hMs, hmk, _⟩ := make_bytes .u32 S (by omega)
        obtain ⟨U, hU⟩ : ∃ U, sumOf (l.take 4 ++ payAt l) = U := ⟨_, rfl⟩
        have Hsum : Hid (∀ w, HasBytes w B A 4 (l.take 4) → HasBytes w B D S (payAt l) → Calls Try.prog 39 #[.slice A 4 c, .slice D S (c - 8)] w fun e w' => e = .returned (.int .u32 (U : Int)) ∧ w = w') := Lib.hid fun w a b => by
          have := sumOf_any A D 4 S c (c - 8) B B _ _ w a b (by simp [maxLen]) (by simp only [maxLen]; omega)
          rwa [hU] at this
        have H := Lib.hid h
        have H4 := Lib.hid h4
        have Hpay := Lib.hid hpay
        have Hrest := Lib.hid hrest
        have HB := Lib.hid hB
        have HS := Lib.hid hS
        have Hl := Lib.hid hl
        have HMs := Lib.hid hMs
        by_cases hok : U = T
        · have He : Hid (firstErr l = 0) := Lib.hid (by unfold firstErr; rw [hl, hS, hU, hT, if_neg h8, if_neg hbig, if_neg hsh, if_pos hok])
          have hne : ((U : Int) != (T : Int)) = false := by simp; omega
          clear h hl hS hT h4 hrest hpay hU hB hMs hok
          have c8 : (8 : Int) ≤ (c : Int) := by omega
          have n4 : (4 : Int) ≤ (c : Int) := by omega
          have n8 : (8 : Int) + (S : Int) ≤ (c : Int) := by omega
          have w8 : IntKind.i64.wrap (8 + (S : Int)) = 8 + (S : Int) := by rw [IntKind.wrap_i64]; omega
          have z8 : (0 : Int) ≤ 8 + (S : Int) := by omega
          have y8 : (8 : Int) ≤ 8 + (S : Int) := by omega
          have t8 : (8 + (S : Int)).toNat = 8 + S := by omega
          have Hown2 := Lib.hid (World.ownsRow_lit (base := w.heap.size) (e := 5) (size := 1) w M S (Nat.le_refl _) (by simp only [maxLen]; omega) (by have := HMs.out; omega))
          have Hr2 := Lib.hid (Hrest.out.alloc HB.out (.cells M 5))
          obtain ⟨w2, hcp2, hown3, hg2⟩ := run_copy_own (P := Try.prog) (w := (w.alloc (.cells M 5)).drew) (t := 47) (ty := 3) Try.underlying47 u8_one Hown2.out (D := some ⟨w.heap.size, 0, none⟩) (dl := S) S (o := 0) (c - 8) (fun _ => rfl) (by omega) Hr2.out (byteCells_one _)
          have Hown3 : Hid (w2.ownsRow w.heap.size 5 1 (.slice (some ⟨w.heap.size, 0, none⟩) S S) S (byteCells (payAt l))) := Lib.hid (own_row hown3 rfl (by
            have e0 : List.drop (0 + min (n - 8) S) M.toList = [] := List.drop_eq_nil_of_le (by rw [Array.length_toList]; have := HMs.out; omega)
            rw [e0, List.take_zero, List.nil_append, byteCells_take, List.append_nil, payAt, HS.out]))
          have Hb2 : Hid (Below w.heap.size w w2) := Lib.hid (((Below.refl w.heap.size w).alloc (Nat.le_refl _) _).drew.grown hg2 (by simp) fun k hk => by injection hk with hk; omega)
          clear hown3 hg2
          go_enter Try.func37, Try.ntmps37
          go_wp2_with fail
          refine (Hget0.out _ H.out).mono ?_
          rintro e w' ⟨rfl, rfl⟩
          go_wp2_with fail
          refine (Hget4.out _ H.out).mono ?_
          rintro e w' ⟨rfl, rfl⟩
          go_wp2
          go_region_held3 (fun _ => True) (trivial)
            (first
              | (go_at_call 39; refine (Hsum.out _ ?_ ?_).mono ?_; exact H4.out; exact Hpay.out; rintro e w3 ⟨rfl, rfl⟩))
          go_wp2
          go_ret3
          exact first_ok He.out HS.out Hown3.out rfl Hb2.out
        · have He : Hid (firstErr l = 5) := Lib.hid (by unfold firstErr; rw [hl, hS, hU, hT, if_neg h8, if_neg hbig, if_neg hsh, if_neg hok])
          clear h hl hS hT h4 hrest hpay hU hB hMs
          have hne : ((U : Int) != (T : Int)) = true := by simp; omega
          have c8 : (8 : Int) ≤ (c : Int) := by omega
          have n4 : (4 : Int) ≤ (c : Int) := by omega
          have n8 : (8 : Int) + (S : Int) ≤ (c : Int) := by omega
          have w8 : IntKind.i64.wrap (8 + (S : Int)) = 8 + (S : Int) := by rw [IntKind.wrap_i64]; omega
          have z8 : (0 : Int) ≤ 8 + (S : Int) := by omega
          have y8 : (8 : Int) ≤ 8 + (S : Int) := by omega
          have t8 : (8 + (S : Int)).toNat = 8 + S := by omega
          go_enter Try.func37, Try.ntmps37
          go_wp2_with fail
          refine (Hget0.out _ H.out).mono ?_
          rintro e w' ⟨rfl, rfl⟩
          go_wp2_with fail
          refine (Hget4.out _ H.out).mono ?_
          rintro e w' ⟨rfl, rfl⟩
          go_wp2
          go_region_held3 (fun _ => True) (trivial)
            (first
              | (go_at_call 39; refine (Hsum.out _ ?_ ?_).mono ?_; exact H4.out; exact Hpay.out; rintro e w3 ⟨rfl, rfl⟩))
          all_goals go_wp2
          all_goals go_ret3
          all_goals exact first_err (k := 5) He.out (by decide) (Below.refl _ _).drew

end Go.Proofs.Ytghcmlipbmmfjaa
