/- Rising and sinking in the heap of runs (container/heap's up and down). Condition: the heap is in memory. -/
import Derived.Test.YteioopcacpihpaaHpC
namespace Go.Proofs.Yteioopcacpihpaa
open Go.RowKit
open Go.Lib (strCells compareBytes)

def UpPost (C hb : Nat) (v : Value) (L : List Rst) (w : World) (w' : World) : Prop := ∃ L', HpSt w' C hb v L' ∧ HKeep C w w' ∧ L'.Perm L ∧ IsHeap ltR (gl L') L'.length
set_option maxRecDepth 100000 in
set_option maxHeartbeats 1600000 in
theorem up_any {w : World} {C hb : Nat} {v : Value} {L : List Rst} (h : HpSt w C hb v L) {j : Nat} (hj : j < L.length) (hu : UpI ltR (gl L) L.length j) (hL : L.length ≤ 100000) :
    Calls Try.prog 110 #[.iface 111 (.pointer (some ⟨hb, 0, none⟩)), .int .i64 (j : Int)] w fun e w' => e = .returned (.tuple #[]) ∧ UpPost C hb v L w w' := by
  have H := Lib.hid h
  have Hu := Lib.hid hu
  have Hj := Lib.hid (And.intro hj hL)
  clear h hu hj hL
  go_enter Try.func110, Try.ntmps110
  go_wp2
  go_loopw [1] (fun jv wr => ∃ (q : Nat) (L' : List Rst), jv = .int .i64 (q : Int) ∧ Hid (q < L'.length) ∧ HpSt wr C hb v L' ∧ HKeep C w wr ∧ Hid (L'.Perm L) ∧ Hid (UpI ltR (gl L') L'.length q)) (fun jv _ => (intOf jv).toNat)
  case atStart => exact ⟨j, L, rfl, Lib.hid Hj.out.1, H.out, HKeep.refl _ _, Lib.hid (List.Perm.refl _), Hu⟩
  case round =>
    obtain ⟨q, L', rfl, Hq, h, hk, Hp, Hu'⟩ := hrel
    have hm := fun f => meth_less h.cell f
    have H' := Lib.hid h
    have Hk := Lib.hid hk
    clear h hk
    by_cases hq0 : q = 0
    · subst hq0
      go_wp2
      go_end0
      exact ⟨rfl, L', H'.out, Hk.out, Hp.out, Hu'.out.stop (.inl rfl)⟩
    · obtain ⟨p, rfl⟩ : ∃ p, q = p + 1 := ⟨q - 1, by omega⟩
      clear hq0
      have hpn : p ≤ 100000 := by have h1 := Hq.out; rw [Hp.out.length_eq] at h1; have := Hj.out.2; omega
      have hne : ((p : Int) / 2 == (p : Int) + 1) = false := by simp; omega
      have hm3 : ∀ wx, Below wr.heap.size wr wx → ∀ f, (method (f + 1) 111 (.pointer (some ⟨hb, 0, none⟩)) "Swap").run Try.prog wx = .ok (134, v) wx := fun wx hx f => meth_swap (H'.out.below hx).cell f
      have Hl := Lib.hid (less_any H'.out (i := p + 1) (j := p / 2) Hq.out (by have := Hq.out; omega))
      obtain ⟨D, hD⟩ : ∃ D, decide (ltR (gl L' (p + 1)) (gl L' (p / 2))) = D := ⟨_, rfl⟩
      rw [hD] at Hl
      have HD := Lib.hid hD
      clear hD
      cases D with
      | false =>
        have Hend := Lib.hid (Hu'.out.stop (.inr (by rw [Nat.add_sub_cancel]; exact of_decide_eq_false HD.out)))
        go_wp2_with fail
        refine Hl.out.mono ?_
        rintro e w2 ⟨rfl, hb2⟩
        have Hb2 := Lib.hid hb2
        clear hb2
        go_wp2
        go_end0
        exact ⟨rfl, L', H'.out.below Hb2.out, Hk.out.trans (HKeep.of Hb2.out H'.out.size), Hp.out, Hend.out⟩
      | true =>
        have hlen := Hq.out
        have Hst := Lib.hid (Hu'.out.step ltR_weak (by omega) Hq.out (by rw [Nat.add_sub_cancel]; exact of_decide_eq_true HD.out))
        go_wp2_with fail
        refine Hl.out.mono ?_
        rintro e w2 ⟨rfl, hb2⟩
        have Hb2 := Lib.hid hb2
        have hm4 := fun f => hm3 w2 hb2 f
        clear hb2
        have Hs := Lib.hid (swap_any (H'.out.below Hb2.out) (i := p / 2) (j := p + 1) (by omega) hlen)
        go_wp2_with fail
        refine Hs.out.mono ?_
        rintro e w3 ⟨rfl, h3, k3⟩
        have H3 := Lib.hid h3
        have K3 := Lib.hid ((Hk.out.trans (HKeep.of Hb2.out H'.out.size)).trans k3)
        clear h3 k3 hm4 hm3
        rw [Nat.add_sub_cancel] at Hst
        go_wp2
        go_roundw
        case rel => exact ⟨p / 2, sw L' (p / 2) (p + 1), by go_num, Lib.hid (by rw [sw_len]; omega), H3.out, K3.out, Lib.hid ((sw_perm (by omega) hlen).trans Hp.out), Lib.hid (by rw [sw_len, gl_sw (by omega) hlen]; exact Hst.out)⟩
        case measure => simp [intOf]; omega
/-! ### down -/
def DownPost (C hb : Nat) (v : Value) (L : List Rst) (n : Nat) (w : World) (e : Ending) (w' : World) : Prop := ∃ b : Bool, e = .returned (.bool b) ∧ ∃ L', HpSt w' C hb v L' ∧ HKeep C w w' ∧ L'.Perm L ∧ IsHeap ltR (gl L') n ∧ ∀ k, n ≤ k → gl L' k = gl L k
set_option maxRecDepth 100000 in
set_option maxHeartbeats 3200000 in
theorem down_any {w : World} {C hb : Nat} {v : Value} {L : List Rst} (h : HpSt w C hb v L) {n : Nat} (hn : n + 1 = L.length) (hu : DownI ltR (gl L) n 0) (hL : L.length ≤ 100000) :
    Calls Try.prog 101 #[.iface 111 (.pointer (some ⟨hb, 0, none⟩)), .int .i64 0, .int .i64 (n : Int)] w (DownPost C hb v L n w) := by
  have H := Lib.hid h
  have Hu := Lib.hid hu
  have Hn := Lib.hid hn
  have hn10 : n ≤ 100000 := by omega
  clear h hu hL hn
  go_enter Try.func101, Try.ntmps101
  go_wp2
  go_loopw [7, 8, 9, 10] (fun jv _ _ _ wr => ∃ (q : Nat) (L' : List Rst), jv = .int .i64 (q : Int) ∧ Hid (q ≤ n) ∧ HpSt wr C hb v L' ∧ HKeep C w wr ∧ Hid (L'.Perm L) ∧ Hid (DownI ltR (gl L') n q) ∧ Hid (∀ k, n ≤ k → gl L' k = gl L k)) (fun jv _ _ _ _ => n - (intOf jv).toNat)
  case atStart => exact ⟨0, L, rfl, Lib.hid (by omega), H.out, HKeep.refl _ _, Lib.hid (List.Perm.refl _), Hu, Lib.hid fun _ _ => rfl⟩
  case round =>
    obtain ⟨q, L', rfl, Hq, h, hk, Hp, Hd, Hf⟩ := hrel
    have hm := fun f => meth_less h.cell f
    have H' := Lib.hid h
    have Hk := Lib.hid hk
    have hqn : q < L'.length := by have h1 := Hq.out; rw [Hp.out.length_eq]; have := Hn.out; omega
    have hln : n < L'.length := by rw [Hp.out.length_eq]; have := Hn.out; omega
    have hq10 : q ≤ 100000 := by have := Hq.out; omega
    clear h hk
    by_cases h1 : n ≤ 2 * q + 1
    · have Hend := Lib.hid (Hd.out.stop0 h1)
      go_wp2
      go_ret
      exact ⟨_, rfl, L', H'.out, Hk.out, Hp.out, Hend.out, Hf.out⟩
    · by_cases h2 : n ≤ 2 * q + 2
      · have Hlc := Lib.hid (LeastC.left ltR_weak (g := gl L') (n := n) (j := q) (by omega) (.inl h2))
        have Hl2 := Lib.hid (less_any H'.out (i := 2 * q + 1) (j := q) (by have := Hlc.out.2.1; omega) hqn)
        obtain ⟨D2, hD2⟩ : ∃ D, decide (ltR (gl L' (2 * q + 1)) (gl L' q)) = D := ⟨_, rfl⟩
        rw [hD2] at Hl2
        have HD2 := Lib.hid hD2
        have hm5 := fun f => meth_less H'.out.cell f
        have hm6 : ∀ wx, Below wr.heap.size wr wx → ∀ f, (method (f + 1) 111 (.pointer (some ⟨hb, 0, none⟩)) "Swap").run Try.prog wx = .ok (134, v) wx := fun wx hx f => meth_swap (H'.out.below hx).cell f
        clear hD2
        cases D2 with
        | false =>
          have Hend := Lib.hid (Hd.out.stop ltR_weak Hlc.out (of_decide_eq_false HD2.out))
          go_wp2_with fail
          refine Hl2.out.mono ?_
          rintro e w4 ⟨rfl, hb4⟩
          have Hb4 := Lib.hid hb4
          clear hb4 hm5 hm6
          go_wp2
          go_ret
          exact ⟨_, rfl, L', H'.out.below Hb4.out, Hk.out.trans (HKeep.of Hb4.out H'.out.size), Hp.out, Hend.out, Hf.out⟩
        | true =>
          have Hst := Lib.hid (Hd.out.step ltR_weak Hlc.out (of_decide_eq_true HD2.out))
          go_wp2_with fail
          refine Hl2.out.mono ?_
          rintro e w4 ⟨rfl, hb4⟩
          have Hb4 := Lib.hid hb4
          have hm7 := fun f => hm6 w4 hb4 f
          clear hb4
          have Hs := Lib.hid (swap_any (H'.out.below Hb4.out) (i := q) (j := 2 * q + 1) hqn (by have := Hlc.out.2.1; omega))
          go_wp2_with fail
          refine Hs.out.mono ?_
          rintro e w5 ⟨rfl, h5, k5⟩
          have H5 := Lib.hid h5
          have K5 := Lib.hid ((Hk.out.trans (HKeep.of Hb4.out H'.out.size)).trans k5)
          clear h5 k5 hm7 hm6 hm5
          go_wp2
          go_roundw
          case rel => exact ⟨2 * q + 1, sw L' q (2 * q + 1), by go_num, Lib.hid (by have := Hlc.out.2.1; omega), H5.out, K5.out, Lib.hid ((sw_perm hqn (by have := Hlc.out.2.1; omega)).trans Hp.out), Lib.hid (by rw [gl_sw hqn (by have := Hlc.out.2.1; omega)]; exact Hst.out), Lib.hid fun k hk => by rw [gl_sw hqn (by have := Hlc.out.2.1; omega)]; have := Hlc.out.2.1; unfold swf; rw [if_neg (by omega), if_neg (by omega)]; exact Hf.out k hk⟩
          case measure => simp [intOf]; have := Hlc.out.2.1; omega

      · have Hl1 := Lib.hid (less_any H'.out (i := 2 * q + 2) (j := 2 * q + 1) (by omega) (by omega))
        obtain ⟨D1, hD1⟩ : ∃ D, decide (ltR (gl L' (2 * q + 2)) (gl L' (2 * q + 1))) = D := ⟨_, rfl⟩
        rw [hD1] at Hl1
        have HD1 := Lib.hid hD1
        clear hD1
        cases D1 with
        | true =>
          have Hlc := Lib.hid (LeastC.right ltR_weak (g := gl L') (n := n) (j := q) (by omega) (of_decide_eq_true HD1.out))
          go_wp2_with fail
          refine Hl1.out.mono ?_
          rintro e w3 ⟨rfl, hb3⟩
          have H3 := Lib.hid (H'.out.below hb3)
          have Hk3 := Lib.hid (Hk.out.trans (HKeep.of hb3 H'.out.size))
          clear hb3 hm
          have Hl2 := Lib.hid (less_any H3.out (i := 2 * q + 2) (j := q) (by have := Hlc.out.2.1; omega) hqn)
          obtain ⟨D2, hD2⟩ : ∃ D, decide (ltR (gl L' (2 * q + 2)) (gl L' q)) = D := ⟨_, rfl⟩
          rw [hD2] at Hl2
          have HD2 := Lib.hid hD2
          have hm5 := fun f => meth_less H3.out.cell f
          have hm6 : ∀ wx, Below w3.heap.size w3 wx → ∀ f, (method (f + 1) 111 (.pointer (some ⟨hb, 0, none⟩)) "Swap").run Try.prog wx = .ok (134, v) wx := fun wx hx f => meth_swap (H3.out.below hx).cell f
          clear hD2
          cases D2 with
          | false =>
            have Hend := Lib.hid (Hd.out.stop ltR_weak Hlc.out (of_decide_eq_false HD2.out))
            go_wp2_with fail
            refine Hl2.out.mono ?_
            rintro e w4 ⟨rfl, hb4⟩
            have Hb4 := Lib.hid hb4
            clear hb4 hm5 hm6
            go_wp2
            go_ret
            exact ⟨_, rfl, L', H3.out.below Hb4.out, Hk3.out.trans (HKeep.of Hb4.out H3.out.size), Hp.out, Hend.out, Hf.out⟩
          | true =>
            have Hst := Lib.hid (Hd.out.step ltR_weak Hlc.out (of_decide_eq_true HD2.out))
            go_wp2_with fail
            refine Hl2.out.mono ?_
            rintro e w4 ⟨rfl, hb4⟩
            have Hb4 := Lib.hid hb4
            have hm7 := fun f => hm6 w4 hb4 f
            clear hb4
            have Hs := Lib.hid (swap_any (H3.out.below Hb4.out) (i := q) (j := 2 * q + 2) hqn (by have := Hlc.out.2.1; omega))
            go_wp2_with fail
            refine Hs.out.mono ?_
            rintro e w5 ⟨rfl, h5, k5⟩
            have H5 := Lib.hid h5
            have K5 := Lib.hid ((Hk3.out.trans (HKeep.of Hb4.out H3.out.size)).trans k5)
            clear h5 k5 hm7 hm6 hm5
            go_wp2
            go_roundw
            case rel => exact ⟨2 * q + 2, sw L' q (2 * q + 2), by go_num, Lib.hid (by have := Hlc.out.2.1; omega), H5.out, K5.out, Lib.hid ((sw_perm hqn (by have := Hlc.out.2.1; omega)).trans Hp.out), Lib.hid (by rw [gl_sw hqn (by have := Hlc.out.2.1; omega)]; exact Hst.out), Lib.hid fun k hk => by rw [gl_sw hqn (by have := Hlc.out.2.1; omega)]; have := Hlc.out.2.1; unfold swf; rw [if_neg (by omega), if_neg (by omega)]; exact Hf.out k hk⟩
            case measure => simp [intOf]; have := Hlc.out.2.1; omega

        | false =>
          have Hlc := Lib.hid (LeastC.left ltR_weak (g := gl L') (n := n) (j := q) (by omega) (.inr (of_decide_eq_false HD1.out)))
          go_wp2_with fail
          refine Hl1.out.mono ?_
          rintro e w3 ⟨rfl, hb3⟩
          have H3 := Lib.hid (H'.out.below hb3)
          have Hk3 := Lib.hid (Hk.out.trans (HKeep.of hb3 H'.out.size))
          clear hb3 hm
          have Hl2 := Lib.hid (less_any H3.out (i := 2 * q + 1) (j := q) (by have := Hlc.out.2.1; omega) hqn)
          obtain ⟨D2, hD2⟩ : ∃ D, decide (ltR (gl L' (2 * q + 1)) (gl L' q)) = D := ⟨_, rfl⟩
          rw [hD2] at Hl2
          have HD2 := Lib.hid hD2
          have hm5 := fun f => meth_less H3.out.cell f
          have hm6 : ∀ wx, Below w3.heap.size w3 wx → ∀ f, (method (f + 1) 111 (.pointer (some ⟨hb, 0, none⟩)) "Swap").run Try.prog wx = .ok (134, v) wx := fun wx hx f => meth_swap (H3.out.below hx).cell f
          clear hD2
          cases D2 with
          | false =>
            have Hend := Lib.hid (Hd.out.stop ltR_weak Hlc.out (of_decide_eq_false HD2.out))
            go_wp2_with fail
            refine Hl2.out.mono ?_
            rintro e w4 ⟨rfl, hb4⟩
            have Hb4 := Lib.hid hb4
            clear hb4 hm5 hm6
            go_wp2
            go_ret
            exact ⟨_, rfl, L', H3.out.below Hb4.out, Hk3.out.trans (HKeep.of Hb4.out H3.out.size), Hp.out, Hend.out, Hf.out⟩
          | true =>
            have Hst := Lib.hid (Hd.out.step ltR_weak Hlc.out (of_decide_eq_true HD2.out))
            go_wp2_with fail
            refine Hl2.out.mono ?_
            rintro e w4 ⟨rfl, hb4⟩
            have Hb4 := Lib.hid hb4
            have hm7 := fun f => hm6 w4 hb4 f
            clear hb4
            have Hs := Lib.hid (swap_any (H3.out.below Hb4.out) (i := q) (j := 2 * q + 1) hqn (by have := Hlc.out.2.1; omega))
            go_wp2_with fail
            refine Hs.out.mono ?_
            rintro e w5 ⟨rfl, h5, k5⟩
            have H5 := Lib.hid h5
            have K5 := Lib.hid ((Hk3.out.trans (HKeep.of Hb4.out H3.out.size)).trans k5)
            clear h5 k5 hm7 hm6 hm5
            go_wp2
            go_roundw
            case rel => exact ⟨2 * q + 1, sw L' q (2 * q + 1), by go_num, Lib.hid (by have := Hlc.out.2.1; omega), H5.out, K5.out, Lib.hid ((sw_perm hqn (by have := Hlc.out.2.1; omega)).trans Hp.out), Lib.hid (by rw [gl_sw hqn (by have := Hlc.out.2.1; omega)]; exact Hst.out), Lib.hid fun k hk => by rw [gl_sw hqn (by have := Hlc.out.2.1; omega)]; have := Hlc.out.2.1; unfold swf; rw [if_neg (by omega), if_neg (by omega)]; exact Hf.out k hk⟩
            case measure => simp [intOf]; have := Hlc.out.2.1; omega
end Go.Proofs.Yteioopcacpihpaa
