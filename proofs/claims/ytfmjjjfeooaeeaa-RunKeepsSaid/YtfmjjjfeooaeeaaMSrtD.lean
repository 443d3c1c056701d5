/- run.Make gives what the plain text (SpecRun) gives. Condition: the changes are in memory, a million at most, with texts that fit. -/
import Derived.Test.YtfmjjjfeooaeeaaMSrtB
import Derived.Test.YtfmjjjfeooaeeaaMSrtC
import Derived.Test.YtfmjjjfeooaeeaaMSrtA
namespace Go.Proofs.Ytfmjjjfeooaeeaa
open Go.RowKit

theorem sym_any (v : Value) (B N : Nat) (hNs : N ≤ 1000000) : ∀ (d a m b : Nat) (P X Y Q : List Chg) (w : World), b - a ≤ d → OwnChs w B v (P ++ (X ++ (Y ++ Q))) → (P ++ (X ++ (Y ++ Q))).length = N → P.length = a → a + X.length = m → m + Y.length = b → 0 < X.length → 0 < Y.length → Sle X → Sle Y →
    Calls Try.prog 99 #[v, .int .i64 (a : Int), .int .i64 (m : Int), .int .i64 (b : Int), .func (.func 48) #[] #[]] w fun e w' => e = .returned (.tuple #[]) ∧ (∃ Z, Mrg X Y Z ∧ OwnChs w' B v (P ++ (Z ++ Q))) ∧ Below B w w'
  | 0, a, m, b, P, X, Y, Q, w, hd, h, hN, hP, hX, hY, hx, hy, hsX, hsY => by omega
  | d + 1, a, m, b, P, X, Y, Q, w, hd, h, hN, hP, hX, hY, hx, hy, hsX, hsY => by
    by_cases h1 : X.length = 1
    · obtain ⟨x, rfl⟩ := List.length_eq_one_iff.1 h1
      exact sym_one v B a m b N P Y Q x w h hN hP (by simpa using hX) hY hsY hNs
    · by_cases h2 : Y.length = 1
      · obtain ⟨y, rfl⟩ := List.length_eq_one_iff.1 h2
        exact sym_last v B a m b N P X Q y w h hN hP hX (by simpa using hY) (by omega) hsX hNs
      · exact sym_main v B a m b N P X Y Q w h hN hP hX hY (by omega) (by omega) hsX hsY hNs fun a' m' b' P' X' Y' Q' w' hd' h' hN' hP' hX' hY' hx' hy' hsX' hsY' => sym_any v B N hNs d a' m' b' P' X' Y' Q' w' (by omega) h' hN' hP' hX' hY' hx' hy' hsX' hsY'
end Go.Proofs.Ytfmjjjfeooaeeaa

namespace Go.Proofs.Ytfmjjjfeooaeeaa
open Go.RowKit
open Go.Lib (strCells compareBytes)

set_option maxRecDepth 100000 in
set_option maxHeartbeats 6400000 in
theorem stable_any (v : Value) (B N : Nat) (L : List Chg) (w : World) (h : OwnChs w B v L) (hN : L.length = N) (hNs : N ≤ 1000000) :
    Calls Try.prog 75 #[v, .int .i64 (N : Int), .func (.func 48) #[] #[]] w fun e w' => e = .returned (.tuple #[]) ∧ (∃ Z, Sle Z ∧ SameF Z L ∧ OwnChs w' B v Z) ∧ Below B w w' := by
  have H := Lib.hid h
  have HN := Lib.hid hN
  clear h hN
  go_enter Try.func75, Try.ntmps75
  go_wp2
  go_loopw [7, 8] (fun av bv wr => ∃ (a b q : Nat) (M : List Chg), av = .int .i64 (a : Int) ∧ bv = .int .i64 (b : Int) ∧ a ≤ N ∧ b ≤ N + 20 ∧ Hid (a = q * 20 ∧ b = a + 20 ∧ Bs 20 q M ∧ SameF M L) ∧ OwnChs wr B v M ∧ Below B w wr) (fun av _ _ => N - (intOf av).toNat)
  case atStart => exact ⟨0, 20, 0, L, rfl, rfl, by omega, by omega, Lib.hid ⟨rfl, rfl, fun p hp => by omega, SameF.refl _⟩, H.out, Below.refl _ _⟩
  case round =>
    obtain ⟨a, b, q, M, rfl, rfl, haN, hbN, Hp, ho, hbl⟩ := hrel
    have Ho := Lib.hid ho
    have Hb := Lib.hid hbl
    have HM : Hid (M.length = N) := Lib.hid (by rw [Hp.out.2.2.2.1, HN.out])
    clear ho hbl H
    by_cases hlt : b ≤ N
    · obtain ⟨P, D, Q, hM, hPl, hDl, -⟩ := cut3 (M := M) (a := a) (s := 20) (by have := HM.out; have := Hp.out.2.1; omega)
      subst hM
      have Hc := Lib.hid (ins_any v B a b N P D Q wr Ho.out HM.out hPl (by have := Hp.out.2.1; omega) hNs)
      have HS : Hid (∀ Z, Sle Z → SameF Z D → Bs 20 (q + 1) (P ++ (Z ++ Q)) ∧ SameF (P ++ (Z ++ Q)) L) := Lib.hid fun Z h1 h2 =>
        ⟨Hp.out.2.2.1.step (by rw [hPl, Hp.out.1]) h1 (by rw [h2.1, hDl]), same_mid Hp.out.2.2.2 h2⟩
      clear hPl hDl
      go_wp2_with fail
      refine Hc.out.mono ?_
      rintro e w2 ⟨rfl, ⟨Z, hz1, hz2, ho2⟩, hb2⟩
      have Hs := Lib.hid (HS.out Z hz1 hz2)
      have Hend := Lib.hid (And.intro ho2 (Hb.out.trans hb2))
      clear hz1 hz2 ho2 hb2
      go_wp2
      go_roundw
      case rel => exact ⟨b, b + 20, q + 1, _, rfl, by go_num, by omega, by omega, Lib.hid ⟨by have h1 := Hp.out.1; have h2 := Hp.out.2.1; omega, rfl, Hs.out.1, Hs.out.2⟩, Hend.out.1, Hend.out.2⟩
      case measure => simp [intOf]; have := Hp.out.2.1; omega
    · obtain ⟨P, D, Q, hM, hPl, hDl, hQl⟩ := cut3 (M := M) (a := a) (s := N - a) (by have := HM.out; omega)
      obtain rfl : Q = [] := List.eq_nil_of_length_eq_zero (by have := HM.out; omega)
      subst hM
      have Hc := Lib.hid (ins_any v B a N N P D [] wr Ho.out HM.out hPl (by omega) hNs)
      have HS : Hid (∀ Z, Sle Z → SameF Z D → Bge 20 0 (P ++ (Z ++ [])) ∧ SameF (P ++ (Z ++ [])) L) := Lib.hid fun Z h1 h2 => by
        refine ⟨?_, same_mid Hp.out.2.2.2 h2⟩
        have h3 := Hp.out.2.2.1
        rw [List.append_nil] at h3 ⊢
        exact h3.last (by rw [hPl, Hp.out.1]) h1 (by rw [h2.1, hDl]; have := Hp.out.2.1; omega)
      have hbN2 : N < b := by omega
      clear hPl hDl hQl Hp HM
      go_wp2_with fail
      refine Hc.out.mono ?_
      rintro e w2 ⟨rfl, ⟨Z, hz1, hz2, ho2⟩, hb2⟩
      have Hs := Lib.hid (HS.out Z hz1 hz2)
      have Hend := Lib.hid (And.intro ho2 (Hb.out.trans hb2))
      clear hz1 hz2 ho2 hb2 Ho Hb HS Hc
      generalize P ++ (Z ++ []) = M0 at Hs Hend
      generalize wr = wa at *
      go_wp2
      go_loopw [6, 7, 8, 9] (fun sv _ _ _ wr => ∃ (s : Nat) (M : List Chg), sv = .int .i64 (s : Int) ∧ 0 < s ∧ s ≤ 2000020 ∧ Hid (Bge s 0 M ∧ SameF M L) ∧ OwnChs wr B v M ∧ Below B w wr) (fun sv _ _ _ _ => N - (intOf sv).toNat)
      case atStart => exact ⟨20, M0, rfl, by omega, by omega, Hs, Hend.out.1, Hend.out.2⟩
      case round =>
        obtain ⟨s, M, rfl, hs0, hs2, Hp, ho, hbl⟩ := hrel
        have Ho := Lib.hid ho
        have Hb := Lib.hid hbl
        clear ho hbl Hs Hend
        by_cases hsN : s < N
        · generalize wr = wb at *
          have h2s : IntKind.i64.wrap (2 * (s : Int)) = 2 * (s : Int) := by rw [IntKind.wrap_i64]; omega
          go_wp2
          go_loopw [7, 8] (fun av bv wr => ∃ (a b q : Nat) (M : List Chg), av = .int .i64 (a : Int) ∧ bv = .int .i64 (b : Int) ∧ a ≤ N ∧ b ≤ 4000000 ∧ Hid (a = q * (2 * s) ∧ b = a + 2 * s ∧ Bs (2 * s) q M ∧ Bge s (2 * q) M ∧ SameF M L) ∧ OwnChs wr B v M ∧ Below B w wr) (fun av _ _ => N - (intOf av).toNat)
          case atStart => exact ⟨0, 2 * s, 0, M, rfl, by go_num, by omega, by omega, Lib.hid ⟨by omega, by omega, fun p hp => by omega, Hp.out.1, Hp.out.2⟩, Ho.out, Hb.out⟩
          case round =>
            clear Ho Hb Hp
            obtain ⟨a, b, q, M, rfl, rfl, haN, hb4, Hp, ho, hbl⟩ := hrel
            have Ho := Lib.hid ho
            have Hb := Lib.hid hbl
            have HM : Hid (M.length = N) := Lib.hid (by rw [Hp.out.2.2.2.2.1, HN.out])
            clear ho hbl
            obtain ⟨m, hm⟩ : ∃ m, a + s = m := ⟨_, rfl⟩
            have hmi : (a : Int) + (s : Int) = (m : Int) := by omega
            have hm2 : m ≤ 2000000 := by omega
            by_cases hlt : b ≤ N
            · obtain ⟨P, X, Y, Q, hM, hPl, hXl, hYl, -⟩ := cut4 (M := M) (a := a) (s := s) (t := s) (by have := HM.out; have := Hp.out.2.1; omega)
              subst hM
              have hsl := pair_sle (q := q) (hPl.trans Hp.out.1) hXl (.inl hYl) Hp.out.2.2.2.1
              have Hc := Lib.hid (sym_any v B N hNs (b - a) a m b P X Y Q wr (Nat.le_refl _) Ho.out HM.out hPl (by omega) (by have := Hp.out.2.1; omega) (by omega) (by omega) hsl.1 hsl.2)
              have HS : Hid (∀ Z, Mrg X Y Z → (Bs (2 * s) (q + 1) (P ++ (Z ++ Q)) ∧ Bge s (2 * (q + 1)) (P ++ (Z ++ Q))) ∧ SameF (P ++ (Z ++ Q)) L) := Lib.hid fun Z hz =>
                ⟨pair_step (hPl.trans Hp.out.1) hXl hYl hz Hp.out.2.2.1 Hp.out.2.2.2.1, same_mid (D := X ++ Y) (by rw [List.append_assoc]; exact Hp.out.2.2.2.2) hz.same⟩
              have Hab := Lib.hid (And.intro Hp.out.1 Hp.out.2.1)
              clear hPl hXl hYl hsl hm Hp HM Ho
              go_wp2_with fail
              refine Hc.out.mono ?_
              rintro e w2 ⟨rfl, ⟨Z, hz, ho2⟩, hb2⟩
              have Hs := Lib.hid (HS.out Z hz)
              have Hend := Lib.hid (And.intro ho2 (Hb.out.trans hb2))
              clear hz ho2 hb2
              go_wp2
              go_roundw
              case rel => exact ⟨b, b + 2 * s, q + 1, _, rfl, by go_num, by omega, by omega, Lib.hid ⟨by have h1 := Hab.out.1; have h2 := Hab.out.2; rw [Nat.succ_mul]; omega, rfl, Hs.out.1.1, Hs.out.1.2, Hs.out.2⟩, Hend.out.1, Hend.out.2⟩
              case measure => simp [intOf]; have := Hab.out.2; omega
            · have hbN : ¬ ((b : Int) ≤ (N : Int)) := by omega
              have hbb : b = a + 2 * s := Hp.out.2.1
              by_cases hmN : m < N
              · obtain ⟨P, X, Y, Q, hM, hPl, hXl, hYl, hQl⟩ := cut4 (M := M) (a := a) (s := s) (t := N - m) (by have := HM.out; omega)
                obtain rfl : Q = [] := List.eq_nil_of_length_eq_zero (by have := HM.out; omega)
                subst hM
                have hsl := pair_sle (q := q) (hPl.trans Hp.out.1) hXl (.inr ⟨by omega, rfl⟩) Hp.out.2.2.2.1
                have Hc := Lib.hid (sym_any v B N hNs (N - a) a m N P X Y [] wr (Nat.le_refl _) Ho.out HM.out hPl (by omega) (by omega) (by omega) (by omega) hsl.1 hsl.2)
                have HS : Hid (∀ Z, Mrg X Y Z → Bge (2 * s) 0 (P ++ (Z ++ [])) ∧ SameF (P ++ (Z ++ [])) L) := Lib.hid fun Z hz => by
                  refine ⟨?_, same_mid (D := X ++ Y) (by rw [List.append_assoc]; exact Hp.out.2.2.2.2) hz.same⟩
                  have h3 := Hp.out.2.2.1
                  rw [List.append_nil] at h3 ⊢
                  exact pair_last (hPl.trans Hp.out.1) hXl (by omega) hz h3
                clear hPl hXl hYl hQl hsl hm Hp HM Ho hbb
                go_wp2_with fail
                refine Hc.out.mono ?_
                rintro e w2 ⟨rfl, ⟨Z, hz, ho2⟩, hb2⟩
                have Hs := Lib.hid (HS.out Z hz)
                have Hend := Lib.hid (And.intro ho2 (Hb.out.trans hb2))
                clear hz ho2 hb2
                go_wp2
                go_roundw
                case rel => exact ⟨2 * s, _, by go_num, by omega, by omega, Hs, Hend.out.1, Hend.out.2⟩
                case measure => simp [intOf]; omega
              · obtain ⟨P, X, Q, hM, hPl, hXl, hQl⟩ := cut3 (M := M) (a := a) (s := N - a) (by have := HM.out; omega)
                obtain rfl : Q = [] := List.eq_nil_of_length_eq_zero (by have := HM.out; omega)
                subst hM
                have Hs : Hid (Bge (2 * s) 0 (P ++ (X ++ [])) ∧ SameF (P ++ (X ++ [])) L) := Lib.hid ⟨by
                  have h3 := Hp.out.2.2.1
                  have h4 := Hp.out.2.2.2.1
                  rw [List.append_nil] at h3 h4 ⊢
                  exact pair_none (hPl.trans Hp.out.1) (by omega) h3 h4, Hp.out.2.2.2.2⟩
                clear hPl hXl hQl hm Hp HM hbb
                go_wp2
                go_roundw
                case rel => exact ⟨2 * s, _, by go_num, by omega, by omega, Hs, Ho.out, Hb.out⟩
                case measure => simp [intOf]; omega
        · have HZ : Hid (Sle M) := Lib.hid (blk_all Hp.out.1 (by rw [Hp.out.2.1, HN.out]; omega))
          go_wp2
          go_end0
          exact ⟨rfl, ⟨M, HZ.out, Hp.out.2, Ho.out⟩, Hb.out⟩

set_option maxRecDepth 100000 in
theorem sortStable_any (v : Value) (B : Nat) (L : List Chg) (w : World) (h : OwnChs w B v L) (hNs : L.length ≤ 1000000) :
    Calls Try.prog 47 #[v, .func (.func 48) #[] #[]] w fun e w' => e = .returned (.tuple #[]) ∧ (∃ Z, Sle Z ∧ SameF Z L ∧ OwnChs w' B v Z) ∧ Below B w w' := by
  have Hc := Lib.hid (stable_any v B L.length L w h rfl hNs)
  obtain ⟨A, c, rfl, -, -, -⟩ := h.slice
  clear h
  obtain ⟨N, hN⟩ : ∃ N, L.length = N := ⟨_, rfl⟩
  rw [hN] at Hc ⊢
  clear hN
  go_enter Try.func47, Try.ntmps47
  go_wp2_with fail
  refine Hc.out.mono ?_
  rintro e w2 ⟨rfl, h2, hb2⟩
  have Hend := Lib.hid (And.intro h2 hb2)
  clear h2 hb2
  go_wp2
  go_end0
  exact ⟨rfl, Hend.out.1, Hend.out.2⟩
end Go.Proofs.Ytfmjjjfeooaeeaa

namespace Go.Proofs.Ytfmjjjfeooaeeaa
open Go.RowKit
open Go.Lib (strCells compareBytes)

theorem lasts_skip {l : List Chg} {i : Nat} {c d : Chg} (hc : l[i]? = some c) (hd : l[i + 1]? = some d) (he : d.kb = c.kb) : lasts (l.drop i) = lasts (l.drop (i + 1)) := by
  rw [lasts_drop hc, hd]
  simp [he]
theorem lasts_keep {l : List Chg} {i : Nat} {c : Chg} (hc : l[i]? = some c) (h : ∀ d, l[i + 1]? = some d → d.kb ≠ c.kb) : lasts (l.drop i) = [tidy c] ++ lasts (l.drop (i + 1)) := by
  rw [lasts_drop hc]
  cases hd : l[i + 1]? with
  | none => rfl
  | some d => simp [h d hd]
theorem lasts_len : ∀ (l : List Chg), (lasts l).length ≤ l.length
  | [] => by simp [lasts]
  | [c] => by simp [lasts]
  | c :: d :: r => by
    have := lasts_len (d :: r)
    unfold lasts
    split
    · simp only [List.length_cons] at this ⊢; omega
    · simp only [List.length_cons] at this ⊢; omega
theorem SameF.mem {X Y : List Chg} (h : SameF X Y) {c : Chg} (hc : c ∈ X) : c ∈ Y := by
  have h1 : c ∈ X.filter fun d => decide (d.kb = c.kb) := List.mem_filter.2 ⟨hc, by simp⟩
  rw [h.2] at h1
  exact (List.mem_filter.1 h1).1

set_option maxRecDepth 100000 in
set_option maxHeartbeats 6400000 in
theorem make_any (A : Option Addr) (n ca C : Nat) (l : List Chg) (w : World) (h : HasChs w C A n l) (hC : C ≤ w.heap.size) (hn : n ≤ 1000000) (hs : ∀ x ∈ l, x.k.size ≤ 140737488355328 ∧ x.v.size ≤ 140737488355328) :
    Calls Try.prog 13 #[.slice A n ca] w (GivesC w.heap.size (makeL l) w) := by
  have hl := h.1
  have Hc := Lib.hid (slicesClone_any A n ca C l w h hn hC)
  have Hsz := Lib.hid hs
  clear h hs hC
  go_enter Try.func13, Try.ntmps13
  go_wp2_with fail
  refine Hc.out.mono ?_
  rintro e w1 ⟨v1, rfl, ho1, hb1⟩
  have Hb1 := Lib.hid hb1
  have hsz1 := hb1.size
  have Hst := Lib.hid (sortStable_any v1 w.heap.size l w1 ho1 (by omega))
  clear Hc ho1 hb1
  go_wp2_with fail
  refine Hst.out.mono ?_
  rintro e w2 ⟨rfl, ⟨Z, hz1, hz2, ho2⟩, hb2⟩
  have Hmk : Hid (lasts Z = makeL l) := Lib.hid (lasts_same hz1 hz2)
  have Hsz2 : Hid (∀ x ∈ Z, x.k.size ≤ 140737488355328 ∧ x.v.size ≤ 140737488355328) := Lib.hid fun x hx => Hsz.out x (hz2.mem hx)
  have Hb2 := Lib.hid (Hb1.out.trans hb2)
  have hsz2 : w.heap.size ≤ w2.heap.size := Hb2.out.size
  obtain ⟨A2, c2, rfl, hNc, hcm, hx2⟩ := ho2.slice
  obtain ⟨N, hN⟩ : ∃ N, Z.length = N := ⟨_, rfl⟩
  have hNn : N ≤ 1000000 := by rw [← hN, hz2.1]; omega
  rw [hN] at hx2 ⊢
  have H := Lib.hid hx2
  clear hz1 hz2 ho2 hb2 hx2 Hst Hsz hN hNc hcm hl hn
  go_wp2
  go_loopw [4, 5, 6, 13] (fun mv _ _ iv wr => ∃ (k : Nat) (M : List Chg), k ≤ N ∧ iv = .int .i64 (k : Int) ∧ OwnChs wr w2.heap.size mv M ∧ Hid (M ++ lasts (Z.drop k) = lasts Z ∧ M.length ≤ k) ∧ Below w2.heap.size w2 wr) (fun _ _ _ iv _ => N - (intOf iv).toNat)
  case atStart => exact ⟨0, [], by omega, rfl, OwnChs.nil _ _, Lib.hid ⟨rfl, by simp⟩, Below.refl _ _⟩
  case round =>
    obtain ⟨k, M, hk, rfl, ho, Hp, hb⟩ := hrel
    have Ho := Lib.hid ho
    have Hb := Lib.hid hb
    have hsz := hb.size
    clear ho hb
    by_cases hlt : k < N
    · obtain ⟨a, y, rfl, hab, hy, c0, c1, c2'⟩ := (H.out.belowOf Hb.out (Nat.le_refl _)).at_ hlt
      have Hy := Lib.hid hy
      have hys := Hsz2.out y (List.mem_of_getElem? hy)
      have hk0 : (0 : Int) ≤ (k : Int) := by omega
      have hk1 : (k : Int) < (N : Int) := by omega
      obtain ⟨yk, yv, yg⟩ := y
      simp only at c0 c1 c2' hys
      have hwk : IntKind.i64.wrap ((k : Int) + 1) = (k : Int) + 1 := by rw [IntKind.wrap_i64]; omega
      clear hy
      by_cases hlast : k + 1 < N
      · obtain ⟨a', d, e', hab', hd, d0, -, -⟩ := (H.out.belowOf Hb.out (Nat.le_refl _)).at_ (i := k + 1) hlast
        injection e' with e'
        subst e'
        have Hd := Lib.hid hd
        obtain ⟨dk, dv, dg⟩ := d
        simp only at d0
        have d1 : ∀ o, (wr.alloc o).cell? (a.add ((k + 1) * 3)) = some (.string dk) := fun o => (World.cell?_alloc_lt wr o _ (by rw [addr_block]; omega)).trans d0
        have hk2 : (0 : Int) ≤ (k : Int) + 1 := by omega
        have hk3 : (k : Int) + 1 < (N : Int) := by omega
        have hg : decide ((k : Int) + 1 < (N : Int)) = true := decide_eq_true hk3
        have htn : ((k : Int) + 1).toNat = k + 1 := by omega
        clear hd d0
        by_cases he : dk.data.toList = yk.data.toList
        · have he1 : (dk.toList == yk.toList) = true := by rw [eq_toList]; exact decide_eq_true he
          have Hn : Hid (M ++ lasts (Z.drop (k + 1)) = lasts Z) := Lib.hid (by rw [← lasts_skip Hy.out Hd.out he]; exact Hp.out.1)
          clear he
          go_wp2
          go_quiet (fail)
          go_wp2
          go_roundw
          case rel => exact ⟨k + 1, M, by omega, by go_num, (Ho.out.below (below_box _)).below (below_dr (Below.refl _ _) _), Lib.hid ⟨Hn.out, by have := Hp.out.2; omega⟩, below_dr (Hb.out.alloc hsz _) _⟩
          case measure => simp [intOf]; omega
        · have he1 : (dk.toList == yk.toList) = false := by rw [eq_toList]; exact decide_eq_false he
          have Hn : Hid ((M ++ [tidy ⟨yk, yv, yg⟩]) ++ lasts (Z.drop (k + 1)) = lasts Z) := Lib.hid (by
            rw [List.append_assoc, ← lasts_keep Hy.out fun d hd => by rw [Hd.out] at hd; injection hd with hd; subst hd; exact he]
            exact Hp.out.1)
          clear he
          cases yg with
          | false =>
            rw [show tidy ⟨yk, yv, false⟩ = ⟨yk, yv, false⟩ from rfl] at Hn
            have Hcl := Lib.hid (fun wx => cloneC_any ⟨yk, yv, false⟩ wx hys.1 hys.2)
            unfold cagg at Hcl
            have hbx := fun q => (Box.made wr 38 #[.string yk, .string yv, .bool false]).below (below_dr (Below.refl (wr.heap.size + 1) _) q) (by omega)
            have b0 := fun q => (cells_box (hbx q)).1
            have b1 := fun q => (cells_box (hbx q)).2.1
            have b2 := fun q => (cells_box (hbx q)).2.2.1
            clear hbx
            go_wp2
            go_quiet (fail)
            go_wp2_with fail
            refine (Hcl.out _).mono ?_
            rintro e w3 ⟨rfl, hb3⟩
            have Ho3 := Lib.hid ((Ho.out.below (below_box (Obj.cells #[.string yk, .string yv, .bool false] 38))).below ((below_dr (Below.refl _ _) _).trans hb3))
            have Hb3 := Lib.hid (Hb.out.trans (((below_box (Obj.cells #[.string yk, .string yv, .bool false] 38)).trans ((below_dr (Below.refl (wr.heap.size) (wr.alloc (Obj.cells #[.string yk, .string yv, .bool false] 38))) _).trans (hb3.mono (by show wr.heap.size ≤ (wr.alloc _).heap.size; simp only [World.size_alloc]; omega)))).mono hsz))
            have hsz3 : w2.heap.size ≤ w3.heap.size := Hb3.out.size
            have hszA : w2.heap.size ≤ (w3.alloc (Obj.cells #[.string yk, .string yv, .bool false] 38)).heap.size := by simp only [World.size_alloc]; omega
            clear hb3 b0 b1 b2 c0 c1 c2'
            go_wp2_with (at_builtin; refine wpList_append_hasN rfl (.tmp 37) (.tmp 40) _ rfl 38 chg_elem (by omega) Try.underlying22 rfl (own_belowN Ho3.out (below_box _)) rfl (chg_lit w3 ⟨yk, yv, false⟩) (chgCells_one _) (by have := Hp.out.2; simp only [maxLen]; omega) (by have := Hp.out.2; omega) hszA ?_; intro v4 w4 hown4 hg4 _)
            have Hb4 := Lib.hid (below_ownN (Hb3.out.alloc hsz3 (Obj.cells #[.string yk, .string yv, .bool false] 38)) (own_belowN Ho3.out (below_box _)) hg4 hszA)
            have Hown4 := Lib.hid hown4
            clear hg4 hown4
            go_wp2
            go_roundw
            case rel => exact ⟨k + 1, M ++ [⟨yk, yv, false⟩], by omega, by go_num, by unfold OwnChs; rw [List.length_append, chgCells_app]; exact Hown4.out, Lib.hid ⟨Hn.out, by have := Hp.out.2; rw [List.length_append]; simp; omega⟩, Hb4.out⟩
            case measure => simp [intOf]; omega
          | true =>
            rw [show tidy ⟨yk, yv, true⟩ = ⟨yk, ⟨#[]⟩, true⟩ from rfl] at Hn
            have Hcl := Lib.hid (fun wx => cloneC_any ⟨yk, ⟨#[]⟩, true⟩ wx hys.1 (by show 0 ≤ _; omega))
            unfold cagg at Hcl
            have hbx := fun q => (Box.made wr 38 #[.string yk, .string yv, .bool true]).below (below_dr (Below.refl (wr.heap.size + 1) _) q) (by omega)
            have hbs := fun q => (hbx q).set_ 1 (.string ⟨#[]⟩)
            have b2 := fun q => (cells_box (hbx q)).2.2.1
            have b1 := fun q => (cells_box (hbx q)).2.1
            have b3 := fun q => (cells_box (hbx q)).2.2.2.2.1
            have s0 := fun q => (cells_box (hbs q)).1
            have s1 := fun q => (cells_box (hbs q)).2.1
            have s2 := fun q => (cells_box (hbs q)).2.2.1
            clear hbx hbs
            go_wp2
            go_quiet (fail)
            go_wp2_with fail
            refine (Hcl.out _).mono ?_
            rintro e w3 ⟨rfl, hb3⟩
            have Hst3 := Lib.hid (fun q => ((below_dr (Below.refl (wr.heap.size) (wr.alloc (Obj.cells #[.string yk, .string yv, .bool true] 38))) q).setCell (p := ⟨wr.heap.size, 1, none⟩) (Nat.le_refl _) (.string ⟨#[]⟩)))
            have Ho3 := Lib.hid (Ho.out.below ((below_box (Obj.cells #[.string yk, .string yv, .bool true] 38)).trans ((Hst3.out _).trans (hb3.mono (by simp only [World.setCell, Array.size_modify]; show wr.heap.size ≤ (wr.alloc _).heap.size; simp only [World.size_alloc]; omega)))))
            have Hb3 := Lib.hid (Hb.out.trans (((below_box (Obj.cells #[.string yk, .string yv, .bool true] 38)).trans ((Hst3.out _).trans (hb3.mono (by simp only [World.setCell, Array.size_modify]; show wr.heap.size ≤ (wr.alloc _).heap.size; simp only [World.size_alloc]; omega)))).mono hsz))
            have hsz3 : w2.heap.size ≤ w3.heap.size := Hb3.out.size
            have hszA : w2.heap.size ≤ (w3.alloc (Obj.cells #[.string yk, .string ⟨#[]⟩, .bool true] 38)).heap.size := by simp only [World.size_alloc]; omega
            clear hb3 b1 b2 b3 s0 s1 s2 c0 c1 c2'
            go_wp2_with (at_builtin; refine wpList_append_hasN rfl (.tmp 37) (.tmp 40) _ rfl 38 chg_elem (by omega) Try.underlying22 rfl (own_belowN Ho3.out (below_box _)) rfl (chg_lit w3 ⟨yk, ⟨#[]⟩, true⟩) (chgCells_one _) (by have := Hp.out.2; simp only [maxLen]; omega) (by have := Hp.out.2; omega) hszA ?_; intro v4 w4 hown4 hg4 _)
            have Hb4 := Lib.hid (below_ownN (Hb3.out.alloc hsz3 (Obj.cells #[.string yk, .string ⟨#[]⟩, .bool true] 38)) (own_belowN Ho3.out (below_box _)) hg4 hszA)
            have Hown4 := Lib.hid hown4
            clear hg4 hown4
            go_wp2
            go_roundw
            case rel => exact ⟨k + 1, M ++ [⟨yk, ⟨#[]⟩, true⟩], by omega, by go_num, by unfold OwnChs; rw [List.length_append, chgCells_app]; exact Hown4.out, Lib.hid ⟨Hn.out, by have := Hp.out.2; rw [List.length_append]; simp; omega⟩, Hb4.out⟩
            case measure => simp [intOf]; omega
      · have hg : decide ((k : Int) + 1 < (N : Int)) = false := decide_eq_false (by omega)
        have hlast2 : ¬ ((k : Int) + 1 < (N : Int)) := by omega
        have Hn : Hid ((M ++ [tidy ⟨yk, yv, yg⟩]) ++ lasts (Z.drop (k + 1)) = lasts Z) := Lib.hid (by
          rw [List.append_assoc, ← lasts_keep Hy.out fun d hd => by have h1 := (List.getElem?_eq_some_iff.1 hd).1; have h2 := H.out.1; omega]
          exact Hp.out.1)
        cases yg with
        | false =>
          rw [show tidy ⟨yk, yv, false⟩ = ⟨yk, yv, false⟩ from rfl] at Hn
          have Hcl := Lib.hid (fun wx => cloneC_any ⟨yk, yv, false⟩ wx hys.1 hys.2)
          unfold cagg at Hcl
          have hbx := fun q => (Box.made wr 38 #[.string yk, .string yv, .bool false]).below (below_dr (Below.refl (wr.heap.size + 1) _) q) (by omega)
          have b0 := fun q => (cells_box (hbx q)).1
          have b1 := fun q => (cells_box (hbx q)).2.1
          have b2 := fun q => (cells_box (hbx q)).2.2.1
          clear hbx
          go_wp2
          go_quiet (fail)
          go_wp2_with fail
          refine (Hcl.out _).mono ?_
          rintro e w3 ⟨rfl, hb3⟩
          have Ho3 := Lib.hid ((Ho.out.below (below_box (Obj.cells #[.string yk, .string yv, .bool false] 38))).below ((below_dr (Below.refl _ _) _).trans hb3))
          have Hb3 := Lib.hid (Hb.out.trans (((below_box (Obj.cells #[.string yk, .string yv, .bool false] 38)).trans ((below_dr (Below.refl (wr.heap.size) (wr.alloc (Obj.cells #[.string yk, .string yv, .bool false] 38))) _).trans (hb3.mono (by show wr.heap.size ≤ (wr.alloc _).heap.size; simp only [World.size_alloc]; omega)))).mono hsz))
          have hsz3 : w2.heap.size ≤ w3.heap.size := Hb3.out.size
          have hszA : w2.heap.size ≤ (w3.alloc (Obj.cells #[.string yk, .string yv, .bool false] 38)).heap.size := by simp only [World.size_alloc]; omega
          clear hb3 b0 b1 b2 c0 c1 c2'
          go_wp2_with (at_builtin; refine wpList_append_hasN rfl (.tmp 37) (.tmp 40) _ rfl 38 chg_elem (by omega) Try.underlying22 rfl (own_belowN Ho3.out (below_box _)) rfl (chg_lit w3 ⟨yk, yv, false⟩) (chgCells_one _) (by have := Hp.out.2; simp only [maxLen]; omega) (by have := Hp.out.2; omega) hszA ?_; intro v4 w4 hown4 hg4 _)
          have Hb4 := Lib.hid (below_ownN (Hb3.out.alloc hsz3 (Obj.cells #[.string yk, .string yv, .bool false] 38)) (own_belowN Ho3.out (below_box _)) hg4 hszA)
          have Hown4 := Lib.hid hown4
          clear hg4 hown4
          go_wp2
          go_roundw
          case rel => exact ⟨k + 1, M ++ [⟨yk, yv, false⟩], by omega, by go_num, by unfold OwnChs; rw [List.length_append, chgCells_app]; exact Hown4.out, Lib.hid ⟨Hn.out, by have := Hp.out.2; rw [List.length_append]; simp; omega⟩, Hb4.out⟩
          case measure => simp [intOf]; omega
        | true =>
          rw [show tidy ⟨yk, yv, true⟩ = ⟨yk, ⟨#[]⟩, true⟩ from rfl] at Hn
          have Hcl := Lib.hid (fun wx => cloneC_any ⟨yk, ⟨#[]⟩, true⟩ wx hys.1 (by show 0 ≤ _; omega))
          unfold cagg at Hcl
          have hbx := fun q => (Box.made wr 38 #[.string yk, .string yv, .bool true]).below (below_dr (Below.refl (wr.heap.size + 1) _) q) (by omega)
          have hbs := fun q => (hbx q).set_ 1 (.string ⟨#[]⟩)
          have b2 := fun q => (cells_box (hbx q)).2.2.1
          have b1 := fun q => (cells_box (hbx q)).2.1
          have b3 := fun q => (cells_box (hbx q)).2.2.2.2.1
          have s0 := fun q => (cells_box (hbs q)).1
          have s1 := fun q => (cells_box (hbs q)).2.1
          have s2 := fun q => (cells_box (hbs q)).2.2.1
          clear hbx hbs
          go_wp2
          go_quiet (fail)
          go_wp2_with fail
          refine (Hcl.out _).mono ?_
          rintro e w3 ⟨rfl, hb3⟩
          have Hst3 := Lib.hid (fun q => ((below_dr (Below.refl (wr.heap.size) (wr.alloc (Obj.cells #[.string yk, .string yv, .bool true] 38))) q).setCell (p := ⟨wr.heap.size, 1, none⟩) (Nat.le_refl _) (.string ⟨#[]⟩)))
          have Ho3 := Lib.hid (Ho.out.below ((below_box (Obj.cells #[.string yk, .string yv, .bool true] 38)).trans ((Hst3.out _).trans (hb3.mono (by simp only [World.setCell, Array.size_modify]; show wr.heap.size ≤ (wr.alloc _).heap.size; simp only [World.size_alloc]; omega)))))
          have Hb3 := Lib.hid (Hb.out.trans (((below_box (Obj.cells #[.string yk, .string yv, .bool true] 38)).trans ((Hst3.out _).trans (hb3.mono (by simp only [World.setCell, Array.size_modify]; show wr.heap.size ≤ (wr.alloc _).heap.size; simp only [World.size_alloc]; omega)))).mono hsz))
          have hsz3 : w2.heap.size ≤ w3.heap.size := Hb3.out.size
          have hszA : w2.heap.size ≤ (w3.alloc (Obj.cells #[.string yk, .string ⟨#[]⟩, .bool true] 38)).heap.size := by simp only [World.size_alloc]; omega
          clear hb3 b1 b2 b3 s0 s1 s2 c0 c1 c2'
          go_wp2_with (at_builtin; refine wpList_append_hasN rfl (.tmp 37) (.tmp 40) _ rfl 38 chg_elem (by omega) Try.underlying22 rfl (own_belowN Ho3.out (below_box _)) rfl (chg_lit w3 ⟨yk, ⟨#[]⟩, true⟩) (chgCells_one _) (by have := Hp.out.2; simp only [maxLen]; omega) (by have := Hp.out.2; omega) hszA ?_; intro v4 w4 hown4 hg4 _)
          have Hb4 := Lib.hid (below_ownN (Hb3.out.alloc hsz3 (Obj.cells #[.string yk, .string ⟨#[]⟩, .bool true] 38)) (own_belowN Ho3.out (below_box _)) hg4 hszA)
          have Hown4 := Lib.hid hown4
          clear hg4 hown4
          go_wp2
          go_roundw
          case rel => exact ⟨k + 1, M ++ [⟨yk, ⟨#[]⟩, true⟩], by omega, by go_num, by unfold OwnChs; rw [List.length_append, chgCells_app]; exact Hown4.out, Lib.hid ⟨Hn.out, by have := Hp.out.2; rw [List.length_append]; simp; omega⟩, Hb4.out⟩
          case measure => simp [intOf]; omega
    · obtain rfl : k = N := by omega
      have E : Hid (M = makeL l) := Lib.hid (by
        have h1 := Hp.out.1
        rw [List.drop_of_length_le (by have := H.out.1; omega)] at h1
        rw [← Hmk.out, ← h1]
        simp [lasts])
      rw [E.out] at Ho
      go_wp2
      go_ret
      exact ⟨_, rfl, own_baseN Ho.out hsz2, Hb2.out.trans (Hb.out.mono hsz2)⟩
end Go.Proofs.Ytfmjjjfeooaeeaa
