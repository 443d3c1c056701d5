/- Vals gives what the plain text (SpecCut) gives. Condition: the text is short. -/
import Derived.Test.YtdfhnjocpfjagaaTupS
import Derived.Test.YtdfhnjocpfjagaaBoxes
import Derived.Test.YtdfhnjocpfjagaaTupD
import Derived.RegionTactic
import Derived.ChangeAlike
import Derived.Laws.BitsAllLaws
import Derived.Outline
import Derived.Test.YtdfhnjocpfjagaaClone
namespace Go.Proofs.Ytdfhnjocpfjagaa
open Go.RowKit
open Go.Lib (strCells compareBytes)

/-- what a reader of one value answers -/
def resVal : Res TVal → Value
  | .ok v r => .tuple #[vagg v, .string ⟨r.toArray⟩, .int .i64 0]
  | .err e => .tuple #[.agg #[.int .i64 0, .int .i64 0, .string ⟨#[]⟩], .string ⟨#[]⟩, .int .i64 e]

theorem u64_or8 {X x : Nat} (hx : x < 2 ^ 8) (hX : X ≤ 72057594037927935) : bits .or .u64 ((X : Int) * 256) (x : Int) = ((X * 256 + x : Nat) : Int) := by
  have h := u64_or_nat (X * 256) x (by omega) (by omega)
  have e := Nat.two_pow_add_eq_or_of_lt (i := 8) (b := x) hx X
  rw [show (2 : Nat) ^ 8 * X = X * 256 from by omega] at e
  rw [← e] at h
  rw [← h, Int.natCast_mul]
  rfl
theorem i64_back {X : Nat} (h : X < 18446744073709551616) : wrap64 (IntKind.u64.wrap ((X : Int) - 9223372036854775808)) = (X : Int) - 9223372036854775808 := by
  have e : IntKind.u64.wrap ((X : Int) - 9223372036854775808) = ((X : Int) - 9223372036854775808) % 18446744073709551616 := by
    simp only [IntKind.wrap, IntKind.signed, IntKind.bits]
    simp
  rw [e]
  unfold wrap64
  omega
theorem cutInt_any (s : ByteArray) (w : World) (hs : s.size ≤ maxLen) :
    Calls Try.prog 132 #[.string s] w fun e w' => e = .returned (resVal (cutInt s.data.toList)) ∧ Below w.heap.size w w' := by
  unfold maxLen at hs
  have Hsl := Lib.hid (Lib.size_eq s)
  by_cases h8 : s.size < 8
  · have E : Hid (cutInt s.data.toList = .err 2) := Lib.hid (by unfold cutInt; rw [if_pos (by have := Hsl.out; omega)])
    go_enter Try.func132, Try.ntmps132
    go_wp2
    refine bodyPost_ret (v := resVal (.err 2)) ?_ rfl ⟨by rw [E.out], ?_⟩
    · simp [results, Try.results132, go_sem, resVal]
    · exact (below_box _)
  · obtain ⟨t, ht⟩ : ∃ t, s.extract 0 8 = t := ⟨_, rfl⟩
    have Ht : Hid (t.data.toList = s.data.toList.take 8) := Lib.hid (by rw [← ht, Lib.extract_data]; simp)
    have hts : t.size = 8 := by rw [Lib.size_eq, Ht.out, List.length_take]; have := Hsl.out; omega
    have Hcv := fun wx : World => conv_bytes Try.prog wx 9 22 5 t Try.underlying9 Try.underlying22 Try.underlying5
    obtain ⟨w0, c0, hcv, hc0, hz0, hb0, hbs⟩ := Hcv (w.alloc (.cells #[.int .i64 0, .int .i64 0, .string ⟨#[]⟩] 47))
    rw [hts] at hcv
    have hd : decide ((s.size : Int) < 8) = false := by simp; omega
    have hle : 8 ≤ s.size := by omega
    have Hbs := Lib.hid hbs
    have Hb0 := Lib.hid ((below_box _).trans (hb0.mono (by simp)))
    have hz : w.heap.size + 2 = w0.heap.size := by rw [hz0]; simp
    have Hz := Lib.hid hz
    have Htl : Hid (t.data.toList.length = 8) := Lib.hid (by rw [← Lib.size_eq, hts])
    have Hq := Lib.hid (box_below hb0)
    have h8i : (8 : Int) ≤ (s.size : Int) := by omega
    clear hbs hb0 hz0 hz h8 hts Hcv
    go_enter Try.func132, Try.ntmps132
    go_wp2
    clear hcv
    go_loop [5, 7, 16] (fun u _ i => ∃ (k X : Nat), k ≤ 8 ∧ X < 256 ^ k ∧ i = .int .i64 (k : Int) ∧ u = .int .u64 (X : Int) ∧ Hid (X = numB 0 (t.data.toList.take k))) (fun _ _ i => 8 - (intOf i).toNat)
    case atStart => exact ⟨0, 0, by omega, by simp, rfl, rfl, Lib.hid rfl⟩
    case round =>
      obtain ⟨k, X, hk, hX, rfl, rfl, Hn⟩ := hrel
      by_cases hlt : k < 8
      · have hc := (Hbs.out.2 k (by rw [Htl.out]; omega)).1
        simp only [World.size_alloc] at hc
        have He := Lib.hid (take_snoc (l := t.data.toList) (k := k) (by rw [Htl.out]; omega))
        obtain ⟨x, hx⟩ : ∃ x, t.data.toList[k]?.getD 0 = x := ⟨_, rfl⟩
        rw [hx] at hc He
        clear hx
        have h256 := x.toNat_lt
        have hX7 : X ≤ 72057594037927935 := by
          have : 256 ^ k ≤ 256 ^ 7 := Nat.pow_le_pow_right (by omega) (by omega)
          omega
        go_wp2
        go_round
        case rel =>
          refine ⟨k + 1, X * 256 + x.toNat, by omega, ?_, by go_num, by rw [u64_or8 h256 hX7], Lib.hid ?_⟩
          · rw [Nat.pow_succ]; omega
          · rw [He.out, numB_snoc, ← Hn.out]
        case measure => simp [intOf]; omega
      · obtain rfl : k = 8 := by omega
        have E : Hid (cutInt s.data.toList = .ok ⟨1, (X : Int) - 9223372036854775808, ⟨#[]⟩⟩ (s.data.toList.drop 8)) := Lib.hid (by
          unfold cutInt
          rw [if_neg (by have := Hsl.out; omega), ← Ht.out, Hn.out, List.take_of_length_le (by rw [Htl.out]; omega)])
        clear ht
        obtain ⟨r, hr⟩ : ∃ r, s.extract 8 s.size = r := ⟨_, rfl⟩
        have Hr : Hid (r = ⟨(s.data.toList.drop 8).toArray⟩) := Lib.hid (by rw [← hr]; exact extract_end s 8)
        have Hw : Hid (wrap64 (IntKind.u64.wrap ((X : Int) - 9223372036854775808)) = (X : Int) - 9223372036854775808) := Lib.hid (i64_back (by omega))
        obtain ⟨q0, q1, q2, f0, f1, f2⟩ := Hq.out
        go_wp2
        go_region
        obtain ⟨W3, hW3⟩ : ∃ W3, ((w0.setCell ⟨w.heap.size, 0, none⟩ (.int .i64 1)).setCell ⟨w.heap.size, 1, none⟩ (.int .i64 (wrap64 (IntKind.u64.wrap ((X : Int) - 9223372036854775808))))).setCell ⟨w.heap.size, 2, none⟩ (.string ⟨#[]⟩) = W3 := ⟨_, rfl⟩
        have hp := box_store (x' := .int .i64 1) (y' := .int .i64 (wrap64 (IntKind.u64.wrap ((X : Int) - 9223372036854775808)))) (z' := .string ⟨#[]⟩) q0 q1 q2
        rw [hW3] at hp ⊢
        rw [Hw.out] at hp
        have Hbw : Hid (Below w.heap.size w W3) := Lib.hid (by
          rw [← hW3]
          exact ((Hb0.out.setCell (Nat.le_refl _) _).setCell (Nat.le_refl _) _).setCell (Nat.le_refl _) _)
        obtain ⟨p0, p1, p2⟩ := hp
        clear q0 q1 q2 f0 f1 f2 hr hW3
        go_wp2
        refine bodyPost_ret (v := resVal (.ok ⟨1, (X : Int) - 9223372036854775808, ⟨#[]⟩⟩ (s.data.toList.drop 8))) ?_ rfl ⟨by rw [E.out], Hbw.out.drew⟩
        have hr := Hr.out
        simp [results, Try.results132, go_sem, resVal, vagg, p0, p1, p2, hr]

end Go.Proofs.Ytdfhnjocpfjagaa

namespace Go.Proofs.Ytdfhnjocpfjagaa
open Go.RowKit
open Go.Lib (strCells compareBytes)

def strSize : Value → Nat | .string x => x.size | _ => 0
theorem cutText_cons (acc : List UInt8) (c d : UInt8) (r : List UInt8) : cutText acc (c :: d :: r) = if c ≠ 0 then cutText (acc ++ [c]) (d :: r) else if d = 255 then cutText (acc ++ [0]) r else if d ≠ 0 then .err 3 else if 32 < acc.length then .err 4 else .ok ⟨2, 0, ⟨acc.toArray⟩⟩ r := by
  rw [cutText]
theorem cutText_short (acc : List UInt8) {l : List UInt8} (h : l.length ≤ 1) : cutText acc l = .err 2 := by
  match l, h with
  | [], _ => rfl
  | [_], _ => rfl
theorem two_bytes {x : ByteArray} (h : 1 < x.size) : ∃ c d r, x.data.toList = c :: d :: r ∧ x[0] = c ∧ x[1] = d := by
  obtain ⟨⟨l⟩⟩ := x
  match l, h with
  | c :: d :: r, _ => exact ⟨c, d, r, rfl, rfl, rfl⟩

set_option maxHeartbeats 1600000 in
set_option maxRecDepth 100000 in
theorem cutText_any (s : ByteArray) (w : World) (hs : s.size ≤ 100000) :
    Calls Try.prog 133 #[.string s] w fun e w' => e = .returned (resVal (cutText [] s.data.toList)) ∧ Below w.heap.size w w' := by
  obtain ⟨g, hg⟩ : ∃ g, w.heap.size = g := ⟨_, rfl⟩
  go_enter Try.func133, Try.ntmps133
  go_wp2
  go_loopw [0, 5, 6, 7] (fun x b _ _ wr => ∃ (y : ByteArray) (acc : List UInt8), x = .string y ∧ acc.length + y.size ≤ s.size ∧ wr.ownsRow (g + 1) 5 1 b acc.length (byteCells acc) ∧ Below (g + 1) (w.alloc (.cells #[.int .i64 0, .int .i64 0, .string ⟨#[]⟩] 47)) wr ∧ Hid (cutText [] s.data.toList = cutText acc y.data.toList)) (fun x _ _ _ _ => strSize x)
  case atStart => exact ⟨s, [], rfl, by simp, World.ownsRow_nil _ _ _ _, Below.refl _ _, Lib.hid rfl⟩
  case round =>
    obtain ⟨y, acc, rfl, hy, hown, hb, Hc⟩ := hrel
    have hBr : g + 1 ≤ wr.heap.size := by have := hb.size; simp [hg] at this; omega
    have Hb := Lib.hid hb
    clear hb
    by_cases h1 : 1 < y.size
    · obtain ⟨c, d, r, hcd, hc, hd⟩ := two_bytes h1
      have Hcd := Lib.hid hcd
      have Hown := Lib.hid hown
      clear hcd hown
      have h1i : (1 : Int) < (y.size : Int) := by omega
      have h0i : (0 : Int) < (y.size : Int) := by omega
      go_wp2
      go_quiet (fail)
      obtain ⟨wd, hwd⟩ : ∃ wd, wr.drewN nq = wd := ⟨_, rfl⟩
      have Hb' : Hid (Below (g + 1) (w.alloc (.cells #[.int .i64 0, .int .i64 0, .string ⟨#[]⟩] 47)) wd) := Lib.hid (by rw [← hwd]; exact below_drews Hb.out _)
      have Hown' : Hid (wd.ownsRow (g + 1) 5 1 u5 acc.length (byteCells acc)) := Lib.hid (by rw [← hwd]; exact Hown.out)
      have hBd : g + 1 ≤ wd.heap.size := by rw [← hwd]; exact hBr
      rw [hwd]
      clear hwd Hb Hown hBr hc hd
      have h1l : (1 : Int) ≤ (y.size : Int) := by omega
      have h2l : (2 : Int) ≤ (y.size : Int) := by omega
      have hyl := Lib.hid (Lib.size_eq y)
      have h256c := c.toNat_lt
      have h256d := d.toNat_lt
      by_cases hc0 : c = 0
      · subst hc0
        obtain ⟨A5, c5, rfl, _, _, hh5⟩ := own_slice Hown'.out
        have Hh5 := Lib.hid hh5
        clear hh5
        have hsz : (y.extract 2 y.size).size = y.size - 2 := by rw [Lib.size_eq, extract_end, hyl.out]; simp
        have Hsz := Lib.hid hsz
        clear hsz
        have hy2 : 2 ≤ y.size := by omega
        by_cases hd255 : d = 255
        · subst hd255
          have E : Hid (cutText [] s.data.toList = cutText (acc ++ [0]) (y.extract 2 y.size).data.toList) := Lib.hid (by
            rw [Hc.out, Hcd.out, cutText_cons, if_neg (by decide), if_pos rfl, extract_end, Hcd.out]
            rfl)
          go_wp2
          go_region_held3 (fun _ => True) (trivial)
            ((refine step_append_hasN (by rfl) _ _ _ (by rfl) 5 u8_elemN (by omega) Try.underlying22 (by rfl) ((Hown'.out.alloc _).drew) (by rfl) (one_at _ _ (by rfl) _ _) (one_int _ _) (by simp only [maxLen]; omega) (by omega) (by simp; omega) ?_; intro v1 w1 hown1 hg1 hz1; have Hb1 : Hid (Below (g + 1) _ w1) := Lib.hid (below_ownN ((Hb'.out.alloc hBd _).drew) ((Hown'.out.alloc _).drew) hg1 (by simp; omega)); clear hg1 hz1))
          go_wp2
          go_roundw
          case rel => exact ⟨_, acc ++ [0], rfl, by rw [Hsz.out, List.length_append, List.length_singleton]; omega, by rw [List.length_append, byteCells_app]; exact hown1, Hb1.out, E⟩
          case measure => simp only [strSize]; have := Hsz.out; omega
        · obtain ⟨q0, q1, q2, f0, f1, f2⟩ := box_at Hb'.out hg
          have hdf : ((d.toNat : Int) == 255) = false := by
            have : d.toNat ≠ 255 := fun e => hd255 (UInt8.toNat_inj.1 (by rw [e]; rfl))
            simp
            omega
          by_cases hd0 : d = 0
          · subst hd0
            by_cases hl : 32 < acc.length
            · have E : Hid (cutText [] s.data.toList = .err 4) := Lib.hid (by rw [Hc.out, Hcd.out, cutText_cons, if_neg (by decide), if_neg (by decide), if_neg (by decide), if_pos hl])
              obtain ⟨W3, hW3⟩ : ∃ W3, ((wd.setCell ⟨g, 0, none⟩ (.int .i64 0)).setCell ⟨g, 1, none⟩ (.int .i64 0)).setCell ⟨g, 2, none⟩ (.string ⟨#[]⟩) = W3 := ⟨_, rfl⟩
              have hp := box_store (x' := .int .i64 0) (y' := .int .i64 0) (z' := .string ⟨#[]⟩) q0 q1 q2
              have Hbw : Hid (Below g w W3) := Lib.hid (box_far Hb'.out hg hW3)
              rw [hW3] at hp
              obtain ⟨p0, p1, p2⟩ := hp
              clear hd255
              go_wp2
              refine bodyPost_ret (v := resVal (.err 4)) ?_ rfl ⟨by rw [E.out], by first | exact Hbw.out | (rw [hg]; exact Hbw.out)⟩
              simp [results, Try.results133, go_sem, resVal, p0, p1, p2]
            · have E : Hid (cutText [] s.data.toList = .ok ⟨2, 0, ⟨acc.toArray⟩⟩ r) := Lib.hid (by rw [Hc.out, Hcd.out, cutText_cons, if_neg (by decide), if_neg (by decide), if_neg (by decide), if_neg hl])
              have Hr : Hid (y.extract 2 y.size = ⟨r.toArray⟩) := Lib.hid (by rw [extract_end, Hcd.out]; rfl)
              have hcv := string_run (w := wd.drew) Hh5.out c5
              obtain ⟨W3, hW3⟩ : ∃ W3, ((wd.setCell ⟨g, 0, none⟩ (.int .i64 2)).setCell ⟨g, 1, none⟩ (.int .i64 0)).setCell ⟨g, 2, none⟩ (.string ⟨acc.toArray⟩) = W3 := ⟨_, rfl⟩
              have hp := box_store (x' := .int .i64 2) (y' := .int .i64 0) (z' := .string ⟨acc.toArray⟩) q0 q1 q2
              have Hbw : Hid (Below g w W3) := Lib.hid (box_far Hb'.out hg hW3)
              rw [hW3] at hp
              obtain ⟨p0, p1, p2⟩ := hp
              clear hd255
              go_wp2
              go_region
              go_wp2
              have hr := Hr.out
              refine bodyPost_ret (v := resVal (.ok ⟨2, 0, ⟨acc.toArray⟩⟩ r)) ?_ rfl ⟨by rw [E.out], by first | exact Hbw.out.drew | (rw [hg]; exact Hbw.out.drew)⟩
              simp [results, Try.results133, go_sem, resVal, vagg, p0, p1, p2, hr]
          · have E : Hid (cutText [] s.data.toList = .err 3) := Lib.hid (by rw [Hc.out, Hcd.out, cutText_cons, if_neg (by decide), if_neg hd255, if_pos hd0])
            have hdz : ((d.toNat : Int) == 0) = false := by
              have : d.toNat ≠ 0 := fun e => hd0 (UInt8.toNat_inj.1 (by rw [e]; rfl))
              simp
              omega
            have hdz' : ((d.toNat : Int) != 0) = true := by
              have : d.toNat ≠ 0 := fun e => hd0 (UInt8.toNat_inj.1 (by rw [e]; rfl))
              simp
              omega
            obtain ⟨W3, hW3⟩ : ∃ W3, ((wd.setCell ⟨g, 0, none⟩ (.int .i64 0)).setCell ⟨g, 1, none⟩ (.int .i64 0)).setCell ⟨g, 2, none⟩ (.string ⟨#[]⟩) = W3 := ⟨_, rfl⟩
            have hp := box_store (x' := .int .i64 0) (y' := .int .i64 0) (z' := .string ⟨#[]⟩) q0 q1 q2
            have Hbw : Hid (Below g w W3) := Lib.hid (box_far Hb'.out hg hW3)
            rw [hW3] at hp
            obtain ⟨p0, p1, p2⟩ := hp
            clear hd255 hd0
            go_wp2
            refine bodyPost_ret (v := resVal (.err 3)) ?_ rfl ⟨by rw [E.out], by first | exact Hbw.out | (rw [hg]; exact Hbw.out)⟩
            simp [results, Try.results133, go_sem, resVal, p0, p1, p2]
      · have hcz : ((c.toNat : Int) == 0) = false := by
          have : c.toNat ≠ 0 := fun e => hc0 (UInt8.toNat_inj.1 (by rw [e]; rfl))
          simp
          omega
        have hcz' : ((c.toNat : Int) != 0) = true := by
          have : c.toNat ≠ 0 := fun e => hc0 (UInt8.toNat_inj.1 (by rw [e]; rfl))
          simp
          omega
        have E : Hid (cutText [] s.data.toList = cutText (acc ++ [c]) (y.extract 1 y.size).data.toList) := Lib.hid (by
          rw [Hc.out, Hcd.out, cutText_cons, if_pos hc0, extract_end, Hcd.out]
          rfl)
        have hsz : (y.extract 1 y.size).size = y.size - 1 := by rw [Lib.size_eq, extract_end, hyl.out]; simp
        have Hsz := Lib.hid hsz
        clear hsz hc0
        go_wp2
        go_region_held3 (fun _ => True) (trivial)
          ((refine step_append_hasN (by rfl) _ _ _ (by rfl) 5 u8_elemN (by omega) Try.underlying22 (by rfl) ((Hown'.out.alloc _).drew) (by rfl) (one_at _ _ (by rfl) _ _) (one_int _ _) (by simp only [maxLen]; omega) (by omega) (by simp; omega) ?_; intro v1 w1 hown1 hg1 hz1; have Hb1 : Hid (Below (g + 1) _ w1) := Lib.hid (below_ownN ((Hb'.out.alloc hBd _).drew) ((Hown'.out.alloc _).drew) hg1 (by simp; omega)); clear hg1 hz1))
        go_wp2
        go_roundw
        case rel => exact ⟨_, acc ++ [c], rfl, by rw [Hsz.out, List.length_append, List.length_singleton]; omega, by rw [List.length_append, byteCells_app]; exact hown1, Hb1.out, E⟩
        case measure => simp only [strSize]; have := Hsz.out; omega
    · have E : Hid (cutText [] s.data.toList = .err 2) := Lib.hid (by rw [Hc.out, cutText_short _ (by rw [← Lib.size_eq]; omega)])
      have h1i : ¬ (1 : Int) < (y.size : Int) := by omega
      obtain ⟨q0, q1, q2, f0, f1, f2⟩ := box_at Hb.out hg
      obtain ⟨W3, hW3⟩ : ∃ W3, ((wr.setCell ⟨g, 0, none⟩ (.int .i64 0)).setCell ⟨g, 1, none⟩ (.int .i64 0)).setCell ⟨g, 2, none⟩ (.string ⟨#[]⟩) = W3 := ⟨_, rfl⟩
      have hp := box_store (x' := .int .i64 0) (y' := .int .i64 0) (z' := .string ⟨#[]⟩) q0 q1 q2
      have Hbw : Hid (Below g w W3) := Lib.hid (box_far Hb.out hg hW3)
      rw [hW3] at hp
      obtain ⟨p0, p1, p2⟩ := hp
      go_wp2
      refine bodyPost_ret (v := resVal (.err 2)) ?_ rfl ⟨by rw [E.out], by first | exact Hbw.out | (rw [hg]; exact Hbw.out)⟩
      simp [results, Try.results133, go_sem, resVal, p0, p1, p2]

end Go.Proofs.Ytdfhnjocpfjagaa

namespace Go.Proofs.Ytdfhnjocpfjagaa
open Go.RowKit
open Go.Lib (strCells compareBytes)

def resV : Res TVal → TVal
  | .ok v _ => v
  | .err _ => ⟨0, 0, ⟨#[]⟩⟩
def resRest : Res TVal → ByteArray
  | .ok _ r => ⟨r.toArray⟩
  | .err _ => ⟨#[]⟩
def resCode : Res TVal → Nat
  | .ok _ _ => 0
  | .err e => e
theorem resVal_eq (r : Res TVal) : resVal r = .tuple #[.agg #[.int .i64 (resV r).k, .int .i64 (resV r).n, .string (resV r).s], .string (resRest r), .int .i64 (resCode r)] := by cases r <;> rfl
theorem tail_data {s : ByteArray} {c : UInt8} {r : List UInt8} (h : s.data.toList = c :: r) : (s.extract 1 s.size).data.toList = r := by rw [extract_end, h]; rfl

set_option maxHeartbeats 800000 in
set_option maxRecDepth 100000 in
theorem cutVal_any (s : ByteArray) (w : World) (hs : s.size ≤ 100000) (h0 : 0 < s.size) :
    Calls Try.prog 121 #[.string s] w fun e w' => e = .returned (resVal (cutVal s.data.toList)) ∧ Below w.heap.size w w' := by
  obtain ⟨c, r, hcr⟩ : ∃ c r, s.data.toList = c :: r := by
    have := Lib.size_eq s
    cases h : s.data.toList with
    | nil => rw [h] at this; simp only [List.length_nil] at this; omega
    | cons c r => exact ⟨c, r, rfl⟩
  have hc : s[0] = c := by rw [byte_at s 0 h0, hcr]; rfl
  have Ht := Lib.hid (tail_data hcr)
  have Hs1 : Hid ((s.extract 1 s.size).size ≤ 100000) := Lib.hid (by rw [Lib.size_eq, Ht.out]; have := Lib.size_eq s; rw [hcr] at this; simp only [List.length_cons] at this; omega)
  have Hcr := Lib.hid hcr
  clear hcr
  have h1l : (1 : Int) ≤ (s.size : Int) := by omega
  have h256 := c.toNat_lt
  have neq : ∀ k : Nat, k < 256 → c ≠ UInt8.ofNat k → ((c.toNat : Int) == (k : Int)) = false := fun k hk hne => by
    have : c.toNat ≠ k := fun e => hne (UInt8.toNat_inj.1 (by rw [e, u8_ofNat_toNat hk]))
    simp
    omega
  by_cases h1 : c = 1
  · subst h1
    have E : Hid (cutVal s.data.toList = .ok ⟨0, 0, ⟨#[]⟩⟩ r) := Lib.hid (by rw [Hcr.out, cutVal_cons, if_pos rfl])
    have Hr : Hid (s.extract 1 s.size = ⟨r.toArray⟩) := Lib.hid (bytes_ext (by rw [Ht.out]))
    clear neq
    go_enter Try.func121, Try.ntmps121
    go_wp2
    go_region
    go_wp2
    have hr := Hr.out
    refine bodyPost_ret (v := resVal (.ok ⟨0, 0, ⟨#[]⟩⟩ r)) ?_ rfl ⟨by rw [E.out], (below_box _).drew⟩
    simp [results, Try.results121, go_sem, resVal, vagg, hr]
  have n1 := neq 1 (by omega) h1
  by_cases h2 : c = 2
  · subst h2
    have E : Hid (cutVal s.data.toList = cutInt (s.extract 1 s.size).data.toList) := Lib.hid (by rw [Hcr.out, cutVal_cons, if_neg (by decide), if_pos rfl, Ht.out])
    have Hcall := Lib.hid (fun wx => cutInt_any (s.extract 1 s.size) wx (by unfold maxLen; have := Hs1.out; omega))
    clear neq
    rw [resVal_eq] at Hcall
    generalize hR : cutInt (s.extract 1 s.size).data.toList = R at Hcall E
    clear hR
    go_enter Try.func121, Try.ntmps121
    go_wp2_with fail
    refine (Hcall.out _).mono ?_
    rintro e w1 ⟨rfl, hb1⟩
    obtain ⟨q0, q1, q2, f0, f1, f2⟩ := box_below hb1
    obtain ⟨W3, hW3⟩ : ∃ W3, ((w1.setCell ⟨w.heap.size, 0, none⟩ (.int .i64 (resV R).k)).setCell ⟨w.heap.size, 1, none⟩ (.int .i64 (resV R).n)).setCell ⟨w.heap.size, 2, none⟩ (.string (resV R).s) = W3 := ⟨_, rfl⟩
    have hp := box_store (x' := .int .i64 (resV R).k) (y' := .int .i64 (resV R).n) (z' := .string (resV R).s) q0 q1 q2
    have Hbw : Hid (Below w.heap.size w W3) := Lib.hid (by
      rw [← hW3]
      exact ((((below_box _).trans (hb1.mono (by simp))).setCell (Nat.le_refl _) _).setCell (Nat.le_refl _) _).setCell (Nat.le_refl _) _)
    rw [hW3] at hp
    obtain ⟨p0, p1, p2⟩ := hp
    clear hb1
    go_wp2
    refine bodyPost_ret (v := resVal R) ?_ rfl ⟨by rw [E.out], Hbw.out⟩
    rw [resVal_eq]
    simp [results, Try.results121, go_sem, p0, p1, p2]
  have n2 := neq 2 (by omega) h2
  by_cases h3 : c = 3
  · subst h3
    have E : Hid (cutVal s.data.toList = cutText [] (s.extract 1 s.size).data.toList) := Lib.hid (by rw [Hcr.out, cutVal_cons, if_neg (by decide), if_neg (by decide), if_pos rfl, Ht.out])
    have Hcall := Lib.hid (fun wx => cutText_any (s.extract 1 s.size) wx Hs1.out)
    clear neq
    rw [resVal_eq] at Hcall
    generalize hR : cutText [] (s.extract 1 s.size).data.toList = R at Hcall E
    clear hR
    go_enter Try.func121, Try.ntmps121
    go_wp2_with fail
    refine (Hcall.out _).mono ?_
    rintro e w1 ⟨rfl, hb1⟩
    obtain ⟨q0, q1, q2, f0, f1, f2⟩ := box_below hb1
    obtain ⟨W3, hW3⟩ : ∃ W3, ((w1.setCell ⟨w.heap.size, 0, none⟩ (.int .i64 (resV R).k)).setCell ⟨w.heap.size, 1, none⟩ (.int .i64 (resV R).n)).setCell ⟨w.heap.size, 2, none⟩ (.string (resV R).s) = W3 := ⟨_, rfl⟩
    have hp := box_store (x' := .int .i64 (resV R).k) (y' := .int .i64 (resV R).n) (z' := .string (resV R).s) q0 q1 q2
    have Hbw : Hid (Below w.heap.size w W3) := Lib.hid (by
      rw [← hW3]
      exact ((((below_box _).trans (hb1.mono (by simp))).setCell (Nat.le_refl _) _).setCell (Nat.le_refl _) _).setCell (Nat.le_refl _) _)
    rw [hW3] at hp
    obtain ⟨p0, p1, p2⟩ := hp
    clear hb1
    go_wp2
    refine bodyPost_ret (v := resVal R) ?_ rfl ⟨by rw [E.out], Hbw.out⟩
    rw [resVal_eq]
    simp [results, Try.results121, go_sem, p0, p1, p2]
  have n3 := neq 3 (by omega) h3
  have E : Hid (cutVal s.data.toList = .err 3) := Lib.hid (by rw [Hcr.out, cutVal_cons, if_neg h1, if_neg h2, if_neg h3])
  have e1 : ((c.toNat : Int) == 1) = false := n1
  have e2 : ((c.toNat : Int) == 2) = false := n2
  have e3 : ((c.toNat : Int) == 3) = false := n3
  clear neq n1 n2 n3 h1 h2 h3
  go_enter Try.func121, Try.ntmps121
  go_wp2
  refine bodyPost_ret (v := resVal (.err 3)) ?_ rfl ⟨by rw [E.out], below_box _⟩
  simp [results, Try.results121, go_sem, resVal]

end Go.Proofs.Ytdfhnjocpfjagaa

namespace Go.Proofs.Ytdfhnjocpfjagaa
open Go.RowKit
open Go.Lib (strCells compareBytes)

def pre (l : List TVal) : Res (List TVal) → Res (List TVal)
  | .ok m z => .ok (l ++ m) z
  | .err e => .err e
theorem pre_nil (r : Res (List TVal)) : pre [] r = r := by cases r <;> rfl
theorem cutL_stop {j : Nat} {s : List UInt8} (h : more s = false) : cutL j s = .ok [] s := by
  cases j <;> simp [cutL, h]
theorem cutL_many {s : List UInt8} (h : more s = true) : cutL 0 s = .err 4 := by simp [cutL, h]
theorem cutL_err_at {j : Nat} {s : List UInt8} {e : Nat} (h : more s = true) (hv : cutVal s = .err e) : cutL (j + 1) s = .err e := by simp [cutL, h, hv]
theorem cutL_ok_at {j : Nat} {s r : List UInt8} {v : TVal} (l : List TVal) (h : more s = true) (hv : cutVal s = .ok v r) : pre l (cutL (j + 1) s) = pre (l ++ [v]) (cutL j r) := by
  rw [cutL]
  simp only [h, hv, if_true]
  cases cutL j r <;> simp [pre]

/-- what Cut leaves: the values in a row of the call's own and the rest, or an error -/
def CutPost (R : Res (List TVal)) (w : World) (e : Ending) (w' : World) : Prop :=
  match R with
  | .ok l z => ∃ v, e = .returned (.tuple #[v, .string ⟨z.toArray⟩, .int .i64 0]) ∧ w'.ownsRow w.heap.size 47 3 v l.length (valCells l) ∧ Below w.heap.size w w'
  | .err c => e = .returned (.tuple #[.slice none 0 0, .string ⟨#[]⟩, .int .i64 (c : Int)]) ∧ Below w.heap.size w w'
theorem cutPost_ok {R : Res (List TVal)} {l : List TVal} {z : List UInt8} {w w' : World} {v : Value} {x : ByteArray} (hR : R = .ok l z) (hx : x.data.toList = z) (ho : w'.ownsRow w.heap.size 47 3 v l.length (valCells l)) (hb : Below w.heap.size w w') :
    CutPost R w (.returned (.tuple #[v, .string x, .int .i64 0])) w' := by
  subst hR
  subst hx
  exact ⟨v, rfl, ho, hb⟩
theorem cutPost_err {R : Res (List TVal)} {c : Nat} {w w' : World} (hR : R = .err c) (hb : Below w.heap.size w w') : CutPost R w (.returned (.tuple #[.slice none 0 0, .string ⟨#[]⟩, .int .i64 (c : Int)])) w' := by
  subst hR
  exact ⟨rfl, hb⟩
set_option maxHeartbeats 1600000 in
set_option maxRecDepth 100000 in
theorem cut_any (s : ByteArray) (w : World) (hs : s.size ≤ 100000) :
    Calls Try.prog 104 #[.string s] w (CutPost (cutL 4 s.data.toList) w) := by
  go_enter Try.func104, Try.ntmps104
  go_wp2
  go_loopw [2, 3, 4, 5] (fun lv y ev _ wr => ∃ (x : ByteArray) (l : List TVal), y = .string x ∧ ev = .int .i64 0 ∧ x.size ≤ s.size ∧ l.length ≤ 4 ∧ wr.ownsRow w.heap.size 47 3 lv l.length (valCells l) ∧ Below w.heap.size w wr ∧ Hid (cutL 4 s.data.toList = pre l (cutL (4 - l.length) x.data.toList))) (fun _ y _ _ _ => strSize y)
  case atStart => exact ⟨s, [], rfl, rfl, by omega, by simp, World.ownsRow_nil _ _ _ _, Below.refl _ _, Lib.hid (pre_nil _).symm⟩
  case round =>
    obtain ⟨x, l, rfl, rfl, hx, hl, hown, hb, Hc⟩ := hrel
    have hsz := hb.size
    have Hb := Lib.hid hb
    have Hown := Lib.hid hown
    clear hb hown
    have hxl := Lib.hid (Lib.size_eq x)
    by_cases hx0 : x.size = 0
    · have hd : x.data.toList = [] := List.eq_nil_of_length_eq_zero (by rw [← hxl.out]; exact hx0)
      have E : Hid (cutL 4 s.data.toList = .ok l x.data.toList) := Lib.hid (by rw [Hc.out, cutL_stop (by rw [hd]; rfl)]; simp [pre])
      have he1 : x.toList = [] := by rw [Lib.toList_data, hd]
      have he2 : (x.toList.isEmpty) = true := by rw [he1]; rfl
      clear hd hx0
      go_wp2_with fail
      refine (clone_any x _ (by omega)).mono ?_
      rintro e w1 ⟨rfl, hb1⟩
      have Hown1 := Lib.hid (own_belowN Hown.out hb1)
      have Hb1 := Lib.hid (Hb.out.trans (hb1.mono hsz))
      clear hb1
      go_wp2
      go_ret3
      exact cutPost_ok E.out rfl Hown1.out Hb1.out
    · obtain ⟨c, r, hcr⟩ : ∃ c r, x.data.toList = c :: r := by
        cases h : x.data.toList with
        | nil => have := hxl.out; rw [h] at this; simp only [List.length_nil] at this; omega
        | cons c r => exact ⟨c, r, rfl⟩
      have he1 : x.toList.isEmpty = false := by rw [Lib.toList_data, hcr]; rfl
      have hpos : 0 < x.size := by omega
      have hc : x[0] = c := by rw [byte_at x 0 hpos, hcr]; rfl
      have h256 := c.toNat_lt
      clear hx0
      by_cases hc0 : c = 0
      · subst hc0
        have E : Hid (cutL 4 s.data.toList = .ok l x.data.toList) := Lib.hid (by rw [Hc.out, cutL_stop (by rw [hcr]; rfl)]; simp [pre])
        clear hcr
        go_wp2_with fail
        refine (clone_any x _ (by omega)).mono ?_
        rintro e w1 ⟨rfl, hb1⟩
        have Hown1 := Lib.hid (own_belowN Hown.out hb1)
        have Hb1 := Lib.hid (Hb.out.trans (hb1.mono hsz))
        clear hb1
        go_wp2
        go_ret3
        exact cutPost_ok E.out rfl Hown1.out Hb1.out
      · have hm : more x.data.toList = true := by rw [hcr]; simp [more, hc0]
        have hcz : ((c.toNat : Int) == 0) = false := by
          have : c.toNat ≠ 0 := fun e => hc0 (UInt8.toNat_inj.1 (by rw [e]; rfl))
          simp
          omega
        have hcz' : ((c.toNat : Int) != 0) = true := by
          have : c.toNat ≠ 0 := fun e => hc0 (UInt8.toNat_inj.1 (by rw [e]; rfl))
          simp
          omega
        have Hm := Lib.hid hm
        clear hcr hc0 hm
        obtain ⟨A5, c5, rfl, _, _, _⟩ := own_sliceN Hown.out
        by_cases h4 : l.length = 4
        · have E : Hid (cutL 4 s.data.toList = .err 4) := Lib.hid (by rw [Hc.out, h4, cutL_many Hm.out]; rfl)
          have h4i : ((l.length : Int) == 4) = true := by simp; omega
          clear h4
          go_wp2
          go_ret3
          exact cutPost_err E.out Hb.out
        · obtain ⟨j, hj⟩ : ∃ j, 4 - l.length = j + 1 := ⟨3 - l.length, by omega⟩
          have Hj := Lib.hid hj
          have h4i : ((l.length : Int) == 4) = false := by simp; omega
          have Hcall := Lib.hid (fun wx => cutVal_any x wx (by omega) hpos)
          clear hj h4
          cases hR : cutVal x.data.toList with
          | err e =>
            have hepos := (cutVal_err hR).1
            have E : Hid (cutL 4 s.data.toList = .err e) := Lib.hid (by rw [Hc.out, Hj.out, cutL_err_at Hm.out hR]; rfl)
            rw [hR] at Hcall
            clear hR
            have hne : ((e : Int) == 0) = false := by simp; omega
            have hne' : ((e : Int) != 0) = true := by simp; omega
            simp only [resVal] at Hcall
            go_wp2_with fail
            refine (Hcall.out _).mono ?_
            rintro e' w1 ⟨rfl, hb1⟩
            obtain ⟨q0, q1, q2, f0, f1, f2⟩ := box_below hb1
            obtain ⟨W3, hW3⟩ : ∃ W3, ((w1.setCell ⟨wr.heap.size, 0, none⟩ (.int .i64 0)).setCell ⟨wr.heap.size, 1, none⟩ (.int .i64 0)).setCell ⟨wr.heap.size, 2, none⟩ (.string ⟨#[]⟩) = W3 := ⟨_, rfl⟩
            have Hbw : Hid (Below w.heap.size w W3) := Lib.hid (by
              rw [← hW3]
              exact Hb.out.trans (((((((below_box _).trans (hb1.mono (by simp))).setCell (Nat.le_refl _) _).setCell (Nat.le_refl _) _).setCell (Nat.le_refl _) _)).mono hsz))
            clear hb1
            go_wp2
            go_ret3
            exact cutPost_err E.out Hbw.out
          | ok v r =>
            have E : Hid (cutL 4 s.data.toList = pre (l ++ [v]) (cutL (4 - (l ++ [v]).length) r)) := Lib.hid (by
              rw [Hc.out, Hj.out, cutL_ok_at l Hm.out hR, List.length_append, List.length_singleton]
              have := Hj.out
              congr 2
              omega)
            obtain ⟨e1, _, _⟩ := cutVal_ok hR
            have Hlt : Hid ((⟨r.toArray⟩ : ByteArray).size < x.size) := Lib.hid (by
              have h1 := congrArg List.length e1
              obtain ⟨c', r', hk, _⟩ := keyV_pos v
              rw [← hxl.out, hk] at h1
              simp only [List.length_append, List.length_cons] at h1
              rw [Lib.size_eq]
              show r.length < x.size
              omega)
            have hll : l.length < 4 := by have := Hj.out; omega
            rw [hR] at Hcall
            clear hR e1
            obtain ⟨k, n, t⟩ := v
            obtain ⟨y, hy⟩ : ∃ y : ByteArray, ⟨r.toArray⟩ = y := ⟨_, rfl⟩
            have Hy : Hid (y.data.toList = r) := Lib.hid (by rw [← hy])
            rw [hy] at Hlt
            simp only [resVal, vagg] at Hcall
            rw [hy] at Hcall
            clear hy
            go_wp2_with fail
            refine (Hcall.out _).mono ?_
            rintro e' w1 ⟨rfl, hb1⟩
            obtain ⟨q0, q1, q2, f0, f1, f2⟩ := box_below hb1
            obtain ⟨W3, hW3⟩ : ∃ W3, ((w1.setCell ⟨wr.heap.size, 0, none⟩ (.int .i64 k)).setCell ⟨wr.heap.size, 1, none⟩ (.int .i64 n)).setCell ⟨wr.heap.size, 2, none⟩ (.string t) = W3 := ⟨_, rfl⟩
            have hp := box_store (x' := .int .i64 k) (y' := .int .i64 n) (z' := .string t) q0 q1 q2
            have hbw : Below wr.heap.size wr W3 := by
              rw [← hW3]
              exact (((below_box _).trans (hb1.mono (by simp))).setCell (Nat.le_refl _) _).setCell (Nat.le_refl _) _ |>.setCell (Nat.le_refl _) _
            have Hown3 := Lib.hid (own_belowN Hown.out hbw)
            have Hb3 := Lib.hid (Hb.out.trans (hbw.mono hsz))
            have hB3 : w.heap.size ≤ W3.heap.size := Nat.le_trans hsz hbw.size
            rw [hW3] at hp
            obtain ⟨p0, p1, p2⟩ := hp
            clear hb1 hbw
            go_wp2_with (at_builtin; refine wpList_append_hasN rfl (.tmp 26) (.tmp 28) _ rfl 47 val_elem (by omega) Try.underlying43 rfl (Hown3.out.alloc _) rfl (vals_lit W3 k n t) (valCells_one _) (by simp only [maxLen]; omega) (by omega) (le_alloc hB3 _) ?_; intro v4 w4 hown4 hg4 hz4; have Hb4 : Hid (Below w.heap.size w w4) := Lib.hid (below_ownN (Hb3.out.alloc hB3 _) (Hown3.out.alloc _) hg4 (le_alloc hB3 _)); clear hg4 hz4)
            go_roundw
            case rel =>
              refine ⟨y, l ++ [⟨k, n, t⟩], rfl, rfl, by have := Hlt.out; omega, by rw [List.length_append, List.length_singleton]; omega, ?_, Hb4.out, Lib.hid (by rw [E.out, Hy.out])⟩
              rw [List.length_append, List.length_singleton, valCells_app]
              exact hown4
            case measure => simp only [strSize]; have := Hlt.out; omega

end Go.Proofs.Ytdfhnjocpfjagaa

namespace Go.Proofs.Ytdfhnjocpfjagaa
open Go.RowKit
open Go.Lib (strCells compareBytes)

/-- what Vals leaves of a text that is a key -/
def ValsPost (l : List TVal) (w : World) (e : Ending) (w' : World) : Prop :=
  ∃ v, e = .returned (.tuple #[v, .int .i64 0]) ∧ w'.ownsRow w.heap.size 47 3 v l.length (valCells l) ∧ Below w.heap.size w w'
theorem vals_ok (s : ByteArray) (l : List TVal) (w : World) (hs : s.size ≤ 100000) (h : cutL 4 s.data.toList = .ok l []) :
    Calls Try.prog 67 #[.string s] w (ValsPost l w) := by
  have Hcall := Lib.hid (cut_any s w hs)
  rw [h] at Hcall
  clear h
  go_enter Try.func67, Try.ntmps67
  go_wp2_with fail
  refine Hcall.out.mono ?_
  rintro e w1 ⟨v, rfl, hown, hb⟩
  obtain ⟨A1, c1, rfl, _, _, _⟩ := own_sliceN hown
  have Hown := Lib.hid hown
  have Hb := Lib.hid hb
  clear hown hb
  go_wp2
  go_ret2
  exact ⟨_, rfl, Hown.out, Hb.out⟩

end Go.Proofs.Ytdfhnjocpfjagaa
