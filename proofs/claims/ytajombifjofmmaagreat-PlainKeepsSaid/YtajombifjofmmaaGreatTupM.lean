/- cutText gives what the plain text (SpecCut) gives. Condition: the text is short. -/
import Derived.Test.YtajombifjofmmaaGreatTupL
namespace Go.Proofs.YtajombifjofmmaaGreat
open Go.RowKit
open Go.Lib (strCells compareBytes)

def strSize : Value → Nat | .string x => x.size | _ => 0
theorem cutText_cons (acc : List UInt8) (c d : UInt8) (r : List UInt8) : cutText acc (c :: d :: r) = if c ≠ 0 then cutText (acc ++ [c]) (d :: r) else if d = 255 then cutText (acc ++ [0]) r else if d ≠ 0 then .err 3 else if 32 < acc.length then .err 4 else .ok ⟨2, 0, ⟨acc.toArray⟩⟩ r := by
  rw [cutText]
theorem cutText_short (acc : List UInt8) {l : List UInt8} (h : l.length ≤ 1) : cutText acc l = .err 2 := by
  match l, h with
  | [], _ => rfl
  | [_], _ => rfl
theorem two_bytes {x : ByteArray} (h : 1 < x.size) : ∃ c d r, x.data.toList = c :: d :: r ∧ x[0] = c ∧ x[1] = d := by
  obtain ⟨⟨l⟩⟩ := x
  match l, h with
  | c :: d :: r, _ => exact ⟨c, d, r, rfl, rfl, rfl⟩

set_option maxHeartbeats 1600000 in
set_option maxRecDepth 100000 in
theorem cutText_any (s : ByteArray) (w : World) (hs : s.size ≤ 100000) :
    Calls Tryz.prog 137 #[.string s] w fun e w' => e = .returned (resVal (cutText [] s.data.toList)) ∧ Below w.heap.size w w' := by
  obtain ⟨g, hg⟩ : ∃ g, w.heap.size = g := ⟨_, rfl⟩
  go_enter Tryz.func137, Tryz.ntmps137
  go_wp2
  go_loopw [0, 5, 6, 7] (fun x b _ _ wr => ∃ (y : ByteArray) (acc : List UInt8), x = .string y ∧ acc.length + y.size ≤ s.size ∧ wr.ownsRow (g + 1) 5 1 b acc.length (byteCells acc) ∧ Below (g + 1) (w.alloc (.cells #[.int .i64 0, .int .i64 0, .string ⟨#[]⟩] 55)) wr ∧ Hid (cutText [] s.data.toList = cutText acc y.data.toList)) (fun x _ _ _ _ => strSize x)
  case atStart => exact ⟨s, [], rfl, by simp, World.ownsRow_nil _ _ _ _, Below.refl _ _, Lib.hid rfl⟩
  case round =>
    obtain ⟨y, acc, rfl, hy, hown, hb, Hc⟩ := hrel
    have hBr : g + 1 ≤ wr.heap.size := by have := hb.size; simp [hg] at this; omega
    have Hb := Lib.hid hb
    clear hb
    by_cases h1 : 1 < y.size
    · obtain ⟨c, d, r, hcd, hc, hd⟩ := two_bytes h1
      have Hcd := Lib.hid hcd
      have Hown := Lib.hid hown
      clear hcd hown
      have h1i : (1 : Int) < (y.size : Int) := by omega
      have h0i : (0 : Int) < (y.size : Int) := by omega
      go_wp2
      go_quiet (fail)
      obtain ⟨wd, hwd⟩ : ∃ wd, wr.drewN nq = wd := ⟨_, rfl⟩
      have Hb' : Hid (Below (g + 1) (w.alloc (.cells #[.int .i64 0, .int .i64 0, .string ⟨#[]⟩] 55)) wd) := Lib.hid (by rw [← hwd]; exact below_drews Hb.out _)
      have Hown' : Hid (wd.ownsRow (g + 1) 5 1 u5 acc.length (byteCells acc)) := Lib.hid (by rw [← hwd]; exact Hown.out)
      have hBd : g + 1 ≤ wd.heap.size := by rw [← hwd]; exact hBr
      rw [hwd]
      clear hwd Hb Hown hBr hc hd
      have h1l : (1 : Int) ≤ (y.size : Int) := by omega
      have h2l : (2 : Int) ≤ (y.size : Int) := by omega
      have hyl := Lib.hid (Lib.size_eq y)
      have h256c := c.toNat_lt
      have h256d := d.toNat_lt
      by_cases hc0 : c = 0
      · subst hc0
        obtain ⟨A5, c5, rfl, _, _, hh5⟩ := own_slice Hown'.out
        have Hh5 := Lib.hid hh5
        clear hh5
        have hsz : (y.extract 2 y.size).size = y.size - 2 := by rw [Lib.size_eq, extract_end, hyl.out]; simp
        have Hsz := Lib.hid hsz
        clear hsz
        have hy2 : 2 ≤ y.size := by omega
        by_cases hd255 : d = 255
        · subst hd255
          have E : Hid (cutText [] s.data.toList = cutText (acc ++ [0]) (y.extract 2 y.size).data.toList) := Lib.hid (by
            rw [Hc.out, Hcd.out, cutText_cons, if_neg (by decide), if_pos rfl, extract_end, Hcd.out]
            rfl)
          go_wp2
          go_region_held3 (fun _ => True) (trivial)
            ((refine step_append_hasN (by rfl) _ _ _ (by rfl) 5 u8_elemN (by omega) Tryz.underlying119 (by rfl) ((Hown'.out.alloc _).drew) (by rfl) (one_at _ _ (by rfl) _ _) (one_int _ _) (by simp only [maxLen]; omega) (by omega) (by simp; omega) ?_; intro v1 w1 hown1 hg1 hz1; have Hb1 : Hid (Below (g + 1) _ w1) := Lib.hid (below_ownN ((Hb'.out.alloc hBd _).drew) ((Hown'.out.alloc _).drew) hg1 (by simp; omega)); clear hg1 hz1))
          go_wp2
          go_roundw
          case rel => exact ⟨_, acc ++ [0], rfl, by rw [Hsz.out, List.length_append, List.length_singleton]; omega, by rw [List.length_append, byteCells_app]; exact hown1, Hb1.out, E⟩
          case measure => simp only [strSize]; have := Hsz.out; omega
        · obtain ⟨q0, q1, q2, f0, f1, f2⟩ := box_at Hb'.out hg
          have hdf : ((d.toNat : Int) == 255) = false := by
            have : d.toNat ≠ 255 := fun e => hd255 (UInt8.toNat_inj.1 (by rw [e]; rfl))
            simp
            omega
          by_cases hd0 : d = 0
          · subst hd0
            by_cases hl : 32 < acc.length
            · have E : Hid (cutText [] s.data.toList = .err 4) := Lib.hid (by rw [Hc.out, Hcd.out, cutText_cons, if_neg (by decide), if_neg (by decide), if_neg (by decide), if_pos hl])
              obtain ⟨W3, hW3⟩ : ∃ W3, ((wd.setCell ⟨g, 0, none⟩ (.int .i64 0)).setCell ⟨g, 1, none⟩ (.int .i64 0)).setCell ⟨g, 2, none⟩ (.string ⟨#[]⟩) = W3 := ⟨_, rfl⟩
              have hp := box_store (x' := .int .i64 0) (y' := .int .i64 0) (z' := .string ⟨#[]⟩) q0 q1 q2
              have Hbw : Hid (Below g w W3) := Lib.hid (box_far Hb'.out hg hW3)
              rw [hW3] at hp
              obtain ⟨p0, p1, p2⟩ := hp
              clear hd255
              go_wp2
              refine bodyPost_ret (v := resVal (.err 4)) ?_ rfl ⟨by rw [E.out], by first | exact Hbw.out | (rw [hg]; exact Hbw.out)⟩
              simp [results, Tryz.results137, go_sem, resVal, p0, p1, p2]
            · have E : Hid (cutText [] s.data.toList = .ok ⟨2, 0, ⟨acc.toArray⟩⟩ r) := Lib.hid (by rw [Hc.out, Hcd.out, cutText_cons, if_neg (by decide), if_neg (by decide), if_neg (by decide), if_neg hl])
              have Hr : Hid (y.extract 2 y.size = ⟨r.toArray⟩) := Lib.hid (by rw [extract_end, Hcd.out]; rfl)
              have hcv := string_run (w := wd.drew) Hh5.out c5
              obtain ⟨W3, hW3⟩ : ∃ W3, ((wd.setCell ⟨g, 0, none⟩ (.int .i64 2)).setCell ⟨g, 1, none⟩ (.int .i64 0)).setCell ⟨g, 2, none⟩ (.string ⟨acc.toArray⟩) = W3 := ⟨_, rfl⟩
              have hp := box_store (x' := .int .i64 2) (y' := .int .i64 0) (z' := .string ⟨acc.toArray⟩) q0 q1 q2
              have Hbw : Hid (Below g w W3) := Lib.hid (box_far Hb'.out hg hW3)
              rw [hW3] at hp
              obtain ⟨p0, p1, p2⟩ := hp
              clear hd255
              go_wp2
              go_region
              go_wp2
              have hr := Hr.out
              refine bodyPost_ret (v := resVal (.ok ⟨2, 0, ⟨acc.toArray⟩⟩ r)) ?_ rfl ⟨by rw [E.out], by first | exact Hbw.out.drew | (rw [hg]; exact Hbw.out.drew)⟩
              simp [results, Tryz.results137, go_sem, resVal, vagg, p0, p1, p2, hr]
          · have E : Hid (cutText [] s.data.toList = .err 3) := Lib.hid (by rw [Hc.out, Hcd.out, cutText_cons, if_neg (by decide), if_neg hd255, if_pos hd0])
            have hdz : ((d.toNat : Int) == 0) = false := by
              have : d.toNat ≠ 0 := fun e => hd0 (UInt8.toNat_inj.1 (by rw [e]; rfl))
              simp
              omega
            have hdz' : ((d.toNat : Int) != 0) = true := by
              have : d.toNat ≠ 0 := fun e => hd0 (UInt8.toNat_inj.1 (by rw [e]; rfl))
              simp
              omega
            obtain ⟨W3, hW3⟩ : ∃ W3, ((wd.setCell ⟨g, 0, none⟩ (.int .i64 0)).setCell ⟨g, 1, none⟩ (.int .i64 0)).setCell ⟨g, 2, none⟩ (.string ⟨#[]⟩) = W3 := ⟨_, rfl⟩
            have hp := box_store (x' := .int .i64 0) (y' := .int .i64 0) (z' := .string ⟨#[]⟩) q0 q1 q2
            have Hbw : Hid (Below g w W3) := Lib.hid (box_far Hb'.out hg hW3)
            rw [hW3] at hp
            obtain ⟨p0, p1, p2⟩ := hp
            clear hd255 hd0
            go_wp2
            refine bodyPost_ret (v := resVal (.err 3)) ?_ rfl ⟨by rw [E.out], by first | exact Hbw.out | (rw [hg]; exact Hbw.out)⟩
            simp [results, Tryz.results137, go_sem, resVal, p0, p1, p2]
      · have hcz : ((c.toNat : Int) == 0) = false := by
          have : c.toNat ≠ 0 := fun e => hc0 (UInt8.toNat_inj.1 (by rw [e]; rfl))
          simp
          omega
        have hcz' : ((c.toNat : Int) != 0) = true := by
          have : c.toNat ≠ 0 := fun e => hc0 (UInt8.toNat_inj.1 (by rw [e]; rfl))
          simp
          omega
        have E : Hid (cutText [] s.data.toList = cutText (acc ++ [c]) (y.extract 1 y.size).data.toList) := Lib.hid (by
          rw [Hc.out, Hcd.out, cutText_cons, if_pos hc0, extract_end, Hcd.out]
          rfl)
        have hsz : (y.extract 1 y.size).size = y.size - 1 := by rw [Lib.size_eq, extract_end, hyl.out]; simp
        have Hsz := Lib.hid hsz
        clear hsz hc0
        go_wp2
        go_region_held3 (fun _ => True) (trivial)
          ((refine step_append_hasN (by rfl) _ _ _ (by rfl) 5 u8_elemN (by omega) Tryz.underlying119 (by rfl) ((Hown'.out.alloc _).drew) (by rfl) (one_at _ _ (by rfl) _ _) (one_int _ _) (by simp only [maxLen]; omega) (by omega) (by simp; omega) ?_; intro v1 w1 hown1 hg1 hz1; have Hb1 : Hid (Below (g + 1) _ w1) := Lib.hid (below_ownN ((Hb'.out.alloc hBd _).drew) ((Hown'.out.alloc _).drew) hg1 (by simp; omega)); clear hg1 hz1))
        go_wp2
        go_roundw
        case rel => exact ⟨_, acc ++ [c], rfl, by rw [Hsz.out, List.length_append, List.length_singleton]; omega, by rw [List.length_append, byteCells_app]; exact hown1, Hb1.out, E⟩
        case measure => simp only [strSize]; have := Hsz.out; omega
    · have E : Hid (cutText [] s.data.toList = .err 2) := Lib.hid (by rw [Hc.out, cutText_short _ (by rw [← Lib.size_eq]; omega)])
      have h1i : ¬ (1 : Int) < (y.size : Int) := by omega
      obtain ⟨q0, q1, q2, f0, f1, f2⟩ := box_at Hb.out hg
      obtain ⟨W3, hW3⟩ : ∃ W3, ((wr.setCell ⟨g, 0, none⟩ (.int .i64 0)).setCell ⟨g, 1, none⟩ (.int .i64 0)).setCell ⟨g, 2, none⟩ (.string ⟨#[]⟩) = W3 := ⟨_, rfl⟩
      have hp := box_store (x' := .int .i64 0) (y' := .int .i64 0) (z' := .string ⟨#[]⟩) q0 q1 q2
      have Hbw : Hid (Below g w W3) := Lib.hid (box_far Hb.out hg hW3)
      rw [hW3] at hp
      obtain ⟨p0, p1, p2⟩ := hp
      go_wp2
      refine bodyPost_ret (v := resVal (.err 2)) ?_ rfl ⟨by rw [E.out], by first | exact Hbw.out | (rw [hg]; exact Hbw.out)⟩
      simp [results, Tryz.results137, go_sem, resVal, p0, p1, p2]

end Go.Proofs.YtajombifjofmmaaGreat
