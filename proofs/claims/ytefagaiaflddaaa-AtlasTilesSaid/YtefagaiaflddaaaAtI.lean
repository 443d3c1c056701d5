/- Which part has a text, by the document. Condition: the map is in memory. -/
import Derived.Test.YtefagaiaflddaaaAtH
namespace Go.Proofs.Ytefagaiaflddaaa
open Go.RowKit
open Go.Lib (strCells compareBytes)

theorem of_right {ep : Int} {l : List Pt} {k : Nat} {p : Pt} (h : checkT ep l = 0) (hp : l[k]? = some p) : ofT ep l (k : Int) = (p.lo, hiOf l k, true) := by
  have hk := (List.getElem?_eq_some_iff.1 hp).1
  unfold ofT
  rw [if_pos ⟨h, by omega, by omega⟩, Int.toNat_natCast, ptAt_of hp]
theorem of_wrong {ep : Int} {l : List Pt} {i : Int} (h : checkT ep l ≠ 0) : ofT ep l i = (⟨#[]⟩, ⟨#[]⟩, false) := if_neg fun h9 => h h9.1
theorem hi_next {l : List Pt} {k : Nat} {q : Pt} (hq : l[k + 1]? = some q) : hiOf l k = q.lo := by
  unfold hiOf
  rw [if_pos (List.getElem?_eq_some_iff.1 hq).1, ptAt_of hq]
theorem hi_last {l : List Pt} {k : Nat} (h : ¬ k + 1 < l.length) : hiOf l k = ⟨#[]⟩ := if_neg h
theorem lo_full {l : List Pt} {k : Nat} {q : Pt} (h : RightP l) (hq : l[k + 1]? = some q) : q.lo ≠ ⟨#[]⟩ := fun e => by
  have hk := (List.getElem?_eq_some_iff.1 hq).1
  have h1 := rise_at h.rise (Nat.lt_succ_self k) (List.getElem?_eq_getElem (by omega)) hq
  unfold Pt.lb at h1
  rw [e] at h1
  exact not_lt_nil _ h1
set_option maxRecDepth 100000 in
set_option maxHeartbeats 6400000 in
theorem refFind_any (ep : Int) (A : Option Addr) (n c C : Nat) (l : List Pt) (s : ByteArray) (w : World) (h : HasPts w C A n l) (hC : C ≤ w.heap.size) (hn : n ≤ maxLen) (hs : ∀ p ∈ l, p.lo.size ≤ maxLen) :
    Calls Try.prog 12 #[.agg #[.int .i64 ep, .slice A n c], .string s] w fun e w' => e = .returned (.tuple #[.int .i64 ((findT ep l s.data.toList).1 : Int), .bool (findT ep l s.data.toList).2]) ∧ Below w.heap.size w w' := by
  have HM := Lib.hid (fun wx (hx : Below (w.alloc (.cells #[.int .i64 ep, .slice A n c] 24)).heap.size (w.alloc (.cells #[.int .i64 ep, .slice A n c] 24)) wx) => map_box hx)
  have HO := Lib.hid (fun wx (i : Int) (hx : Below (w.alloc (.cells #[.int .i64 ep, .slice A n c] 24)).heap.size (w.alloc (.cells #[.int .i64 ep, .slice A n c] 24)) wx) => refOf_any ep A n c C l i wx (h.belowOf (map_box hx).2.2 hC) (Nat.le_trans hC (map_box hx).2.2.size) hn hs)
  have Hl := Lib.hid h.1
  obtain ⟨fi, hfi⟩ : ∃ fi, (findT ep l s.data.toList).1 = fi := ⟨_, rfl⟩
  obtain ⟨fb, hfb⟩ : ∃ fb, (findT ep l s.data.toList).2 = fb := ⟨_, rfl⟩
  rw [hfi, hfb]
  have HF := Lib.hid (And.intro hfi hfb)
  unfold maxLen at hn
  unfold OfPost at HO
  clear hfi hfb h hs
  by_cases h0 : checkT ep l = 0
  · have HR : Hid (RightP l) := Lib.hid (check_zero.1 h0).2.2
    have H0 := Lib.hid h0
    have hfe : findT ep l s.data.toList = (holdN l s.data.toList, true) := if_pos h0
    rw [hfe] at HF
    obtain ⟨hfi, rfl⟩ := HF.out
    have HI : Hid (HoldIs l s.data.toList fi) := Lib.hid (by rw [← hfi]; exact hold_is HR.out _)
    have hin : fi < n := by have := hold_lt HI.out; have := Hl.out; omega
    have hn8 : n ≤ 8 := by have := HR.out.most; have := Hl.out; omega
    clear hfe hfi HF h0
    go_enter Try.func12, Try.ntmps12
    go_wp2
    go_loopw [6, 7, 8] (fun iv _ _ wr => ∃ k : Nat, k ≤ fi ∧ iv = .int .i64 (k : Int) ∧ Below (w.alloc (.cells #[.int .i64 ep, .slice A n c] 24)).heap.size (w.alloc (.cells #[.int .i64 ep, .slice A n c] 24)) wr) (fun iv _ _ _ => n - (intOf iv).toNat)
    case atStart => exact ⟨0, by omega, rfl, Below.refl _ _⟩
    case round =>
      obtain ⟨k, hk, rfl, hb⟩ := hrel
      have Hb := Lib.hid hb
      obtain ⟨q0, q1, -⟩ := HM.out wr hb
      obtain ⟨p, hp⟩ : ∃ p, l[k]? = some p := ⟨_, List.getElem?_eq_getElem (by have := Hl.out; omega)⟩
      have Ho := Lib.hid (HO.out wr (k : Int) hb)
      rw [of_right H0.out hp] at Ho
      have hk0 : (0 : Int) ≤ (k : Int) := by omega
      have hk1 : (k : Int) < (n : Int) := by omega
      obtain ⟨p', hp', hge⟩ := HI.out.1
      have hlo : ¬ s.data.toList < p.lo.data.toList := by
        by_cases e : k = fi
        · subst e
          rw [hp] at hp'
          injection hp' with hp'
          subst hp'
          exact hge
        · exact fun h9 => hge (List.lt_trans h9 (rise_at HR.out.rise (by omega) hp hp'))
      have hd := text_less s p.lo
      rw [decide_eq_false hlo] at hd
      clear hb hlo hge
      by_cases hki : k = fi
      · subst hki
        by_cases hkn : k + 1 < n
        · obtain ⟨q, hq⟩ : ∃ q, l[k + 1]? = some q := ⟨_, List.getElem?_eq_getElem (by have := Hl.out; omega)⟩
          rw [hi_next hq] at Ho
          have hne := text_nil (lo_full HR.out hq)
          have hd2 := text_less s q.lo
          rw [decide_eq_true (show s.data.toList < q.lo.data.toList from HI.out.2 (k + 1) q (by omega) hq)] at hd2
          clear hp hp' hq
          go_wp2_with fail
          refine Ho.out.mono ?_
          rintro e w5 ⟨rfl, b5⟩
          have HE := Lib.hid (HM.out _ ((Hb.out.trans (b5.mono Hb.out.size)).alloc (Nat.le_trans Hb.out.size b5.size) (Obj.cells #[.string p.lo, .string q.lo] 30))).2.2
          clear b5
          go_wp2
          go_ret2
          exact ⟨rfl, HE.out⟩
        · rw [hi_last (by rw [Hl.out]; exact hkn)] at Ho
          clear hp hp'
          go_wp2_with fail
          refine Ho.out.mono ?_
          rintro e w5 ⟨rfl, b5⟩
          have HE := Lib.hid (HM.out _ ((Hb.out.trans (b5.mono Hb.out.size)).alloc (Nat.le_trans Hb.out.size b5.size) (Obj.cells #[.string p.lo, .string ⟨#[]⟩] 30))).2.2
          clear b5
          go_wp2
          go_ret2
          exact ⟨rfl, HE.out⟩
      · obtain ⟨q, hq⟩ : ∃ q, l[k + 1]? = some q := ⟨_, List.getElem?_eq_getElem (by have := Hl.out; omega)⟩
        rw [hi_next hq] at Ho
        have hne := text_nil (lo_full HR.out hq)
        have hd2 := text_less s q.lo
        have hq2 : ¬ s.data.toList < q.lo.data.toList := by
          obtain ⟨p', hp', hge⟩ := HI.out.1
          by_cases e : k + 1 = fi
          · subst e
            rw [hq] at hp'
            injection hp' with hp'
            subst hp'
            exact hge
          · exact fun h9 => hge (List.lt_trans h9 (rise_at HR.out.rise (by omega) hq hp'))
        rw [decide_eq_false hq2] at hd2
        clear hp hp' hq hq2
        go_wp2_with fail
        refine Ho.out.mono ?_
        rintro e w5 ⟨rfl, b5⟩
        have HE := Lib.hid ((Hb.out.trans (b5.mono Hb.out.size)).alloc (Nat.le_trans Hb.out.size b5.size) (Obj.cells #[.string p.lo, .string q.lo] 30))
        clear b5
        go_wp2
        go_roundw
        case rel => exact ⟨k + 1, by omega, by go_num, HE.out⟩
        case measure => simp [intOf]; omega
  · have hfe : findT ep l s.data.toList = (0, false) := if_neg h0
    rw [hfe] at HF
    obtain ⟨rfl, rfl⟩ := HF.out
    have H0 := Lib.hid h0
    clear hfe HF h0
    go_enter Try.func12, Try.ntmps12
    go_wp2
    go_loopw [6, 7, 8] (fun iv _ _ wr => ∃ k : Nat, k ≤ n ∧ iv = .int .i64 (k : Int) ∧ Below (w.alloc (.cells #[.int .i64 ep, .slice A n c] 24)).heap.size (w.alloc (.cells #[.int .i64 ep, .slice A n c] 24)) wr) (fun iv _ _ _ => n - (intOf iv).toNat)
    case atStart => exact ⟨0, by omega, rfl, Below.refl _ _⟩
    case round =>
      obtain ⟨k, hk, rfl, hb⟩ := hrel
      have Hb := Lib.hid hb
      obtain ⟨q0, q1, hbw⟩ := HM.out wr hb
      have HW := Lib.hid hbw
      have Ho := Lib.hid (HO.out wr (k : Int) hb)
      rw [of_wrong H0.out] at Ho
      clear hb hbw
      by_cases hlt : k < n
      · have hk1 : (k : Int) < (n : Int) := by omega
        go_wp2_with fail
        refine Ho.out.mono ?_
        rintro e w5 ⟨rfl, b5⟩
        have HE := Lib.hid ((Hb.out.trans (b5.mono Hb.out.size)).alloc (Nat.le_trans Hb.out.size b5.size) (Obj.cells #[.string ⟨#[]⟩, .string ⟨#[]⟩] 30))
        clear b5
        go_wp2
        go_roundw
        case rel => exact ⟨k + 1, by omega, by go_num, HE.out⟩
        case measure => simp [intOf]; omega
      · obtain rfl : n = k := by omega
        go_wp2
        go_ret2
        exact ⟨rfl, HW.out⟩
end Go.Proofs.Ytefagaiaflddaaa
