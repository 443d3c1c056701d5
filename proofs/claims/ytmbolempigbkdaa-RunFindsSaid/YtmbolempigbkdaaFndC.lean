/- slices.BinarySearchFunc over a run; Find of the program and of the document. Condition: few changes with short texts, in memory. -/
import Derived.Test.YtmbolempigbkdaaFndA
namespace Go.Proofs.Ytmbolempigbkdaa
open Go.RowKit
open Go.Lib (strCells compareBytes)

def SearchPost (l : List Chg) (key : List UInt8) (w : World) (e : Ending) (w' : World) : Prop :=
  ∃ (i : Nat) (f : Bool), e = .returned (.tuple #[.int .i64 (i : Int), .bool f]) ∧ Below w.heap.size w w' ∧ (f = true → ∃ c, l[i]? = some c ∧ look key l = some c) ∧ (f = false → look key l = none)
theorem cmpK_of {a b : Chg} : (a.kb < b.kb ∧ cmpK a b = -1) ∨ (a.kb = b.kb ∧ cmpK a b = 0) ∨ (b.kb < a.kb ∧ cmpK a b = 1) := by
  unfold cmpK
  rcases cmpB_cases a.kb b.kb with h | h | h
  · refine .inl ⟨?_, h⟩
    have := bytesLess_cmp a.kb b.kb
    rw [bytesLess_lt, h] at this
    simpa using this
  · exact .inr (.inl ⟨cmpB_zero h, h⟩)
  · refine .inr (.inr ⟨?_, h⟩)
    have := bytesLess_cmp b.kb a.kb
    rw [bytesLess_lt, cmpB_neg, h] at this
    simpa using this
theorem take_lt {l : List Chg} {m : Nat} {y : Chg} {key : List UInt8} (hr : Run l) (hy : l[m]? = some y) (h : y.kb < key) : ∀ x ∈ l.take (m + 1), x.kb < key := by
  have hs := (hr.take (m + 1)).2
  rw [take_snocC hy] at hs ⊢
  intro x hx
  rcases List.mem_append.1 hx with hx | hx
  · exact List.lt_trans ((srt_snoc.1 hs).2 x hx) h
  · simp at hx; subst hx; exact h
theorem drop_ge {l : List Chg} {m : Nat} {y : Chg} {key : List UInt8} (hr : Run l) (hy : l[m]? = some y) (h : ¬ y.kb < key) : ∀ x ∈ l.drop m, ¬ x.kb < key := by
  have hm := (List.getElem?_eq_some_iff.1 hy).1
  have e : l.drop m = y :: l.drop (m + 1) := by
    rw [List.drop_eq_getElem_cons hm]
    rw [List.getElem?_eq_getElem hm] at hy
    injection hy with hy
    rw [hy]
  have hs := (hr.drop m).2
  rw [e] at hs ⊢
  intro x hx
  rcases List.mem_cons.1 hx with rfl | hx
  · exact h
  · exact fun h2 => h (List.lt_trans ((List.pairwise_cons.1 hs).1 x hx) h2)
theorem look_gap {l : List Chg} {i : Nat} {key : List UInt8} (hr : Run l) (h1 : ∀ x ∈ l.take i, x.kb < key) (h2 : ∀ x ∈ l.drop i, ¬ x.kb < key) (h3 : ∀ c, l[i]? = some c → c.kb ≠ key) : look key l = none := by
  refine look_none.2 fun c hc => ?_
  rw [← List.take_append_drop i l] at hc
  rcases List.mem_append.1 hc with hc | hc
  · intro e
    have := h1 c hc
    rw [e] at this
    exact lt_irr _ this
  · cases hi : l[i]? with
    | none =>
      rw [List.drop_of_length_le (by rw [List.getElem?_eq_none_iff] at hi; exact hi)] at hc
      simp at hc
    | some y =>
      have hm := (List.getElem?_eq_some_iff.1 hi).1
      have e : l.drop i = y :: l.drop (i + 1) := by
        rw [List.drop_eq_getElem_cons hm]
        rw [List.getElem?_eq_getElem hm] at hi
        injection hi with hi
        rw [hi]
      have hs := (hr.drop i).2
      rw [e] at hs hc h2
      have hy := h3 y hi
      have hylt : key < y.kb := by
        rcases lt_tri key y.kb with h | h | h
        · exact h
        · exact absurd h.symm hy
        · exact absurd h (h2 y (by simp))
      rcases List.mem_cons.1 hc with rfl | hc
      · exact hy
      · intro e2
        have := List.lt_trans hylt ((List.pairwise_cons.1 hs).1 c hc)
        rw [e2] at this
        exact lt_irr _ this
set_option maxRecDepth 100000 in
set_option maxHeartbeats 3200000 in
theorem search_any (A : Option Addr) (n ca C : Nat) (l : List Chg) (t : Chg) (w : World) (h : HasChs w C A n l) (hC : C ≤ w.heap.size) (hn : n ≤ 700) (hr : Run l) :
    Calls Try.prog 38 #[.slice A n ca, cagg t, .func (.func 32) #[] #[]] w (SearchPost l t.kb w) := by
  have H := Lib.hid h
  have HC := Lib.hid hC
  have Hl := Lib.hid h.1
  have Hr := Lib.hid hr
  have Ht : Hid (t.kb = t.kb) := Lib.hid rfl
  obtain ⟨tk, tv, tg⟩ := t
  obtain ⟨key, hkey⟩ : ∃ key, (⟨tk, tv, tg⟩ : Chg).kb = key := ⟨_, rfl⟩
  rw [hkey]
  have Hkey := Lib.hid hkey
  have Hcall := Lib.hid (fun x wx => byKey_any x ⟨tk, tv, tg⟩ wx)
  unfold cagg at Hcall ⊢
  clear h hC hr Ht hkey
  go_enter Try.func38, Try.ntmps38
  go_wp2
  go_loopw [9, 10, 11] (fun iv jv _ wr => ∃ i j : Nat, i ≤ j ∧ j ≤ n ∧ iv = .int .i64 (i : Int) ∧ jv = .int .i64 (j : Int) ∧ Hid ((∀ x ∈ l.take i, x.kb < key) ∧ ∀ x ∈ l.drop j, ¬ x.kb < key) ∧ Below (w.heap.size + 1) (w.alloc (.cells #[.string tk, .string tv, .bool tg] 38)) wr) (fun iv jv _ _ => (intOf jv - intOf iv).toNat)
  case atStart => exact ⟨0, n, by omega, by omega, rfl, rfl, Lib.hid ⟨by simp, by rw [List.drop_of_length_le (by have := Hl.out; omega)]; simp⟩, Below.refl _ _⟩
  case round =>
    obtain ⟨i, j, hij, hjn, rfl, rfl, Hp, hb⟩ := hrel
    have Hb := Lib.hid hb
    have hsz : w.heap.size + 1 ≤ wr.heap.size := by have := hb.size; simpa using this
    obtain ⟨q0, q1, q2, -, -, -⟩ := box_at hb rfl
    clear hb
    by_cases hlt : i < j
    · obtain ⟨m, hm⟩ : ∃ m, (i + j) / 2 = m := ⟨_, rfl⟩
      obtain ⟨a, y, rfl, hab, hy, c0, c1, c2⟩ := (H.out.belowOf (below_in Hb.out HC.out) (Nat.le_refl _)).at_ (i := m) (by omega)
      have Hy := Lib.hid hy
      obtain ⟨yk, yv, yg⟩ := y
      simp only at c0 c1 c2
      have hmi : ((i : Int) + (j : Int)) / 2 = (m : Int) := by omega
      have hm0 : (0 : Int) ≤ (m : Int) := by omega
      have hm1 : (m : Int) < (n : Int) := by omega
      have hmij : i ≤ m ∧ m < j := by omega
      have Hk : Hid (∀ wx, Below wr.heap.size wr wx → (wx.cell? (a.add (m * 3)) = some (.string yk) ∧ wx.cell? ⟨(a.add (m * 3)).block, (a.add (m * 3)).off + 1, none⟩ = some (.string yv) ∧ wx.cell? ⟨(a.add (m * 3)).block, (a.add (m * 3)).off + 2, none⟩ = some (.bool yg) ∧ wx.cell? ⟨w.heap.size, 0, none⟩ = some (.string tk) ∧ wx.cell? ⟨w.heap.size, 1, none⟩ = some (.string tv) ∧ wx.cell? ⟨w.heap.size, 2, none⟩ = some (.bool tg)) ∧ Below wr.heap.size wr wx) := Lib.hid fun wx hb => by
        have k : ∀ {p : Addr} {u : Value}, p.block < wr.heap.size → wr.cell? p = some u → wx.cell? p = some u := fun hp hu => (hb.cell hp).trans hu
        have hai : (a.add (m * 3)).block < wr.heap.size := by rw [addr_block]; have := HC.out; omega
        exact ⟨⟨k hai c0, k hai c1, k hai c2, k hsz q0, k hsz q1, k hsz q2⟩, hb⟩
      clear hy hm hab c0 c1 c2 q0 q1 q2
      have Hcall1 := Lib.hid (fun wx => Hcall.out ⟨yk, yv, yg⟩ wx)
      have Hc3 := Lib.hid (cmpK_of (a := ⟨yk, yv, yg⟩) (b := ⟨tk, tv, tg⟩))
      rw [Hkey.out] at Hc3
      obtain ⟨z, hz⟩ : ∃ z, cmpK ⟨yk, yv, yg⟩ ⟨tk, tv, tg⟩ = z := ⟨_, rfl⟩
      rw [hz] at Hcall1 Hc3
      simp only at Hcall1
      clear hz
      by_cases hz : z < 0
      · have Hp1 : Hid ((∀ x ∈ l.take (m + 1), x.kb < key) ∧ ∀ x ∈ l.drop j, ¬ x.kb < key) := Lib.hid ⟨by
          have hyk : (⟨yk, yv, yg⟩ : Chg).kb < key := by
            rcases Hc3.out with ⟨h, _⟩ | ⟨_, h⟩ | ⟨_, h⟩
            · exact h
            · omega
            · omega
          exact take_lt Hr.out Hy.out hyk, Hp.out.2⟩
        go_wp2
        go_region_held3 (fun wx => (wx.cell? (a.add (m * 3)) = some (.string yk) ∧ wx.cell? ⟨(a.add (m * 3)).block, (a.add (m * 3)).off + 1, none⟩ = some (.string yv) ∧ wx.cell? ⟨(a.add (m * 3)).block, (a.add (m * 3)).off + 2, none⟩ = some (.bool yg) ∧ wx.cell? ⟨w.heap.size, 0, none⟩ = some (.string tk) ∧ wx.cell? ⟨w.heap.size, 1, none⟩ = some (.string tv) ∧ wx.cell? ⟨w.heap.size, 2, none⟩ = some (.bool tg)) ∧ Below wr.heap.size wr wx)
          (first | exact Hk.out _ (Below.refl _ _).drew | exact Hk.out _ (below_thn (And.right (by assumption)) hb2))
          (first | (go_at_call 32; refine (Hcall1.out _).mono ?_; rintro e w2 ⟨rfl, hb2⟩))
        all_goals
          have Hb2 := Lib.hid (Hb.out.trans ((And.right ‹(_ ∧ _) ∧ Below wr.heap.size wr w2›).mono hsz))
          clear hb2
          go_wp2
          go_roundw
          case rel => exact ⟨m + 1, j, by omega, by omega, by go_num, rfl, Hp1, Hb2.out⟩
          case measure => simp [intOf]; omega
      · have Hp1 : Hid ((∀ x ∈ l.take i, x.kb < key) ∧ ∀ x ∈ l.drop m, ¬ x.kb < key) := Lib.hid ⟨Hp.out.1, by
          have hyk : ¬ (⟨yk, yv, yg⟩ : Chg).kb < key := by
            rcases Hc3.out with ⟨_, h⟩ | ⟨h, _⟩ | ⟨h, _⟩
            · omega
            · rw [h]; exact lt_irr _
            · exact lt_asymm' h
          exact drop_ge Hr.out Hy.out hyk⟩
        go_wp2
        go_region_held3 (fun wx => (wx.cell? (a.add (m * 3)) = some (.string yk) ∧ wx.cell? ⟨(a.add (m * 3)).block, (a.add (m * 3)).off + 1, none⟩ = some (.string yv) ∧ wx.cell? ⟨(a.add (m * 3)).block, (a.add (m * 3)).off + 2, none⟩ = some (.bool yg) ∧ wx.cell? ⟨w.heap.size, 0, none⟩ = some (.string tk) ∧ wx.cell? ⟨w.heap.size, 1, none⟩ = some (.string tv) ∧ wx.cell? ⟨w.heap.size, 2, none⟩ = some (.bool tg)) ∧ Below wr.heap.size wr wx)
          (first | exact Hk.out _ (Below.refl _ _).drew | exact Hk.out _ (below_thn (And.right (by assumption)) hb2))
          (first | (go_at_call 32; refine (Hcall1.out _).mono ?_; rintro e w2 ⟨rfl, hb2⟩))
        all_goals
          have Hb2 := Lib.hid (Hb.out.trans ((And.right ‹(_ ∧ _) ∧ Below wr.heap.size wr w2›).mono hsz))
          clear hb2
          go_wp2
          go_roundw
          case rel => exact ⟨i, m, by omega, by omega, rfl, rfl, Hp1, Hb2.out⟩
          case measure => simp [intOf]; omega
    · obtain rfl : i = j := by omega
      by_cases hin : i < n
      · obtain ⟨a, y, rfl, hab, hy, c0, c1, c2⟩ := (H.out.belowOf (below_in Hb.out HC.out) (Nat.le_refl _)).at_ hin
        have Hy := Lib.hid hy
        obtain ⟨yk, yv, yg⟩ := y
        simp only at c0 c1 c2
        have hm0 : (0 : Int) ≤ (i : Int) := by omega
        have hm1 : (i : Int) < (n : Int) := by omega
        have Hk : Hid (∀ wx, Below wr.heap.size wr wx → (wx.cell? (a.add (i * 3)) = some (.string yk) ∧ wx.cell? ⟨(a.add (i * 3)).block, (a.add (i * 3)).off + 1, none⟩ = some (.string yv) ∧ wx.cell? ⟨(a.add (i * 3)).block, (a.add (i * 3)).off + 2, none⟩ = some (.bool yg) ∧ wx.cell? ⟨w.heap.size, 0, none⟩ = some (.string tk) ∧ wx.cell? ⟨w.heap.size, 1, none⟩ = some (.string tv) ∧ wx.cell? ⟨w.heap.size, 2, none⟩ = some (.bool tg)) ∧ Below wr.heap.size wr wx) := Lib.hid fun wx hb => by
          have k : ∀ {p : Addr} {u : Value}, p.block < wr.heap.size → wr.cell? p = some u → wx.cell? p = some u := fun hp hu => (hb.cell hp).trans hu
          have hai : (a.add (i * 3)).block < wr.heap.size := by rw [addr_block]; have := HC.out; omega
          exact ⟨⟨k hai c0, k hai c1, k hai c2, k hsz q0, k hsz q1, k hsz q2⟩, hb⟩
        clear hy hab c0 c1 c2 q0 q1 q2
        have Hcall1 := Lib.hid (fun wx => Hcall.out ⟨yk, yv, yg⟩ wx)
        have Hc3 := Lib.hid (cmpK_of (a := ⟨yk, yv, yg⟩) (b := ⟨tk, tv, tg⟩))
        rw [Hkey.out] at Hc3
        obtain ⟨z, hz⟩ : ∃ z, cmpK ⟨yk, yv, yg⟩ ⟨tk, tv, tg⟩ = z := ⟨_, rfl⟩
        rw [hz] at Hcall1 Hc3
        simp only at Hcall1
        clear hz
        by_cases hz : z = 0
        · subst hz
          have HE : Hid (∃ c, l[i]? = some c ∧ look key l = some c) := Lib.hid ⟨_, Hy.out, by
            have hk : (⟨yk, yv, yg⟩ : Chg).kb = key := by
              rcases Hc3.out with ⟨_, h⟩ | ⟨h, _⟩ | ⟨_, h⟩
              · exact absurd h (by decide)
              · exact h
              · exact absurd h (by decide)
            rw [← hk]
            exact look_of Hr.out.2 (List.mem_of_getElem? Hy.out)⟩
          go_wp2
          go_region_held3 (fun wx => (wx.cell? (a.add (i * 3)) = some (.string yk) ∧ wx.cell? ⟨(a.add (i * 3)).block, (a.add (i * 3)).off + 1, none⟩ = some (.string yv) ∧ wx.cell? ⟨(a.add (i * 3)).block, (a.add (i * 3)).off + 2, none⟩ = some (.bool yg) ∧ wx.cell? ⟨w.heap.size, 0, none⟩ = some (.string tk) ∧ wx.cell? ⟨w.heap.size, 1, none⟩ = some (.string tv) ∧ wx.cell? ⟨w.heap.size, 2, none⟩ = some (.bool tg)) ∧ Below wr.heap.size wr wx)
            (first | exact Hk.out _ (Below.refl _ _).drew | exact Hk.out _ (below_thn (And.right (by assumption)) hb2))
            (first | (go_at_call 32; refine (Hcall1.out _).mono ?_; rintro e w2 ⟨rfl, hb2⟩))
          all_goals
            have Hb2 := Lib.hid (Hb.out.trans ((And.right ‹(_ ∧ _) ∧ Below wr.heap.size wr w2›).mono hsz))
            clear hb2
            go_wp2
            go_ret2
            exact ⟨i, true, rfl, below_in Hb2.out (Nat.le_refl _), fun _ => HE.out, by simp⟩
        · have hzb : (z == 0) = false := by simpa using hz
          have HE : Hid (look key l = none) := Lib.hid (look_gap Hr.out Hp.out.1 Hp.out.2 fun c hc => by
            rw [Hy.out] at hc
            injection hc with hc
            subst hc
            rcases Hc3.out with ⟨h, _⟩ | ⟨_, h⟩ | ⟨h, _⟩
            · intro e; rw [e] at h; exact lt_irr _ h
            · exact absurd h hz
            · intro e; rw [e] at h; exact lt_irr _ h)
          clear hz
          go_wp2
          go_region_held3 (fun wx => (wx.cell? (a.add (i * 3)) = some (.string yk) ∧ wx.cell? ⟨(a.add (i * 3)).block, (a.add (i * 3)).off + 1, none⟩ = some (.string yv) ∧ wx.cell? ⟨(a.add (i * 3)).block, (a.add (i * 3)).off + 2, none⟩ = some (.bool yg) ∧ wx.cell? ⟨w.heap.size, 0, none⟩ = some (.string tk) ∧ wx.cell? ⟨w.heap.size, 1, none⟩ = some (.string tv) ∧ wx.cell? ⟨w.heap.size, 2, none⟩ = some (.bool tg)) ∧ Below wr.heap.size wr wx)
            (first | exact Hk.out _ (Below.refl _ _).drew | exact Hk.out _ (below_thn (And.right (by assumption)) hb2))
            (first | (go_at_call 32; refine (Hcall1.out _).mono ?_; rintro e w2 ⟨rfl, hb2⟩))
          all_goals
            have Hb2 := Lib.hid (Hb.out.trans ((And.right ‹(_ ∧ _) ∧ Below wr.heap.size wr w2›).mono hsz))
            clear hb2
            go_wp2
            go_ret2
            exact ⟨i, false, rfl, below_in Hb2.out (Nat.le_refl _), by simp, fun _ => HE.out⟩
      · have HE : Hid (look key l = none) := Lib.hid (look_gap Hr.out Hp.out.1 Hp.out.2 fun c hc => by
          have := (List.getElem?_eq_some_iff.1 hc).1
          have := Hl.out
          omega)
        obtain rfl : i = n := by omega
        go_wp2
        go_quiet (fail)
        go_wp2
        go_ret2
        exact ⟨i, false, rfl, below_dr (below_in Hb.out (Nat.le_refl _)) _, by simp, fun _ => HE.out⟩
end Go.Proofs.Ytmbolempigbkdaa
