/- The document's Make and Merge of layer 9 give what the plain text (SpecRun) gives. Condition: rows in memory; Merge of ten lists of sixty changes at most. -/
import Derived.Test.YtmbolempigbkdaaChgD
namespace Go.Proofs.Ytmbolempigbkdaa
open Go.RowKit
open Go.Lib (strCells compareBytes)

theorem len_over : ∀ (l a : List Chg), (overL a l).length ≤ a.length + l.length
  | [], a => by simp [overL]
  | c :: l, a => by
    have h1 := len_over l (putC (tidy c) a)
    have h2 := len_putC (tidy c) a
    simp only [overL, List.foldl_cons, List.length_cons] at h1 ⊢
    omega
theorem len_merge : ∀ {rs : List (List Chg)}, (∀ r ∈ rs, r.length ≤ 60) → (mergeL rs).length ≤ 60 * rs.length
  | [], _ => by simp [mergeL]
  | r :: rs, h => by
    have h1 := len_merge (rs := rs) fun x hx => h x (List.mem_cons_of_mem _ hx)
    have h2 := len_over r (mergeL rs)
    have h3 := h r (by simp)
    simp only [mergeL, List.foldr_cons, List.length_cons] at h1 h2 ⊢
    omega
theorem merge_drop {rs : List (List Chg)} {k : Nat} {r : List Chg} (h : rs[k]? = some r) : mergeL (rs.drop k) = overL (mergeL (rs.drop (k + 1))) r := by
  have hk := (List.getElem?_eq_some_iff.1 h).1
  rw [List.drop_eq_getElem_cons hk]
  rw [List.getElem?_eq_getElem hk] at h
  injection h with h
  rw [h]
  rfl

set_option maxRecDepth 100000 in
set_option maxHeartbeats 1600000 in
theorem refMake_any (A : Option Addr) (n ca C : Nat) (l : List Chg) (w : World) (h : HasChs w C A n l) (hC : C ≤ w.heap.size) (hn : n ≤ 5000) :
    Calls Try.prog 13 #[.slice A n ca] w (GivesC w.heap.size (makeL l) w) := by
  have H := Lib.hid h
  have HC := Lib.hid hC
  clear h hC
  have Hl := Lib.hid H.out.1
  go_enter Try.func13, Try.ntmps13
  go_wp2
  go_loopw [3, 4] (fun o i wr => ∃ k : Nat, k ≤ n ∧ i = .int .i64 (k : Int) ∧ OwnChs wr w.heap.size o (overL [] (l.take k)) ∧ Below w.heap.size w wr) (fun _ i _ => n - (intOf i).toNat)
  case atStart => exact ⟨0, by omega, rfl, OwnChs.nil _ _, Below.refl _ _⟩
  case round =>
    obtain ⟨k, hk, rfl, hown, hb⟩ := hrel
    have hsz := hb.size
    by_cases hlt : k < n
    · obtain ⟨a, y, rfl, hab, hy, c0, c1, c2⟩ := (H.out.belowOf hb HC.out).at_ hlt
      have Hot := Lib.hid (over_take (a := []) hy)
      have hlen := len_over (l.take k) []
      obtain ⟨A1, n1, rfl, hc1, hm1, hh1⟩ := hown.slice
      obtain ⟨m1, hm⟩ : ∃ m, (overL [] (l.take k)).length = m := ⟨_, rfl⟩
      rw [hm] at hh1 hc1 hlen
      have Hh1 := Lib.hid hh1
      have Hb := Lib.hid hb
      have hm5 : m1 ≤ 10000 := by
        rw [List.length_take, List.length_nil] at hlen
        omega
      rw [hm]
      clear hown hh1 hm1 hlen hy hb
      obtain ⟨yk, yv, yg⟩ := y
      simp only at c0 c1 c2
      go_wp2_with fail
      refine (refPut_any A1 m1 n1 _ _ ⟨yk, yv, yg⟩ wr Hh1.out (Nat.le_refl _) hm5 hc1).mono ?_
      rintro e w2 ⟨v2, rfl, hown2, hb2⟩
      have Hown2 := Lib.hid hown2
      have Hb2 := Lib.hid (Hb.out.trans (hb2.mono hsz))
      clear hown2 hb2
      go_wp2
      go_roundw
      case rel => exact ⟨k + 1, by omega, by go_num, by rw [Hot.out]; exact own_baseN Hown2.out hsz, Hb2.out⟩
      case measure => simp [intOf]; omega
    · obtain rfl : k = n := by omega
      have E : Hid (l.take k = l) := Lib.hid (List.take_of_length_le (by have := Hl.out; omega))
      rw [E.out] at hown
      go_wp2
      go_ret
      exact ⟨_, rfl, hown, hb⟩

/-! ### rows of rows of changes -/
abbrev Crs := List (Value × List Chg)
def crCells (rs : Crs) : List Value := rs.map (·.1)
def crLists (rs : Crs) : List (List Chg) := rs.map (·.2)
/-- n rows of changes, in memory below block B -/
def HasCrs (w : World) (B : Nat) (A : Option Addr) (n : Nat) (rs : Crs) : Prop :=
  Has w B A n (crCells rs) ∧ ∀ r ∈ rs, ∃ A' m c, r.1 = .slice A' m c ∧ m ≤ c ∧ c ≤ maxLen ∧ HasChs w B A' m r.2
theorem HasCrs.belowOf {w w' : World} {B C n : Nat} {A : Option Addr} {rs : Crs} (h : HasCrs w B A n rs) (hb : Below C w w') (hC : B ≤ C) : HasCrs w' B A n rs :=
  ⟨h.1.belowOf hb hC, fun r hr => by
    obtain ⟨A', m, c, e, h1, h2, h3⟩ := h.2 r hr
    exact ⟨A', m, c, e, h1, h2, h3.belowOf hb hC⟩⟩
theorem HasCrs.len {w : World} {B n : Nat} {A : Option Addr} {rs : Crs} (h : HasCrs w B A n rs) : rs.length = n := by have := h.1.1; simpa [crCells] using this
theorem crLists_len (rs : Crs) : (crLists rs).length = rs.length := by simp [crLists]
/-- row i -/
theorem HasCrs.at_ {w : World} {B n : Nat} {A : Option Addr} {rs : Crs} (h : HasCrs w B A n rs) {i : Nat} (hi : i < n) : ∃ (a : Addr) (A' : Option Addr) (m c : Nat) (l : List Chg), A = some a ∧ a.block < B ∧ (crLists rs)[i]? = some l ∧ m ≤ c ∧ c ≤ maxLen ∧ HasChs w B A' m l ∧ w.cell? (a.add i) = some (.slice A' m c) ∧ (crCells rs)[i]? = some (.slice A' m c) := by
  have hil : i < rs.length := by have := h.len; omega
  obtain ⟨A', m, c, e, h1, h2, h3⟩ := h.2 rs[i] (List.getElem_mem hil)
  obtain ⟨a, rfl, hb, hc⟩ := h.1.all (by omega)
  have hg : (crCells rs)[i]? = some (.slice A' m c) := by simp [crCells, hil, e]
  exact ⟨a, A', m, c, _, rfl, hb, by simp [crLists, hil], h1, h2, h3, hc i _ hg, hg⟩

/-- What Merge answers: the run that is merged, or that one of the lists isn't a run. -/
def MergePost (B : Nat) (rs : List (List Chg)) (w : World) (e : Ending) (w' : World) : Prop :=
  Below B w w' ∧ (((∀ r ∈ rs, Run r) ∧ ∃ v, e = .returned (.tuple #[v, .int .i64 0]) ∧ OwnChs w' B v (mergeL rs)) ∨ ((¬ ∀ r ∈ rs, Run r) ∧ e = .returned (.tuple #[.slice none 0 0, .int .i64 3])))

set_option maxRecDepth 100000 in
set_option maxHeartbeats 1600000 in
theorem refMerge_any (A : Option Addr) (n ca C : Nat) (rs : Crs) (w : World) (h : HasCrs w C A n rs) (hC : C ≤ w.heap.size) (hn : n ≤ 10) (hr : ∀ r ∈ crLists rs, r.length ≤ 60) :
    Calls Try.prog 18 #[.slice A n ca] w (MergePost w.heap.size (crLists rs) w) := by
  have H := Lib.hid h
  have HC := Lib.hid hC
  have Hr := Lib.hid hr
  have Hl : Hid ((crLists rs).length = n) := Lib.hid (by rw [crLists_len]; exact h.len)
  clear h hC hr
  go_enter Try.func18, Try.ntmps18
  go_wp2
  go_loopw [5] (fun i wr => ∃ k : Nat, k ≤ n ∧ i = .int .i64 (k : Int) ∧ Hid (∀ r ∈ (crLists rs).take k, Run r) ∧ Below w.heap.size w wr) (fun i _ => n - (intOf i).toNat)
  case atStart => exact ⟨0, by omega, rfl, Lib.hid (by simp), Below.refl _ _⟩
  case round =>
    obtain ⟨k, hk, rfl, Hp, hb⟩ := hrel
    have Hb := Lib.hid hb
    have hsz := hb.size
    clear hb
    by_cases hlt : k < n
    · obtain ⟨a, A1, m1, c1, l, rfl, hab, hg, h1, h2, h3, d0, -⟩ := (H.out.belowOf Hb.out HC.out).at_ hlt
      have Hg := Lib.hid hg
      have H3 := Lib.hid h3
      have hm1 : m1 ≤ maxLen := by omega
      clear hg h3 h2
      by_cases hrun : Run l
      · have E : Hid (runB l = true) := Lib.hid (runB_true hrun)
        have Hp1 : Hid (∀ r ∈ (crLists rs).take (k + 1), Run r) := Lib.hid (by
          rw [List.take_add_one, Hg.out]
          intro x hx
          rcases List.mem_append.1 hx with hx | hx
          · exact Hp.out x hx
          · simp at hx; subst hx; exact hrun)
        have Hc := Lib.hid (refRight_any A1 m1 c1 C l wr H3.out hm1 (Nat.le_trans HC.out hsz))
        rw [E.out] at Hc
        clear hrun
        go_wp2_with fail
        refine Hc.out.mono ?_
        rintro e w2 ⟨rfl, hb2⟩
        have Hb2 := Lib.hid (Hb.out.trans (hb2.mono hsz))
        clear hb2
        go_wp2
        go_roundw
        case rel => exact ⟨k + 1, by omega, by go_num, Hp1, Hb2.out⟩
        case measure => simp [intOf]; omega
      · have E : Hid (runB l = false) := Lib.hid (runB_false hrun)
        have Hno : Hid (¬ ∀ r ∈ crLists rs, Run r) := Lib.hid fun h => hrun (h l (List.mem_of_getElem? Hg.out))
        have Hc := Lib.hid (refRight_any A1 m1 c1 C l wr H3.out hm1 (Nat.le_trans HC.out hsz))
        rw [E.out] at Hc
        clear hrun
        go_wp2_with fail
        refine Hc.out.mono ?_
        rintro e w2 ⟨rfl, hb2⟩
        have Hb2 := Lib.hid (Hb.out.trans (hb2.mono hsz))
        clear hb2
        go_wp2
        go_ret2
        exact ⟨Hb2.out, .inr ⟨Hno.out, rfl⟩⟩
    · have Hall : Hid (∀ r ∈ crLists rs, Run r) := Lib.hid (by have h1 := Hp.out; rwa [List.take_of_length_le (by have := Hl.out; omega)] at h1)
      obtain rfl : k = n := by omega
      generalize wr = wa at *
      go_wp2
      go_loopw [4, 6, 7] (fun o i _ wr => ∃ q : Nat, q ≤ k ∧ i = .int .i64 ((q : Int) - 1) ∧ OwnChs wr w.heap.size o (mergeL ((crLists rs).drop q)) ∧ Below w.heap.size w wr) (fun _ i _ _ => (intOf i + 1).toNat)
      case atStart => exact ⟨k, by omega, by go_num, by rw [List.drop_of_length_le (by have := Hl.out; omega)]; exact OwnChs.nil _ _, Hb.out⟩
      case round =>
        obtain ⟨q, hq, rfl, hown, hb⟩ := hrel
        have Hb := Lib.hid hb
        have Hown := Lib.hid hown
        have hsz := hb.size
        clear hb hown
        by_cases hq0 : q = 0
        · subst hq0
          go_wp2
          go_ret2
          exact ⟨Hb.out, .inl ⟨Hall.out, _, rfl, Hown.out⟩⟩
        · obtain ⟨p, rfl⟩ : ∃ p, q = p + 1 := ⟨q - 1, by omega⟩
          clear hq0
          have hpz : ((p + 1 : Nat) : Int) - 1 = (p : Int) := by omega
          rw [hpz]
          clear hpz
          obtain ⟨a, A1, m1, c1, l, rfl, hab, hg, h1, h2, h3, -, hcr1⟩ := H.out.at_ (i := p) (by omega)
          have Hcr1 := Lib.hid hcr1
          have H3 := Lib.hid h3
          clear hcr1
          have Hg := Lib.hid hg
          have Hmd := Lib.hid (merge_drop hg)
          have hm60 : m1 ≤ 60 := by have := Hr.out l (List.mem_of_getElem? hg); have := h3.1; omega
          clear hg h3 h2
          generalize wr = wb at *
          go_wp2
          go_loopw [4, 7] (fun o j wr => ∃ t : Nat, t ≤ m1 ∧ j = .int .i64 (t : Int) ∧ OwnChs wr w.heap.size o (overL (mergeL ((crLists rs).drop (p + 1))) (l.take t)) ∧ Below w.heap.size w wr) (fun _ j _ => m1 - (intOf j).toNat)
          case atStart => exact ⟨0, by omega, rfl, Hown.out, Hb.out⟩
          case round =>
            obtain ⟨t, ht, rfl, hown, hb⟩ := hrel
            have Hb2 := Lib.hid hb
            have Hown2 := Lib.hid hown
            have hsz2 := hb.size
            clear hb hown
            obtain ⟨a', A2, m2, c2, l2, e1, -, -, -, -, -, d0, hcr⟩ := (H.out.belowOf Hb2.out HC.out).at_ (i := p) (by omega)
            injection e1 with e1
            subst e1
            rw [Hcr1.out] at hcr
            injection hcr with hcr
            rw [← hcr] at d0
            clear hcr
            have hp0 : (0 : Int) ≤ (p : Int) := by omega
            have hp1 : (p : Int) < (k : Int) := by omega
            by_cases hlt : t < m1
            · obtain ⟨b, y, rfl, hbb, hy, x0, x1, x2⟩ := (H3.out.belowOf Hb2.out HC.out).at_ hlt
              have Hot := Lib.hid (over_take (a := mergeL ((crLists rs).drop (p + 1))) hy)
              have hlen := len_over (l.take t) (mergeL ((crLists rs).drop (p + 1)))
              have hlen2 := len_merge (rs := (crLists rs).drop (p + 1)) fun r hr => Hr.out r (List.mem_of_mem_drop hr)
              rw [List.length_drop, Hl.out] at hlen2
              obtain ⟨A3, n3, rfl, hc3, hm3, hh3⟩ := Hown2.out.slice
              obtain ⟨m3, hm⟩ : ∃ m, (overL (mergeL ((crLists rs).drop (p + 1))) (l.take t)).length = m := ⟨_, rfl⟩
              rw [hm] at hh3 hc3 hlen
              have Hh3 := Lib.hid hh3
              have hm5 : m3 ≤ 10000 := by
                rw [List.length_take] at hlen
                omega
              rw [hm]
              clear hh3 hm3 hlen hlen2 hy Hown2
              obtain ⟨yk, yv, yg⟩ := y
              simp only at x0 x1 x2
              go_wp2_with fail
              refine (refPut_any A3 m3 n3 _ _ ⟨yk, yv, yg⟩ wr Hh3.out (Nat.le_refl _) hm5 hc3).mono ?_
              rintro e w2 ⟨v2, rfl, hown2, hb2⟩
              have Hown2 := Lib.hid hown2
              have Hb3 := Lib.hid (Hb2.out.trans (hb2.mono hsz2))
              clear hown2 hb2
              go_wp2
              go_roundw
              case rel => exact ⟨t + 1, by omega, by go_num, by rw [Hot.out]; exact own_baseN Hown2.out hsz2, Hb3.out⟩
              case measure => simp [intOf]; omega
            · obtain rfl : t = m1 := by omega
              have E : Hid (l.take t = l) := Lib.hid (List.take_of_length_le (by have := H3.out.1; omega))
              rw [E.out] at Hown2
              go_wp2
              go_roundw
              case rel => exact ⟨p, by omega, rfl, by rw [Hmd.out]; exact Hown2.out, Hb2.out⟩
              case measure => simp [intOf]
end Go.Proofs.Ytmbolempigbkdaa
