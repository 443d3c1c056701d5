/- The document's put, Make and Merge of layer 9 give what the plain text (SpecRun) gives. Condition: rows in memory, ten thousand changes at most. -/
import Derived.Test.YteioopcacpihpaaChgC
namespace Go.Proofs.Yteioopcacpihpaa
open Go.RowKit
open Go.Lib (strCells compareBytes)

theorem putC_far {c : Chg} : ∀ {l : List Chg} {k : Nat}, (∀ x ∈ l.take k, x.kb < c.kb) → putC c l = l.take k ++ putC c (l.drop k)
  | _, 0, _ => by simp
  | [], k + 1, _ => by simp
  | y :: l, k + 1, h => by
    have ih := putC_far (c := c) (l := l) (k := k) fun x hx => h x (by simp [hx])
    rw [putC, if_pos (h y (by simp)), ih]
    simp
theorem putC_stop {c y : Chg} {l : List Chg} {k : Nat} (h : ∀ x ∈ l.take k, x.kb < c.kb) (hy : l[k]? = some y) (hn : ¬ y.kb < c.kb) : putC c l = l.take k ++ [c] ++ l.drop (if y.kb = c.kb then k + 1 else k) := by
  have hk := (List.getElem?_eq_some_iff.1 hy).1
  have e : l.drop k = y :: l.drop (k + 1) := by
    rw [List.drop_eq_getElem_cons hk]
    rw [List.getElem?_eq_getElem hk] at hy
    injection hy with hy
    rw [hy]
  rw [putC_far h, e, putC, if_neg hn]
  by_cases he : y.kb = c.kb
  · simp [he]
  · simp [he, e]
theorem putC_end {c : Chg} {l : List Chg} {k : Nat} (h : ∀ x ∈ l.take k, x.kb < c.kb) (hk : l.length ≤ k) : putC c l = l.take k ++ [c] ++ l.drop k := by
  rw [putC_far h, List.drop_of_length_le hk, List.append_assoc]
  rfl
theorem len_putC (c : Chg) : ∀ (l : List Chg), (putC c l).length ≤ l.length + 1
  | [] => by simp [putC]
  | y :: l => by
    have := len_putC c l
    unfold putC
    split
    · simp; omega
    · split <;> simp
theorem take_snocC {l : List Chg} {k : Nat} {c : Chg} (h : l[k]? = some c) : l.take (k + 1) = l.take k ++ [c] := by rw [List.take_add_one, h]; rfl
theorem own_eqC {w : World} {B m m' : Nat} {v : Value} {xs xs' : List Value} (h : w.ownsRow B 38 3 v m xs) (hm : m = m') (hx : xs = xs') : w.ownsRow B 38 3 v m' xs' := by
  subst hm
  subst hx
  exact h
theorem HasChs.cut {w : World} {B n : Nat} {A : Option Addr} {l : List Chg} (h : HasChs w B A n l) {k c : Nat} (hk : k ≤ n) (hc : n ≤ c) : Has w B (if c = k then A else A.map (·.add (k * 3))) ((n - k) * 3) (chgCells (l.drop k)) := by
  have h2 := h.part hk
  rcases Nat.lt_or_ge k n with hlt | hge
  · rw [if_neg (by omega)]
    exact h2.2
  · have e : l.drop k = [] := List.drop_eq_nil_of_le (by rw [h.1]; omega)
    rw [e, show (n - k) * 3 = 0 by omega]
    exact Has.nil _ _ _
theorem below_in {B : Nat} {w w' : World} {o : Obj} (h : Below (w.heap.size + 1) (w.alloc o) w') (hB : B ≤ w.heap.size) : Below B w w' := ((Below.refl B w).alloc hB o).trans (h.mono (by omega))

theorem own_drawn2 {w : World} {B m : Nat} {v : Value} {xs : List Value} (h : w.ownsRow B 38 3 v m xs) (k : Nat) : (w.drewN k).ownsRow B 38 3 v m xs := own_belowN h (below_dr (Below.refl _ _) k)
theorem below_app2 {B m k : Nat} {w0 w w' : World} {v : Value} {xs : List Value} (hb : Below B w0 w) (h : w.ownsRow B 38 3 v m xs) (hg : (w.drewN k).grownBy w' v.ownBlock) (hB : B ≤ w.heap.size) : Below B w0 w' :=
  below_ownN (below_dr hb k) (own_drawn2 h k) hg hB
theorem gives_put {w w' : World} {v : Value} {m : Nat} {xs : List Value} {L : List Chg} (h : w'.ownsRow (w.heap.size + 1) 38 3 v m xs) (hx : xs = chgCells L) (hb : Below w.heap.size w w') : GivesC w.heap.size L w (.returned v) w' := by
  subst hx
  refine ⟨v, rfl, ?_, hb⟩
  have h1 := h.1
  rw [chgCells_len] at h1
  unfold OwnChs
  rw [show L.length = m by omega]
  exact own_baseN h (by omega)
/-- a row of the call's own behind draws and a new block -/
theorem own_drawn {w : World} {B m : Nat} {v : Value} {xs : List Value} (h : w.ownsRow B 38 3 v m xs) (k : Nat) (o : Obj) : ((w.drewN k).alloc o).ownsRow B 38 3 v m xs :=
  own_belowN h ((below_dr (Below.refl _ _) k).alloc (Nat.le_refl _) o)
theorem below_app {B m k : Nat} {w0 w w' : World} {v : Value} {xs : List Value} {o : Obj} (hb : Below B w0 w) (h : w.ownsRow B 38 3 v m xs) (hg : ((w.drewN k).alloc o).grownBy w' v.ownBlock) (hB : B ≤ w.heap.size) : Below B w0 w' :=
  below_ownN ((below_dr hb k).alloc hB o) (own_drawn h k o) hg (Nat.le_trans hB (Nat.le_of_lt (by simp only [World.size_alloc]; exact Nat.lt_succ_self _)))

set_option maxRecDepth 100000 in
set_option maxHeartbeats 3200000 in
theorem refPut_any (A : Option Addr) (n ca C : Nat) (l : List Chg) (c : Chg) (w : World) (h : HasChs w C A n l) (hC : C ≤ w.heap.size) (hn : n ≤ 10000) (hnc : n ≤ ca) :
    Calls Try.prog 49 #[.slice A n ca, cagg c] w (GivesC w.heap.size (putC (tidy c) l) w) := by
  have H := Lib.hid h
  have HC := Lib.hid hC
  clear h hC
  have Hl := Lib.hid H.out.1
  obtain ⟨ck, cv, cg⟩ := c
  unfold cagg
  cases cg with
  | false =>
    have hT : tidy ⟨ck, cv, false⟩ = ⟨ck, cv, false⟩ := rfl
    rw [hT]
    clear hT
    go_enter Try.func49, Try.ntmps49
    go_wp2
    go_loopw [5, 6] (fun o i wr => ∃ k : Nat, k ≤ n ∧ i = .int .i64 (k : Int) ∧ wr.ownsRow (w.heap.size + 1) 38 3 o k (chgCells (l.take k)) ∧ Hid (∀ x ∈ l.take k, x.kb < ck.data.toList) ∧ Below (w.heap.size + 1) (w.alloc (.cells #[.string ck, .string cv, .bool false] 38)) wr) (fun _ i _ => n - (intOf i).toNat)
    case atStart => exact ⟨0, by omega, rfl, World.ownsRow_nil _ _ _ _, Lib.hid (by simp), Below.refl _ _⟩
    case round =>
      obtain ⟨k, hk, rfl, hown, Hp, hb⟩ := hrel
      have Hown := Lib.hid hown
      have Hb := Lib.hid hb
      have hsz : w.heap.size + 1 ≤ wr.heap.size := by have := hb.size; simpa using this
      have hsz2 : ∀ (nq : Nat) (o : Obj), w.heap.size + 1 ≤ ((wr.drewN nq).alloc o).heap.size := fun nq o => Nat.le_trans hsz (Nat.le_of_lt (by simp only [World.size_alloc]; exact Nat.lt_succ_self _))
      obtain ⟨q0, q1, q2, f0, f1, f2⟩ := box_at hb rfl
      clear hown hb f0 f1 f2
      by_cases hlt : k < n
      · obtain ⟨a, y, rfl, hab, hy, c0, c1, c2⟩ := (H.out.belowOf (below_in Hb.out HC.out) (Nat.le_refl _)).at_ hlt
        have Hy := Lib.hid hy
        have Hts := Lib.hid (take_snocC hy)
        obtain ⟨yk, yv, yg⟩ := y
        have hk0 : (0 : Int) ≤ (k : Int) := by omega
        have hk1 : (k : Int) < (n : Int) := by omega
        clear hy
        by_cases hkl : yk.data.toList < ck.data.toList
        · have hb1 : Op.bytesLess yk.toList ck.toList = true := by rw [ByteArray.toList_eq, ByteArray.toList_eq, bytesLess_lt]; exact decide_eq_true hkl
          have Hp1 : Hid (∀ x ∈ l.take (k + 1), x.kb < ck.data.toList) := Lib.hid (by
            rw [Hts.out]
            intro x hx
            rcases List.mem_append.1 hx with hx | hx
            · exact Hp.out x hx
            · simp at hx; subst hx; exact hkl)
          clear hkl
          simp only at c0 c1 c2
          go_wp2
          go_quiet (fail)
          go_wp2_with (at_builtin; refine wpList_append_hasN rfl (.tmp 24) (.tmp 29) _ rfl 38 chg_elem (by omega) Try.underlying22 rfl (own_drawn Hown.out _ _) rfl (chg_lit _ ⟨yk, yv, yg⟩) (chgCells_one _) (by simp only [maxLen]; omega) (by omega) (hsz2 _ _) ?_; intro v2 w2 hown2 hg2 _)
          have Hb2 := Lib.hid (below_app Hb.out Hown.out hg2 hsz)
          have Hown2 := Lib.hid hown2
          clear hg2 hown2
          go_wp2
          go_roundw
          case rel =>
            refine ⟨k + 1, by omega, by go_num, own_eqC Hown2.out rfl ?_, Hp1, Hb2.out⟩
            rw [Hts.out, chgCells_app]
          case measure => simp [intOf]; omega
        · by_cases hke : yk.data.toList = ck.data.toList
          · have hke0 : (yk.toList == ck.toList) = true := by rw [eq_toList]; exact decide_eq_true hke
            have hke1 : Op.bytesLess yk.toList ck.toList = false := by rw [ByteArray.toList_eq, ByteArray.toList_eq, bytesLess_lt]; exact decide_eq_false hkl
            have hP : Hid (putC ⟨ck, cv, false⟩ l = l.take k ++ [⟨ck, cv, false⟩] ++ l.drop (k + 1)) := Lib.hid (by
              have h1 := putC_stop (c := ⟨ck, cv, false⟩) Hp.out Hy.out hkl
              rwa [if_pos (by exact hke)] at h1)
            have Hcut := Lib.hid (H.out.cut (k := k + 1) (c := ca) (by omega) hnc)
            clear hkl hke c1 c2
            simp only at c0
            go_wp2
            go_quiet (fail)
            go_wp2_with (at_builtin; refine wpList_append_hasN rfl (.tmp 33) (.tmp 35) _ rfl 38 chg_elem (by omega) Try.underlying22 rfl (own_drawn Hown.out _ _) rfl (chg_lit _ ⟨ck, cv, false⟩) (chgCells_one _) (by simp only [maxLen]; omega) (by omega) (hsz2 _ _) ?_; intro v2 w2 hown2 hg2 _)
            have Hb2 := Lib.hid (below_app Hb.out Hown.out hg2 hsz)
            have Hown2 := Lib.hid hown2
            have hsz3 : w.heap.size + 1 ≤ w2.heap.size := by have := Hb2.out.size; simpa using this
            clear hg2 hown2 hsz2
            obtain ⟨p0, p1, p2, f0, f1, f2⟩ := box_at Hb2.out rfl
            obtain ⟨a2, y2, e2, _, hy2, d0, -, -⟩ := (H.out.belowOf (below_in Hb2.out HC.out) (Nat.le_refl _)).at_ hlt
            injection e2 with e2
            subst e2
            rw [Hy.out] at hy2
            injection hy2 with hy2
            subst hy2
            clear f0 f1 f2 q0 q1 q2 c0
            obtain ⟨A', hA⟩ : ∃ A', (if ca = k + 1 then some a else some (a.add ((k + 1) * 3))) = A' := ⟨_, rfl⟩
            rw [Option.map_some, hA] at Hcut
            go_wp2
            go_quiet (fail)
            go_wp2_with (at_builtin; refine wpList_append_hasN rfl (.tmp 53) (.tmp 56) _ rfl 38 chg_elem (by omega) Try.underlying22 rfl (own_drawn2 Hown2.out _) rfl (Hcut.out.belowOf (below_dr (below_in Hb2.out HC.out) _) (Nat.le_refl _)) (chgCells_one _) (by simp only [maxLen]; omega) (by omega) hsz3 ?_; intro v3 w3 hown3 hg3 _)
            have Hb3 := Lib.hid (below_app2 Hb2.out Hown2.out hg3 hsz3)
            have Hown3 := Lib.hid hown3
            clear hg3 hown3
            go_wp2
            go_ret
            refine gives_put Hown3.out ?_ (below_in Hb3.out (Nat.le_refl _))
            rw [hP.out, chgCells_app, chgCells_app]
          · have hke0 : (yk.toList == ck.toList) = false := by rw [eq_toList]; exact decide_eq_false hke
            have hke1 : Op.bytesLess yk.toList ck.toList = false := by rw [ByteArray.toList_eq, ByteArray.toList_eq, bytesLess_lt]; exact decide_eq_false hkl
            have hP : Hid (putC ⟨ck, cv, false⟩ l = l.take k ++ [⟨ck, cv, false⟩] ++ l.drop k) := Lib.hid (by
              have h1 := putC_stop (c := ⟨ck, cv, false⟩) Hp.out Hy.out hkl
              rwa [if_neg (by exact hke)] at h1)
            clear hkl hke
            have Hcut := Lib.hid (H.out.cut (k := k) (c := ca) (by omega) hnc)
            clear c1 c2
            simp only at c0
            go_wp2
            go_quiet (fail)
            go_wp2_with (at_builtin; refine wpList_append_hasN rfl (.tmp 33) (.tmp 35) _ rfl 38 chg_elem (by omega) Try.underlying22 rfl (own_drawn Hown.out _ _) rfl (chg_lit _ ⟨ck, cv, false⟩) (chgCells_one _) (by simp only [maxLen]; omega) (by omega) (hsz2 _ _) ?_; intro v2 w2 hown2 hg2 _)
            have Hb2 := Lib.hid (below_app Hb.out Hown.out hg2 hsz)
            have Hown2 := Lib.hid hown2
            have hsz3 : w.heap.size + 1 ≤ w2.heap.size := by have := Hb2.out.size; simpa using this
            clear hg2 hown2 hsz2
            obtain ⟨p0, p1, p2, f0, f1, f2⟩ := box_at Hb2.out rfl
            obtain ⟨a2, y2, e2, _, hy2, d0, -, -⟩ := (H.out.belowOf (below_in Hb2.out HC.out) (Nat.le_refl _)).at_ hlt
            injection e2 with e2
            subst e2
            rw [Hy.out] at hy2
            injection hy2 with hy2
            subst hy2
            clear f0 f1 f2 q0 q1 q2 c0
            rw [Option.map_some, if_neg (by omega)] at Hcut
            go_wp2
            go_quiet (fail)
            go_wp2_with (at_builtin; refine wpList_append_hasN rfl (.tmp 53) (.tmp 56) _ rfl 38 chg_elem (by omega) Try.underlying22 rfl (own_drawn2 Hown2.out _) rfl (Hcut.out.belowOf (below_dr (below_in Hb2.out HC.out) _) (Nat.le_refl _)) (chgCells_one _) (by simp only [maxLen]; omega) (by omega) hsz3 ?_; intro v3 w3 hown3 hg3 _)
            have Hb3 := Lib.hid (below_app2 Hb2.out Hown2.out hg3 hsz3)
            have Hown3 := Lib.hid hown3
            clear hg3 hown3
            go_wp2
            go_ret
            refine gives_put Hown3.out ?_ (below_in Hb3.out (Nat.le_refl _))
            rw [hP.out, chgCells_app, chgCells_app]
      · obtain rfl : k = n := by omega
        have hP : Hid (putC ⟨ck, cv, false⟩ l = l.take k ++ [⟨ck, cv, false⟩] ++ l.drop k) := Lib.hid (putC_end (c := ⟨ck, cv, false⟩) Hp.out (by have := Hl.out; omega))
        have Hcut := Lib.hid (H.out.cut (k := k) (c := ca) (by omega) hnc)
        rw [show k - k = 0 by omega] at Hcut
        go_wp2
        go_quiet (fail)
        go_wp2_with (at_builtin; refine wpList_append_hasN rfl (.tmp 33) (.tmp 35) _ rfl 38 chg_elem (by omega) Try.underlying22 rfl (own_drawn Hown.out _ _) rfl (chg_lit _ ⟨ck, cv, false⟩) (chgCells_one _) (by simp only [maxLen]; omega) (by omega) (hsz2 _ _) ?_; intro v2 w2 hown2 hg2 _)
        have Hb2 := Lib.hid (below_app Hb.out Hown.out hg2 hsz)
        have Hown2 := Lib.hid hown2
        have hsz3 : w.heap.size + 1 ≤ w2.heap.size := by have := Hb2.out.size; simpa using this
        clear hg2 hown2 hsz2
        obtain ⟨p0, p1, p2, f0, f1, f2⟩ := box_at Hb2.out rfl
        clear f0 f1 f2 q0 q1 q2
        obtain ⟨A', hA⟩ : ∃ A', (if ca = k then A else A.map (·.add (k * 3))) = A' := ⟨_, rfl⟩
        rw [hA] at Hcut
        go_wp2
        go_quiet (fail)
        go_wp2_with (at_builtin; refine wpList_append_hasN rfl (.tmp 53) (.tmp 56) _ rfl 38 chg_elem (by omega) Try.underlying22 rfl (own_drawn2 Hown2.out _) rfl (Hcut.out.belowOf (below_dr (below_in Hb2.out HC.out) _) (Nat.le_refl _)) (chgCells_one _) (by simp only [maxLen]; omega) (by omega) hsz3 ?_; intro v3 w3 hown3 hg3 _)
        have Hb3 := Lib.hid (below_app2 Hb2.out Hown2.out hg3 hsz3)
        have Hown3 := Lib.hid hown3
        clear hg3 hown3
        go_wp2
        go_ret
        refine gives_put Hown3.out ?_ (below_in Hb3.out (Nat.le_refl _))
        rw [hP.out, chgCells_app, chgCells_app]
  | true =>
    have hT : tidy ⟨ck, cv, true⟩ = ⟨ck, ⟨#[]⟩, true⟩ := rfl
    rw [hT]
    clear hT
    go_enter Try.func49, Try.ntmps49
    go_wp2
    go_loopw [5, 6] (fun o i wr => ∃ k : Nat, k ≤ n ∧ i = .int .i64 (k : Int) ∧ wr.ownsRow (w.heap.size + 1) 38 3 o k (chgCells (l.take k)) ∧ Hid (∀ x ∈ l.take k, x.kb < ck.data.toList) ∧ Below (w.heap.size + 1) (w.alloc (.cells #[.string ck, .string ⟨#[]⟩, .bool true] 38)) wr) (fun _ i _ => n - (intOf i).toNat)
    case atStart => exact ⟨0, by omega, rfl, World.ownsRow_nil _ _ _ _, Lib.hid (by simp), Below.refl _ _⟩
    case round =>
      obtain ⟨k, hk, rfl, hown, Hp, hb⟩ := hrel
      have Hown := Lib.hid hown
      have Hb := Lib.hid hb
      have hsz : w.heap.size + 1 ≤ wr.heap.size := by have := hb.size; simpa using this
      have hsz2 : ∀ (nq : Nat) (o : Obj), w.heap.size + 1 ≤ ((wr.drewN nq).alloc o).heap.size := fun nq o => Nat.le_trans hsz (Nat.le_of_lt (by simp only [World.size_alloc]; exact Nat.lt_succ_self _))
      obtain ⟨q0, q1, q2, f0, f1, f2⟩ := box_at hb rfl
      clear hown hb f0 f1 f2
      by_cases hlt : k < n
      · obtain ⟨a, y, rfl, hab, hy, c0, c1, c2⟩ := (H.out.belowOf (below_in Hb.out HC.out) (Nat.le_refl _)).at_ hlt
        have Hy := Lib.hid hy
        have Hts := Lib.hid (take_snocC hy)
        obtain ⟨yk, yv, yg⟩ := y
        have hk0 : (0 : Int) ≤ (k : Int) := by omega
        have hk1 : (k : Int) < (n : Int) := by omega
        clear hy
        by_cases hkl : yk.data.toList < ck.data.toList
        · have hb1 : Op.bytesLess yk.toList ck.toList = true := by rw [ByteArray.toList_eq, ByteArray.toList_eq, bytesLess_lt]; exact decide_eq_true hkl
          have Hp1 : Hid (∀ x ∈ l.take (k + 1), x.kb < ck.data.toList) := Lib.hid (by
            rw [Hts.out]
            intro x hx
            rcases List.mem_append.1 hx with hx | hx
            · exact Hp.out x hx
            · simp at hx; subst hx; exact hkl)
          clear hkl
          simp only at c0 c1 c2
          go_wp2
          go_quiet (fail)
          go_wp2_with (at_builtin; refine wpList_append_hasN rfl (.tmp 24) (.tmp 29) _ rfl 38 chg_elem (by omega) Try.underlying22 rfl (own_drawn Hown.out _ _) rfl (chg_lit _ ⟨yk, yv, yg⟩) (chgCells_one _) (by simp only [maxLen]; omega) (by omega) (hsz2 _ _) ?_; intro v2 w2 hown2 hg2 _)
          have Hb2 := Lib.hid (below_app Hb.out Hown.out hg2 hsz)
          have Hown2 := Lib.hid hown2
          clear hg2 hown2
          go_wp2
          go_roundw
          case rel =>
            refine ⟨k + 1, by omega, by go_num, own_eqC Hown2.out rfl ?_, Hp1, Hb2.out⟩
            rw [Hts.out, chgCells_app]
          case measure => simp [intOf]; omega
        · by_cases hke : yk.data.toList = ck.data.toList
          · have hke0 : (yk.toList == ck.toList) = true := by rw [eq_toList]; exact decide_eq_true hke
            have hke1 : Op.bytesLess yk.toList ck.toList = false := by rw [ByteArray.toList_eq, ByteArray.toList_eq, bytesLess_lt]; exact decide_eq_false hkl
            have hP : Hid (putC ⟨ck, ⟨#[]⟩, true⟩ l = l.take k ++ [⟨ck, ⟨#[]⟩, true⟩] ++ l.drop (k + 1)) := Lib.hid (by
              have h1 := putC_stop (c := ⟨ck, ⟨#[]⟩, true⟩) Hp.out Hy.out hkl
              rwa [if_pos (by exact hke)] at h1)
            have Hcut := Lib.hid (H.out.cut (k := k + 1) (c := ca) (by omega) hnc)
            clear hkl hke c1 c2
            simp only at c0
            go_wp2
            go_quiet (fail)
            go_wp2_with (at_builtin; refine wpList_append_hasN rfl (.tmp 33) (.tmp 35) _ rfl 38 chg_elem (by omega) Try.underlying22 rfl (own_drawn Hown.out _ _) rfl (chg_lit _ ⟨ck, ⟨#[]⟩, true⟩) (chgCells_one _) (by simp only [maxLen]; omega) (by omega) (hsz2 _ _) ?_; intro v2 w2 hown2 hg2 _)
            have Hb2 := Lib.hid (below_app Hb.out Hown.out hg2 hsz)
            have Hown2 := Lib.hid hown2
            have hsz3 : w.heap.size + 1 ≤ w2.heap.size := by have := Hb2.out.size; simpa using this
            clear hg2 hown2 hsz2
            obtain ⟨p0, p1, p2, f0, f1, f2⟩ := box_at Hb2.out rfl
            obtain ⟨a2, y2, e2, _, hy2, d0, -, -⟩ := (H.out.belowOf (below_in Hb2.out HC.out) (Nat.le_refl _)).at_ hlt
            injection e2 with e2
            subst e2
            rw [Hy.out] at hy2
            injection hy2 with hy2
            subst hy2
            clear f0 f1 f2 q0 q1 q2 c0
            obtain ⟨A', hA⟩ : ∃ A', (if ca = k + 1 then some a else some (a.add ((k + 1) * 3))) = A' := ⟨_, rfl⟩
            rw [Option.map_some, hA] at Hcut
            go_wp2
            go_quiet (fail)
            go_wp2_with (at_builtin; refine wpList_append_hasN rfl (.tmp 53) (.tmp 56) _ rfl 38 chg_elem (by omega) Try.underlying22 rfl (own_drawn2 Hown2.out _) rfl (Hcut.out.belowOf (below_dr (below_in Hb2.out HC.out) _) (Nat.le_refl _)) (chgCells_one _) (by simp only [maxLen]; omega) (by omega) hsz3 ?_; intro v3 w3 hown3 hg3 _)
            have Hb3 := Lib.hid (below_app2 Hb2.out Hown2.out hg3 hsz3)
            have Hown3 := Lib.hid hown3
            clear hg3 hown3
            go_wp2
            go_ret
            refine gives_put Hown3.out ?_ (below_in Hb3.out (Nat.le_refl _))
            rw [hP.out, chgCells_app, chgCells_app]
          · have hke0 : (yk.toList == ck.toList) = false := by rw [eq_toList]; exact decide_eq_false hke
            have hke1 : Op.bytesLess yk.toList ck.toList = false := by rw [ByteArray.toList_eq, ByteArray.toList_eq, bytesLess_lt]; exact decide_eq_false hkl
            have hP : Hid (putC ⟨ck, ⟨#[]⟩, true⟩ l = l.take k ++ [⟨ck, ⟨#[]⟩, true⟩] ++ l.drop k) := Lib.hid (by
              have h1 := putC_stop (c := ⟨ck, ⟨#[]⟩, true⟩) Hp.out Hy.out hkl
              rwa [if_neg (by exact hke)] at h1)
            clear hkl hke
            have Hcut := Lib.hid (H.out.cut (k := k) (c := ca) (by omega) hnc)
            clear c1 c2
            simp only at c0
            go_wp2
            go_quiet (fail)
            go_wp2_with (at_builtin; refine wpList_append_hasN rfl (.tmp 33) (.tmp 35) _ rfl 38 chg_elem (by omega) Try.underlying22 rfl (own_drawn Hown.out _ _) rfl (chg_lit _ ⟨ck, ⟨#[]⟩, true⟩) (chgCells_one _) (by simp only [maxLen]; omega) (by omega) (hsz2 _ _) ?_; intro v2 w2 hown2 hg2 _)
            have Hb2 := Lib.hid (below_app Hb.out Hown.out hg2 hsz)
            have Hown2 := Lib.hid hown2
            have hsz3 : w.heap.size + 1 ≤ w2.heap.size := by have := Hb2.out.size; simpa using this
            clear hg2 hown2 hsz2
            obtain ⟨p0, p1, p2, f0, f1, f2⟩ := box_at Hb2.out rfl
            obtain ⟨a2, y2, e2, _, hy2, d0, -, -⟩ := (H.out.belowOf (below_in Hb2.out HC.out) (Nat.le_refl _)).at_ hlt
            injection e2 with e2
            subst e2
            rw [Hy.out] at hy2
            injection hy2 with hy2
            subst hy2
            clear f0 f1 f2 q0 q1 q2 c0
            rw [Option.map_some, if_neg (by omega)] at Hcut
            go_wp2
            go_quiet (fail)
            go_wp2_with (at_builtin; refine wpList_append_hasN rfl (.tmp 53) (.tmp 56) _ rfl 38 chg_elem (by omega) Try.underlying22 rfl (own_drawn2 Hown2.out _) rfl (Hcut.out.belowOf (below_dr (below_in Hb2.out HC.out) _) (Nat.le_refl _)) (chgCells_one _) (by simp only [maxLen]; omega) (by omega) hsz3 ?_; intro v3 w3 hown3 hg3 _)
            have Hb3 := Lib.hid (below_app2 Hb2.out Hown2.out hg3 hsz3)
            have Hown3 := Lib.hid hown3
            clear hg3 hown3
            go_wp2
            go_ret
            refine gives_put Hown3.out ?_ (below_in Hb3.out (Nat.le_refl _))
            rw [hP.out, chgCells_app, chgCells_app]
      · obtain rfl : k = n := by omega
        have hP : Hid (putC ⟨ck, ⟨#[]⟩, true⟩ l = l.take k ++ [⟨ck, ⟨#[]⟩, true⟩] ++ l.drop k) := Lib.hid (putC_end (c := ⟨ck, ⟨#[]⟩, true⟩) Hp.out (by have := Hl.out; omega))
        have Hcut := Lib.hid (H.out.cut (k := k) (c := ca) (by omega) hnc)
        rw [show k - k = 0 by omega] at Hcut
        go_wp2
        go_quiet (fail)
        go_wp2_with (at_builtin; refine wpList_append_hasN rfl (.tmp 33) (.tmp 35) _ rfl 38 chg_elem (by omega) Try.underlying22 rfl (own_drawn Hown.out _ _) rfl (chg_lit _ ⟨ck, ⟨#[]⟩, true⟩) (chgCells_one _) (by simp only [maxLen]; omega) (by omega) (hsz2 _ _) ?_; intro v2 w2 hown2 hg2 _)
        have Hb2 := Lib.hid (below_app Hb.out Hown.out hg2 hsz)
        have Hown2 := Lib.hid hown2
        have hsz3 : w.heap.size + 1 ≤ w2.heap.size := by have := Hb2.out.size; simpa using this
        clear hg2 hown2 hsz2
        obtain ⟨p0, p1, p2, f0, f1, f2⟩ := box_at Hb2.out rfl
        clear f0 f1 f2 q0 q1 q2
        obtain ⟨A', hA⟩ : ∃ A', (if ca = k then A else A.map (·.add (k * 3))) = A' := ⟨_, rfl⟩
        rw [hA] at Hcut
        go_wp2
        go_quiet (fail)
        go_wp2_with (at_builtin; refine wpList_append_hasN rfl (.tmp 53) (.tmp 56) _ rfl 38 chg_elem (by omega) Try.underlying22 rfl (own_drawn2 Hown2.out _) rfl (Hcut.out.belowOf (below_dr (below_in Hb2.out HC.out) _) (Nat.le_refl _)) (chgCells_one _) (by simp only [maxLen]; omega) (by omega) hsz3 ?_; intro v3 w3 hown3 hg3 _)
        have Hb3 := Lib.hid (below_app2 Hb2.out Hown2.out hg3 hsz3)
        have Hown3 := Lib.hid hown3
        clear hg3 hown3
        go_wp2
        go_ret
        refine gives_put Hown3.out ?_ (below_in Hb3.out (Nat.le_refl _))
        rw [hP.out, chgCells_app, chgCells_app]

end Go.Proofs.Yteioopcacpihpaa
