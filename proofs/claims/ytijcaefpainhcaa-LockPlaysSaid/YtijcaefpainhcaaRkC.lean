/- Layer 16, the document's own table: Renew, Free. Condition: the table is in memory. -/
import Derived.Test.YtijcaefpainhcaaRkB
namespace Go.Proofs.Ytijcaefpainhcaa
open Go.RowKit

theorem own_some {w : World} {B m size : Nat} {e : TypeId} {v : Value} {xs : List Value} (h : w.ownsRow B e size v m xs) (hm : 0 < m) : ∃ g c, v = .slice (some ⟨g, 0, none⟩) m c ∧ B ≤ g ∧ m ≤ c := by
  obtain ⟨A, c, rfl, hc, -, -⟩ := own_sliceN h
  rcases h.2 with ⟨h1, h2⟩ | ⟨g, cap, cur, h1, hB, rest⟩
  · injection h1 with h1 h3 h4
    omega
  · injection h1 with h1 h3 h4
    subst h1
    exact ⟨g, c, rfl, hB, hc⟩
theorem rl_set {R : List RE} (hr : RiseL (rl R)) {i : Nat} {p q : RE} (hi : R[i]? = some p) (hq : q.p.n = p.p.n) : rl (R.set i q) = updL q.p (rl R) := by
  refine List.ext_getElem? fun j => ?_
  unfold rl updL
  rw [List.getElem?_map, List.getElem?_map, List.getElem?_map]
  have hil := (List.getElem?_eq_some_iff.1 hi).1
  by_cases hj : j = i
  · subst hj
    rw [List.getElem?_set_self hil, hi]
    simp [hq]
  · rw [List.getElem?_set_ne (fun e => hj e.symm)]
    cases hx : R[j]? with
    | none => rfl
    | some x =>
      have hne : x.p.n ≠ q.p.n := by
        rw [hq]
        intro e
        unfold RiseL rl at hr
        rw [List.pairwise_map, List.pairwise_iff_getElem] at hr
        obtain ⟨h1, h2⟩ := List.getElem?_eq_some_iff.1 hx
        obtain ⟨h3, h4⟩ := List.getElem?_eq_some_iff.1 hi
        rcases Nat.lt_or_gt_of_ne hj with h | h
        · have := hr j i h1 h3 h; rw [h2, h4] at this; omega
        · have := hr i j h3 h1 h; rw [h2, h4] at this; omega
      simp [hne]
theorem rk_set (R : List RE) : ∀ {i : Nat} {q : RE}, i < R.length → rkCells (R.set i q) = (rkCells R).take (i * 3) ++ (rk3 q ++ (rkCells R).drop (i * 3 + 3)) := by
  intro i q hi
  rw [List.set_eq_take_append_cons_drop, if_pos hi, rkCells_app, rkCells_take, show i * 3 + 3 = (i + 1) * 3 by omega, rkCells_drop]
  rfl
section
variable {F : Nat → Prop} {w w' : World} {rb g n c : Nat} {v : Value} {lease now : Int} {R : List RE}
/-- cells of one lock's place are stored into -/
theorem RfAt.setE (h : RfAt w F rb (.slice (some ⟨g, 0, none⟩) n c) lease now R) (hn : R.length = n) {i : Nat} {p q : RE} (hi : R[i]? = some p) (hr : OwnRgs w 0 q.row q.p.L) (hF : ∀ g', q.row.ownBlock = some g' → F g') (o : Nat) (cs : List Value) (ho : o + cs.length ≤ 3)
    (hc : (rk3 p).take o ++ (cs ++ (rk3 p).drop (o + cs.length)) = rk3 q) (hw : w.setCells g (i * 3 + o) cs = w') : RfAt w' F rb (.slice (some ⟨g, 0, none⟩) n c) lease now (R.set i q) ∧ KeptF F w w' := by
  have hil : i < n := by have := (List.getElem?_eq_some_iff.1 hi).1; omega
  have hown : w.ownsRow 0 83 3 (.slice (some ⟨g, 0, none⟩) n c) n (rkCells R) := by have := h.own; unfold OwnRks at this; rwa [hn] at this
  obtain ⟨h1, g1⟩ := setCells_ownR cs (i * 3 + o) w _ hown (by omega)
  rw [hw] at h1 g1
  have hgF : F g := h.vF g rfl
  have kk : ∀ j, j < w.heap.size → j ≠ g → w'.heap[j]? = w.heap[j]? := fun j hj hne => g1.block j hj (fun e => hne (by injection e))
  have hx : (rkCells R).take (i * 3 + o) ++ (cs ++ (rkCells R).drop (i * 3 + o + cs.length)) = rkCells (R.set i q) := by
    rw [rk_set R (by omega), ← hc]
    have hp : (rkCells R).drop (i * 3) = rk3 p ++ (rkCells R).drop (i * 3 + 3) := by
      rw [show i * 3 + 3 = (i + 1) * 3 by omega, rkCells_drop, rkCells_drop, List.drop_eq_getElem?_toList_append, hi]
      rfl
    have e1 : (rkCells R).take (i * 3 + o) = (rkCells R).take (i * 3) ++ (rk3 p).take o := by
      rw [List.take_add, hp, List.take_append_of_le_length (by show o ≤ 3; omega)]
    have e2 : (rkCells R).drop (i * 3 + o + cs.length) = (rk3 p).drop (o + cs.length) ++ (rkCells R).drop (i * 3 + 3) := by
      rw [Nat.add_assoc, ← List.drop_drop, hp, List.drop_append_of_le_length (by show o + cs.length ≤ 3; omega)]
    rw [e1, e2]
    simp only [List.append_assoc]
  rw [hx] at h1
  have bNe := h.vNe (g := g) rfl
  refine ⟨⟨h.rF, h.vF, ?_, fun j hj => Nat.lt_of_lt_of_le (h.lt j hj) g1.size, (kk rb (h.lt _ h.rF) (fun e => bNe e.symm)).trans h.box, ?_, ?_⟩, KeptF.grown g1 hgF⟩
  · intro e he g' hg'
    rcases List.mem_or_eq_of_mem_set he with he | rfl
    · exact h.eF e he g' hg'
    · exact hF g' hg'
  · unfold OwnRks
    rw [List.length_set, hn]
    exact h1
  · intro e he
    rcases List.mem_or_eq_of_mem_set he with he | rfl
    · exact ownL_keep (h.rows e he) fun g' hg' => kk g' (h.lt _ (h.eF e he g' hg')) ((h.eNe he hg').2 g rfl)
    · exact ownL_keep hr fun g' hg' => kk g' (h.lt _ (hF g' hg')) (by
        obtain ⟨cs1, hc1⟩ := ownL_type hr hg'
        obtain ⟨cs2, hc2⟩ := ownL_type h.own (rfl : (Value.slice (some ⟨g, 0, none⟩) n c).ownBlock = some g)
        exact types_ne hc1 hc2 typesR.2.2)
set_option maxRecDepth 100000 in
set_option maxHeartbeats 1600000 in
theorem refRenew16_any (h : RfAt w F rb v lease now R) (hr : RiseL (rl R)) (hR : R.length ≤ 100000) (k : Int) :
    Calls Try.prog 60 #[.pointer (some ⟨rb, 0, none⟩), .int .i64 k] w fun e w' => e = .returned (.bool (getL k (rl R)).isSome) ∧ ∃ v' R', RfAt w' F rb v' lease now R' ∧ rl R' = renewT now k (rl R) ∧ KeptF F w w' := by
  have Hat := Lib.hid (refAt16_any h hR k)
  obtain ⟨n, hn⟩ : ∃ n, R.length = n := ⟨_, rfl⟩
  have Hn := Lib.hid hn
  unfold AtPost at Hat
  have H := Lib.hid (And.intro h hr)
  obtain ⟨D, hD⟩ : ∃ D, (getL k (rl R)).isSome = D := ⟨_, rfl⟩
  rw [hD]
  have HD := Lib.hid hD
  clear hr hD
  go_enter Try.func60, Try.ntmps60
  go_wp2_with fail
  refine Hat.out.mono ?_
  rintro e w1 ⟨hw1, hp⟩
  subst hw1
  rcases hp with ⟨rfl, hp⟩ | ⟨i, p, rfl, hi, hk⟩
  · have HE : Hid (D = false ∧ RfAt w1 F rb v lease now R ∧ rl R = renewT now k (rl R)) := Lib.hid ⟨by rw [← HD.out, get_no hp]; rfl, h, by unfold renewT; rw [get_no hp]⟩
    clear hp Hat h hn
    go_wp2
    go_ret
    exact ⟨ret_bool HE.out.1.symm, _, _, HE.out.2.1, HE.out.2.2, KeptF.of (Below.refl _ _)⟩
  · have hin : i < n := by have := (List.getElem?_eq_some_iff.1 hi).1; omega
    have hown := h.own
    unfold OwnRks at hown
    rw [hn] at hown
    obtain ⟨g, c, rfl, -, hnc⟩ := own_some hown (by omega)
    obtain ⟨⟨-, q1, q2⟩, -, -⟩ := h.cells
    obtain ⟨W, hW⟩ : ∃ W, w1.setCell ⟨g, i * 3 + 2, none⟩ (.int .i64 now) = W := ⟨_, rfl⟩
    have HE : Hid (D = true ∧ RfAt W F rb (.slice (some ⟨g, 0, none⟩) n c) lease now (R.set i ⟨⟨p.p.n, p.p.L, now⟩, p.A, p.c⟩) ∧ rl (R.set i ⟨⟨p.p.n, p.p.L, now⟩, p.A, p.c⟩) = renewT now k (rl R) ∧ KeptF F w1 W) := Lib.hid (by
      have hg := get_at H.out.2 hi hk
      obtain ⟨a1, a2⟩ := h.setE hn hi (q := ⟨⟨p.p.n, p.p.L, now⟩, p.A, p.c⟩) (h.rows p (List.mem_of_getElem? hi)) (h.eF p (List.mem_of_getElem? hi)) 2 [.int .i64 now] (by simp) rfl (w' := W) (by rw [← hW]; rfl)
      refine ⟨by rw [← HD.out, hg]; rfl, a1, ?_, a2⟩
      rw [rl_set (q := ⟨⟨p.p.n, p.p.L, now⟩, p.A, p.c⟩) H.out.2 hi rfl]
      unfold renewT
      rw [hg, hk])
    have hcs := rkCells_at R i 2 p hi (by omega)
    have c2 : w1.cell? ⟨g, i * 3 + 2, none⟩ = some (.int .i64 p.p.left) := (World.ownsRow.cellAt hown (i * 3 + 2) (by omega)).trans hcs
    have f2 : w1.frozen? ⟨g, i * 3 + 2, none⟩ = false := World.ownsRow.frozenAt hown (i * 3 + 2)
    have j0 : (0 : Int) ≤ (i : Int) := by omega
    have j1 : (i : Int) < (n : Int) := by omega
    have j2 : ¬ (i : Int) < 0 := by omega
    clear hi hk hcs Hat h hn hown
    go_wp2
    go_region
    all_goals
      go_wp2
      go_ret
      exact ⟨ret_bool HE.out.1.symm, _, _, HE.out.2.1.below (Below.refl _ _).drew, HE.out.2.2.1, HE.out.2.2.2.trans0 (KeptF.of (Below.refl _ _).drew)⟩
theorem del_len {R : List RE} {i n : Nat} (hn : R.length = n) (hi : i < n) : (R.take i ++ R.drop (i + 1)).length = i + (n - (i + 1)) := by
  rw [List.length_append, List.length_take, List.length_drop]
  omega
/-- locks from place k on -/
theorem rks_from {w : World} {B N c k : Nat} {a : Addr} {R : List RE} (h : Has w B (some a) (N * 3) (rkCells R)) (hl : R.length = N) (hk : k ≤ N) : (c = k → N ≤ c → Has w B (some a) ((N - k) * 3) (rkCells (R.drop k))) ∧ (Has w B (some (a.add (k * 3))) ((N - k) * 3) (rkCells (R.drop k))) := by
  rw [← rkCells_drop R k, Nat.sub_mul]
  rcases Nat.lt_or_ge k N with hlt | hge
  · exact ⟨fun e1 e2 => by omega, Has.drop h (by omega)⟩
  · have e : (rkCells R).drop (k * 3) = [] := List.drop_eq_nil_of_le (by rw [rkCells_len]; omega)
    rw [e, show N * 3 - k * 3 = 0 by omega]
    exact ⟨fun _ _ => Has.nil _ _ _, Has.nil _ _ _⟩
theorem own_eqR {w : World} {B m m' : Nat} {v : Value} {xs xs' : List Value} (h : w.ownsRow B 83 3 v m xs) (hm : m = m') (hx : xs = xs') : w.ownsRow B 83 3 v m' xs' := by
  subst hm
  subst hx
  exact h
theorem rl_del {R : List RE} (hr : RiseL (rl R)) {i : Nat} {p : RE} (hi : R[i]? = some p) : rl (R.take i ++ R.drop (i + 1)) = delL p.p.n (rl R) := by
  obtain ⟨h1, h2⟩ := List.getElem?_eq_some_iff.1 hi
  have hR : R = R.take i ++ p :: R.drop (i + 1) := by
    have h3 : R.drop i = p :: R.drop (i + 1) := by rw [List.drop_eq_getElem_cons h1, h2]
    rw [← h3, List.take_append_drop]
  have hd : RiseL (rl (R.take i) ++ p.p :: rl (R.drop (i + 1))) := by
    have := hr
    rw [hR] at this
    unfold rl at this
    rwa [List.map_append, List.map_cons] at this
  obtain ⟨d1, d2, d3⟩ := List.pairwise_append.1 hd
  obtain ⟨d4, d5⟩ := List.pairwise_cons.1 d2
  have e : delL p.p.n (rl R) = delL p.p.n (rl (R.take i) ++ p.p :: rl (R.drop (i + 1))) := by
    congr 1
    calc rl R = rl (R.take i ++ p :: R.drop (i + 1)) := congrArg rl hR
      _ = _ := by unfold rl; rw [List.map_append, List.map_cons]
  rw [e]
  unfold delL
  rw [List.filter_append, List.filter_cons]
  have e1 : (rl (R.take i)).filter (fun q => !decide (q.n = p.p.n)) = rl (R.take i) := List.filter_eq_self.2 fun q hq => by
    have := d3 q hq p.p (by simp)
    simp; omega
  have e2 : (rl (R.drop (i + 1))).filter (fun q => !decide (q.n = p.p.n)) = rl (R.drop (i + 1)) := List.filter_eq_self.2 fun q hq => by
    have := d4 q hq
    simp; omega
  rw [e1, e2]
  simp [rl]
theorem delL_none {k : Int} {E : List TL} (h : getL k E = none) : delL k E = E := List.filter_eq_self.2 fun p hp => by simpa using getL_none h p hp
set_option maxRecDepth 100000 in
set_option maxHeartbeats 6400000 in
theorem refFree16_any (h : RfAt w F rb v lease now R) (hr : RiseL (rl R)) (hR : R.length ≤ 100000) (k : Int) :
    Calls Try.prog 61 #[.pointer (some ⟨rb, 0, none⟩), .int .i64 k] w fun e w' => e = .returned (.bool (getL k (rl R)).isSome) ∧ ∃ v' R', RfAt w' (addF F w w') rb v' lease now R' ∧ rl R' = delL k (rl R) ∧ KeptF F w w' := by
  have Hat := Lib.hid (refAt16_any h hR k)
  obtain ⟨A, c, rfl, hnc, hcm, hs⟩ := h.own.slice
  obtain ⟨n, hn⟩ : ∃ n, R.length = n := ⟨_, rfl⟩
  have H := Lib.hid (And.intro h hr)
  rw [hn] at hR hs hnc h H
  obtain ⟨⟨-, -, q0⟩, -, -⟩ := h.cells
  have Hs := Lib.hid hs
  have Hn := Lib.hid hn
  unfold AtPost at Hat
  obtain ⟨D0, hD⟩ : ∃ D, (getL k (rl R)).isSome = D := ⟨_, rfl⟩
  rw [hD]
  have HD0 := Lib.hid hD
  clear h hs hn hr hD
  go_enter Try.func61, Try.ntmps61
  go_wp2_with fail
  refine Hat.out.mono ?_
  rintro e w1 ⟨hw1, hp⟩
  subst hw1
  rcases hp with ⟨rfl, hp⟩ | ⟨i, p, rfl, hi, hk⟩
  · have HE : Hid (D0 = false ∧ delL k (rl R) = rl R) := Lib.hid ⟨by rw [← HD0.out, get_no hp]; rfl, delL_none (get_no hp)⟩
    clear hp Hat
    go_wp2
    go_ret
    exact ⟨ret_bool HE.out.1.symm, _, _, H.out.1.add, HE.out.2.symm, KeptF.of (Below.refl _ _)⟩
  · have hin : i < n := by have := (List.getElem?_eq_some_iff.1 hi).1; have := Hn.out; omega
    obtain ⟨a, y, rfl, hab, hy, -⟩ := Hs.out.at_ hin
    have Hi : Hid (R[i]? = some p ∧ p.p.n = k ∧ D0 = true) := Lib.hid ⟨hi, hk, by rw [← HD0.out, get_at H.out.2 hi hk]; rfl⟩
    have Hh3 : Hid (Has w1 w1.heap.size (some a) (n * 3) (rkCells R)) := Lib.hid Hs.out.2
    have Hsrc : Hid (Has w1 w1.heap.size (some a) (i * 3) (rkCells (R.take i))) := Lib.hid (by
      rw [← rkCells_take R i]
      exact Has.take Hh3.out (by omega))
    have HmL := Lib.hid (del_len Hn.out hin)
    have j0 : (0 : Int) ≤ (i : Int) := by omega
    have j1 : (i : Int) < (n : Int) := by omega
    have j2 : ¬ (i : Int) < 0 := by omega
    have j3 : (i : Int) ≤ (c : Int) := by omega
    have j4 : (0 : Int) ≤ (i : Int) + 1 := by omega
    have j5 : (((i + 1 : Nat)) : Int) ≤ (n : Int) := by omega
    have j6 : (((i + 1 : Nat)) : Int) ≤ (c : Int) := by omega
    have hrb := H.out.1.lt rb H.out.1.rF
    have HRb := Lib.hid hrb
    clear hi hk hy hab Hat hrb
    obtain ⟨D, hD⟩ : ∃ D, (if c = i + 1 then some a else some (a.add ((i + 1) * 3))) = D := ⟨_, rfl⟩
    have HD : Hid (∀ wx, Has wx w1.heap.size (some a) (n * 3) (rkCells R) → Has wx w1.heap.size D ((n - (i + 1)) * 3) (rkCells (R.drop (i + 1)))) := Lib.hid fun wx hx => by
      have h9 := rks_from (c := c) (k := i + 1) hx Hn.out (by omega)
      rw [← hD]
      split
      · rename_i e
        exact h9.1 e hnc
      · exact h9.2
    have HFin : Hid (∀ x5 W v5 m, Below w1.heap.size w1 x5 → x5.ownsRow w1.heap.size 83 3 v5 m (rkCells (R.take i) ++ rkCells (R.drop (i + 1))) → m = i + (n - (i + 1)) → x5.setCell ⟨rb, 2, none⟩ v5 = W → RfAt W (addF F w1 W) rb v5 lease now (R.take i ++ R.drop (i + 1)) ∧ KeptF F w1 W) := Lib.hid fun x5 W v5 m hb ho hm hW =>
      H.out.1.setL hb (by unfold OwnRks; exact own_eqR ho (hm.trans HmL.out.symm) (rkCells_app _ _).symm) (fun e he => by
        have he' : e ∈ R := by
          rcases List.mem_append.1 he with he | he
          · exact List.mem_of_mem_take he
          · exact List.mem_of_mem_drop he
        exact ⟨ownL_keep (H.out.1.rows e he') fun g hg => hb.block g (H.out.1.lt g (H.out.1.eF e he' g hg)), fun g hg => .inl (H.out.1.eF e he' g hg)⟩) hW
    have Hq : Hid (∀ wx, Below w1.heap.size w1 wx → (wx.cell? ⟨rb, 2, none⟩ = some (.slice (some a) n c) ∧ wx.frozen? ⟨rb, 2, none⟩ = false)) := Lib.hid fun wx hx => by
      have := (H.out.1.below hx).cells
      exact ⟨this.1.2.2, this.2.2⟩
    by_cases hci : c = i + 1
    · rw [if_pos hci] at hD
      subst hD
      go_wp2_with (first
        | (at_builtin; refine wpList_append_hasN rfl (.tmp 12) (.tmp 18) _ rfl 83 rk_elem (by omega) Try.underlying76 rfl (World.ownsRow_nil w1 w1.heap.size 83 3) rfl Hsrc.out (rkCells_one _) (by simp only [maxLen]; omega) (by omega) (Nat.le_refl _) ?_; intro v1 x1 ho1 hg1 hz1; have B1 : Hid (Below w1.heap.size w1 x1) := Lib.hid ((Below.refl _ w1).grown hg1 (Nat.le_refl _) (fun g hg => by cases hg)); have O1 : Hid (x1.ownsRow w1.heap.size 83 3 v1 i (rkCells (R.take i))) := Lib.hid (own_eqR ho1 (Nat.zero_add _) (List.nil_append _)); have qx := (Hq.out x1 B1.out).1; obtain ⟨Aa, ca, rfl, -⟩ := own_sliceN O1.out; have Src := Lib.hid (HD.out x1 (Hh3.out.below B1.out)); have hx1 := B1.out.size; clear ho1 hg1 hz1)
        | (at_builtin; refine wpList_append_hasN rfl (.tmp 21) (.tmp 28) _ rfl 83 rk_elem (by omega) Try.underlying76 rfl O1.out rfl Src.out (rkCells_one _) (by simp only [maxLen]; omega) (by omega) hx1 ?_; intro v5 x5 ho5 hg5 hz5; obtain ⟨Ab, cb, rfl, -⟩ := own_sliceN ho5; have b5 : Below w1.heap.size w1 x5 := B1.out.grown hg5 hx1 (fun g hg => (O1.out.lt g hg).1); obtain ⟨c5, f5⟩ := Hq.out x5 b5; obtain ⟨W, hW⟩ : ∃ W, x5.setCell ⟨rb, 2, none⟩ (.slice Ab (i + (n - (i + 1))) cb) = W := ⟨_, rfl⟩; have HE := Lib.hid (HFin.out x5 W _ _ b5 ho5 rfl hW); clear ho5 hg5 hz5 b5))
      go_ret
      exact ⟨ret_bool Hi.out.2.2.symm, _, _, HE.out.1, by rw [rl_del H.out.2 Hi.out.1, Hi.out.2.1], HE.out.2⟩
    · rw [if_neg hci] at hD
      subst hD
      go_wp2_with (first
        | (at_builtin; refine wpList_append_hasN rfl (.tmp 12) (.tmp 18) _ rfl 83 rk_elem (by omega) Try.underlying76 rfl (World.ownsRow_nil w1 w1.heap.size 83 3) rfl Hsrc.out (rkCells_one _) (by simp only [maxLen]; omega) (by omega) (Nat.le_refl _) ?_; intro v1 x1 ho1 hg1 hz1; have B1 : Hid (Below w1.heap.size w1 x1) := Lib.hid ((Below.refl _ w1).grown hg1 (Nat.le_refl _) (fun g hg => by cases hg)); have O1 : Hid (x1.ownsRow w1.heap.size 83 3 v1 i (rkCells (R.take i))) := Lib.hid (own_eqR ho1 (Nat.zero_add _) (List.nil_append _)); have qx := (Hq.out x1 B1.out).1; obtain ⟨Aa, ca, rfl, -⟩ := own_sliceN O1.out; have Src := Lib.hid (HD.out x1 (Hh3.out.below B1.out)); have hx1 := B1.out.size; clear ho1 hg1 hz1)
        | (at_builtin; refine wpList_append_hasN rfl (.tmp 21) (.tmp 28) _ rfl 83 rk_elem (by omega) Try.underlying76 rfl O1.out rfl Src.out (rkCells_one _) (by simp only [maxLen]; omega) (by omega) hx1 ?_; intro v5 x5 ho5 hg5 hz5; obtain ⟨Ab, cb, rfl, -⟩ := own_sliceN ho5; have b5 : Below w1.heap.size w1 x5 := B1.out.grown hg5 hx1 (fun g hg => (O1.out.lt g hg).1); obtain ⟨c5, f5⟩ := Hq.out x5 b5; obtain ⟨W, hW⟩ : ∃ W, x5.setCell ⟨rb, 2, none⟩ (.slice Ab (i + (n - (i + 1))) cb) = W := ⟨_, rfl⟩; have HE := Lib.hid (HFin.out x5 W _ _ b5 ho5 rfl hW); clear ho5 hg5 hz5 b5))
      go_ret
      exact ⟨ret_bool Hi.out.2.2.symm, _, _, HE.out.1, by rw [rl_del H.out.2 Hi.out.1, Hi.out.2.1], HE.out.2⟩
end
end Go.Proofs.Ytijcaefpainhcaa
