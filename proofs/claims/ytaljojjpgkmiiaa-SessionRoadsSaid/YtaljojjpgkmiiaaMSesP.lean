/- The letters of a road; its methods tell and post. Condition: the road is in memory, with room in its net. -/
import Derived.Test.YtaljojjpgkmiiaaMSpec
import Derived.Test.YtaljojjpgkmiiaaMSesN
import Derived.Test.YtaljojjpgkmiiaaMNetB
import Derived.Test.YtaljojjpgkmiiaaMSes
import Derived.Deep.RegionHeld3
namespace Go.Proofs.Ytaljojjpgkmiiaa
open Go.RowKit

/-- the seven cells of a road -/
def roadCells (g : Nat → Nat) (u : Nat → Value) (sb : Nat) : Array Value := #[.pointer (some ⟨g 0, 0, none⟩), .pointer (some ⟨g 1, 0, none⟩), u 2, u 3, u 4, u 5, .pointer (some ⟨sb, 0, none⟩)]
/-- The box rb is a road: the ends E at the blocks g, their rows u 0 and u 1; what they sent (u 2, u 3) and took (u 4, u 5); the net with the letters N. -/
structure Road (w : World) (B rb sb mb : Nat) (g : Nat → Nat) (u : Nat → Value) (E : Nat → SE) (X : Nat → List ByteArray) (N : List NEn) (d : Nat) : Prop where
  rB : B ≤ rb
  box : Box w rb 58 (roadCells g u sb)
  ends : ∀ i, i < 2 → EndAt w B (g i) (u i) (E i)
  ne : g 0 ≠ g 1
  rows : ∀ i, 2 ≤ i → i < 6 → OwnTx w B (u i) (X i)
  far : ∀ i j, i < 6 → j < 6 → i ≠ j → Far (u i) (u j)
  net : NetAt w B sb mb N d
section
variable {w w' : World} {B rb sb mb d d' i : Nat} {g : Nat → Nat} {u : Nat → Value} {E : Nat → SE} {X : Nat → List ByteArray} {N N' : List NEn}
theorem Road.lo (h : Road w B rb sb mb g u E X N d) : B ≤ w.heap.size := Nat.le_of_lt (Nat.lt_of_le_of_lt h.rB h.box.lt)
theorem Road.ne2 (h : Road w B rb sb mb g u E X N d) {i j : Nat} (hi : i < 2) (hj : j < 2) (hij : i ≠ j) : g i ≠ g j := by
  have := h.ne
  match i, j, hi, hj with
  | 0, 0, _, _ => exact absurd rfl hij
  | 1, 1, _, _ => exact absurd rfl hij
  | 0, 1, _, _ => exact this
  | 1, 0, _, _ => exact fun e => this e.symm
theorem Road.row (h : Road w B rb sb mb g u E X N d) {i : Nat} (hi : i < 6) : ∃ l, OwnTx w B (u i) l := by
  by_cases h2 : i < 2
  · exact ⟨_, (h.ends i h2).own⟩
  · exact ⟨_, h.rows i (by omega) hi⟩
theorem Road.below (h : Road w B rb sb mb g u E X N d) (hb : Below w.heap.size w w') : Road w' B rb sb mb g u E X N d :=
  ⟨h.rB, h.box.below hb h.box.lt, fun i hi => (h.ends i hi).below hb, h.ne, fun i h1 h2 => (h.rows i h1 h2).below hb, h.far, h.net.below hb⟩
/-- the net of a road stays where what turns is no map, no net and no row of a letter's -/
theorem net_stays {a : Nat} {v : Value} (h : NetAt w B sb mb N d) (k : KeptE a v w w') {t : TypeId} {cs : Array Value} (ha : Box w a t cs) (ht : t ≠ 124 ∧ t ≠ 94 ∧ t ≠ 96) {C m : Nat} {xs : List Value} (hv : w.ownsRow C 9 1 v m xs) : NetAt w' B sb mb N d := by
  obtain ⟨es, c, hm⟩ := mapN_block h.own
  have hn := box_no_net ha h.box hm ht.1
  have hr := own_no_net hv h.box hm (by decide)
  refine { h with box := (k.block sb h.lt.1 (Ne.symm hn.1) fun e => (hr sb e).1 rfl).trans h.box, own := mapN_keep h.own (k.block mb h.lt.2 (Ne.symm hn.2) fun e => (hr mb e).2 rfl), rows := fun p hp => ⟨?_, ?_⟩ }
  · exact own_keepN (h.rows p hp).1 fun i hi => k.block i ((h.rows p hp).1.lt i hi).2 (own_no_box (h.rows p hp).1 ha (Ne.symm ht.2.1) i hi) (own_types_ne hv (h.rows p hp).1 (by decide) i hi)
  · exact own_keepN (h.rows p hp).2 fun i hi => k.block i ((h.rows p hp).2.lt i hi).2 (own_no_box (h.rows p hp).2 ha (Ne.symm ht.2.2) i hi) (own_types_ne hv (h.rows p hp).2 (by decide) i hi)
theorem far_new {v v' x : Value} (h : Far v x) (n : NewW w v v') (hx : ∀ i, x.ownBlock = some i → i < w.heap.size) : Far v' x ∧ Far x v' := by
  have h1 : Far v' x := fun i hi e => by
    rcases n i hi with h1 | h1
    · exact h i h1 e
    · have := hx i e
      omega
  exact ⟨h1, fun i hi e => h1 i e hi⟩
theorem far_upd (h : ∀ i j, i < 6 → j < 6 → i ≠ j → Far (u i) (u j)) {k : Nat} {v' : Value} (hk : ∀ j, j < 6 → j ≠ k → Far v' (u j) ∧ Far (u j) v') : ∀ i j, i < 6 → j < 6 → i ≠ j → Far (upd u k v' i) (upd u k v' j) := by
  intro i j hi hj hij
  by_cases h1 : i = k
  · subst h1
    rw [upd_self, upd_ne _ _ (Ne.symm hij)]
    exact (hk j hj (Ne.symm hij)).1
  · rw [upd_ne _ _ h1]
    by_cases h2 : j = k
    · subst h2
      rw [upd_self]
      exact (hk i hi h1).2
    · rw [upd_ne _ _ h2]
      exact h i j hi hj hij
/-- a call on the end i -/
theorem Road.atEnd (h : Road w B rb sb mb g u E X N d) {i : Nat} (hi : i < 2) {v' : Value} {E' : SE} (e' : EndAt w' B (g i) v' E') (k : KeptE (g i) (u i) w w') (n : NewW w (u i) v') :
    Road w' B rb sb mb g (upd u i v') (upd E i E') X N d ∧ Below B w w' := by
  have he := h.ends i hi
  have hcells : roadCells g (upd u i v') sb = roadCells g u sb := by
    unfold roadCells
    rw [upd_ne u v' (show 2 ≠ i by omega), upd_ne u v' (show 3 ≠ i by omega), upd_ne u v' (show 4 ≠ i by omega), upd_ne u v' (show 5 ≠ i by omega)]
  refine ⟨⟨h.rB, ?_, ?_, h.ne, ?_, far_upd h.far fun j hj hji => far_new (h.far i j (by omega) hj (Ne.symm hji)) n fun q hq => ?_, net_stays h.net k he.box (by decide) he.own⟩, he.kept k h.lo⟩
  · rw [hcells]
    exact (k.block rb h.box.lt (box_box_ne h.box he.box (by decide)) fun e => own_no_box he.own h.box (by decide) rb e rfl).trans h.box
  · intro j hj
    by_cases hji : j = i
    · subst hji
      rw [upd_self, upd_self]
      exact e'
    · rw [upd_ne _ _ hji, upd_ne _ _ hji]
      have hj' := h.ends j hj
      exact hj'.keep (k.block (g j) hj'.lt (h.ne2 hj hi hji) fun e => own_no_box he.own hj'.box (by decide) _ e rfl) fun q hq => k.block q (hj'.own.lt q hq).2 (own_no_box hj'.own he.box (by decide) q hq) fun e => h.far i j (by omega) (by omega) (Ne.symm hji) q e hq
  · intro j h2 h6
    rw [upd_ne _ _ (show j ≠ i by omega)]
    have hr := h.rows j h2 h6
    exact own_keepN hr fun q hq => k.block q (hr.lt q hq).2 (own_no_box hr he.box (by decide) q hq) fun e => h.far i j (by omega) h6 (by omega) q e hq
  · obtain ⟨l, hl⟩ := h.row hj
    exact (hl.lt q hq).2
/-- a call on the net -/
theorem Road.atNet (h : Road w B rb sb mb g u E X N d) (n' : NetAt w' B sb mb N' d') (k : Kept2 sb mb w w') : Road w' B rb sb mb g u E X N' d' ∧ Below B w w' := by
  refine ⟨⟨h.rB, h.net.boxKept k h.box (by decide), fun i hi => ?_, h.ne, fun i h2 h6 => h.net.rowKept k (h.rows i h2 h6) (by decide), h.far, n'⟩, k.below h.net.sB h.net.mB h.lo⟩
  have he := h.ends i hi
  exact ⟨he.gB, h.net.boxKept k he.box (by decide), h.net.rowKept k he.own (by decide), he.good⟩
theorem cells_upd (hi : 2 ≤ i ∧ i < 6) (v' : Value) : (roadCells g u sb).setIfInBounds i v' = roadCells g (upd u i v') sb := by
  obtain ⟨h2, h6⟩ := hi
  match i, h2, h6 with
  | 2, _, _ => rfl
  | 3, _, _ => rfl
  | 4, _, _ => rfl
  | 5, _, _ => rfl
theorem cells_end (hi : i < 2) (g' : Nat) (v' : Value) : (roadCells g u sb).setIfInBounds i (.pointer (some ⟨g', 0, none⟩)) = roadCells (upd g i g') (upd u i v') sb := by
  match i, hi with
  | 0, _ => rfl
  | 1, _ => rfl
/-- what turns is the road's own box and one of its rows -/
theorem Road.atRow {i : Nat} {v' : Value} {l' : List ByteArray} (h : Road w B rb sb mb g u E X N d) (hi : 2 ≤ i ∧ i < 6) (k : KeptE rb (u i) w w') (n : NewW w (u i) v') (hb : Box w' rb 58 (roadCells g (upd u i v') sb)) (o' : OwnTx w' B v' l') :
    Road w' B rb sb mb g (upd u i v') E (upd X i l') N d ∧ Below B w w' := by
  have hr := h.rows i hi.1 hi.2
  refine ⟨⟨h.rB, hb, ?_, h.ne, ?_, far_upd h.far fun j hj hji => far_new (h.far i j hi.2 hj (Ne.symm hji)) n fun q hq => ?_, net_stays h.net k h.box (by decide) hr⟩, k.below h.rB (fun q hq => (hr.lt q hq).1) h.lo⟩
  · intro j hj
    rw [upd_ne _ _ (show j ≠ i by omega)]
    have hj' := h.ends j hj
    exact hj'.keep (k.block (g j) hj'.lt (box_box_ne hj'.box h.box (by decide)) fun e => own_no_box hr hj'.box (by decide) _ e rfl) fun q hq => k.block q (hj'.own.lt q hq).2 (own_no_box hj'.own h.box (by decide) q hq) fun e => h.far i j hi.2 (by omega) (by omega) q e hq
  · intro j h2 h6
    by_cases hji : j = i
    · subst hji
      rw [upd_self, upd_self]
      exact o'
    · rw [upd_ne _ _ hji, upd_ne _ _ hji]
      have hj' := h.rows j h2 h6
      exact own_keepN hj' fun q hq => k.block q (hj'.lt q hq).2 (own_no_box hj' h.box (by decide) q hq) fun e => h.far i j hi.2 h6 (Ne.symm hji) q e hq
  · obtain ⟨l, hl⟩ := h.row hj
    exact (hl.lt q hq).2
/-- a text goes to the end of one of the road's rows -/
theorem Road.app {i : Nat} {w5 wA : World} {v' : Value} {x : ByteArray} (h : Road w B rb sb mb g u E X N d) (hi : 2 ≤ i ∧ i < 6) (hb : Below w.heap.size w w5)
    (o7 : wA.ownsRow B 9 1 v' ((X i).length + 1) ((X i).map Value.string ++ [.string x])) (g7 : w5.grownBy wA (u i).ownBlock) (z7 : v'.ownBlock = (u i).ownBlock ∨ v'.ownBlock = some w5.heap.size) :
    Road (wA.setCell ⟨rb, i, none⟩ v') B rb sb mb g (upd u i v') E (upd X i (X i ++ [x])) N d ∧ Below B w (wA.setCell ⟨rb, i, none⟩ v') := by
  have hr := h.rows i hi.1 hi.2
  have hn : (u i).ownBlock ≠ some rb := fun e => own_no_box hr h.box (by decide) rb e rfl
  have hn7 : NewV w (u i) v' := z7.imp id fun e => ⟨_, by have := hb.size; omega, e⟩
  have hng : v'.ownBlock ≠ some rb := by
    rcases z7 with z | z
    · rw [z]; exact hn
    · rw [z]
      intro e
      injection e with e
      have := h.box.lt
      have := hb.size
      omega
  refine h.atRow hi (((KeptE.of hb).trans (.inl rfl) (KeptE.grown g7 (.inr rfl))).trans (.inl rfl) box_set_kept) hn7.toW ?_ ?_
  · have hbA := ((h.box.below hb h.box.lt).grown g7 fun e => hn e.symm).set_ i v'
    rwa [cells_upd hi] at hbA
  · unfold OwnTx
    rw [List.length_append, List.length_singleton, List.map_append]
    exact own_set_kept o7 hng
/-- a new end in place of the end i -/
theorem Road.newEnd {i g' : Nat} {v' : Value} {E' : SE} (h : Road w B rb sb mb g u E X N d) (hi : i < 2) (e' : EndAt w' w.heap.size g' v' E') (hb : Below w.heap.size w w') :
    Road (w'.setCell ⟨rb, i, none⟩ (.pointer (some ⟨g', 0, none⟩))) B rb sb mb (upd g i g') (upd u i v') (upd E i E') X N d ∧ Below B w (w'.setCell ⟨rb, i, none⟩ (.pointer (some ⟨g', 0, none⟩))) := by
  have h' := h.below hb
  have k : KeptE rb (.slice none 0 0) w' (w'.setCell ⟨rb, i, none⟩ (.pointer (some ⟨g', 0, none⟩))) := box_set_kept
  have hk : ∀ q, q < w'.heap.size → q ≠ rb → (w'.setCell ⟨rb, i, none⟩ (.pointer (some ⟨g', 0, none⟩))).heap[q]? = w'.heap[q]? := fun q hq hne => k.block q hq hne (by simp [Value.ownBlock])
  have hlo := h.lo
  have hgn : ∀ j, j < 2 → g' ≠ g j := fun j hj e => by have := (h.ends j hj).lt; have := e'.gB; omega
  refine ⟨⟨h.rB, ?_, ?_, ?_, ?_, far_upd h.far fun j hj _ => ?_, net_stays h'.net k h'.box (by decide) (World.ownsRow_nil w' B 9 1)⟩, (hb.mono hlo).trans (k.below h.rB (by simp [Value.ownBlock]) (Nat.le_trans hlo hb.size))⟩
  · have hbA := h'.box.set_ i (.pointer (some ⟨g', 0, none⟩))
    rwa [cells_end hi] at hbA
  · intro j hj
    by_cases hji : j = i
    · subst hji
      rw [upd_self, upd_self, upd_self]
      exact (e'.base hlo).keep (hk g' e'.lt (box_box_ne e'.box h'.box (by decide))) fun q hq => hk q (e'.own.lt q hq).2 (own_no_box e'.own h'.box (by decide) q hq)
    · rw [upd_ne _ _ hji, upd_ne _ _ hji, upd_ne _ _ hji]
      have hj' := h'.ends j hj
      exact hj'.keep (hk _ hj'.lt (box_box_ne hj'.box h'.box (by decide))) fun q hq => hk q (hj'.own.lt q hq).2 (own_no_box hj'.own h'.box (by decide) q hq)
  · match i, hi with
    | 0, _ => exact hgn 1 (by omega)
    | 1, _ => exact fun e => hgn 0 (by omega) e.symm
  · intro j h2 h6
    rw [upd_ne _ _ (show j ≠ i by omega)]
    have hr := h'.rows j h2 h6
    exact own_keepN hr fun q hq => hk q (hr.lt q hq).2 (own_no_box hr h'.box (by decide) q hq)
  · obtain ⟨l, hl⟩ := h.row hj
    have h1 : Far v' (u j) := fun q hq e => by have := (e'.own.lt q hq).1; have := (hl.lt q e).2; omega
    exact ⟨h1, fun q hq e => h1 q e hq⟩
end
end Go.Proofs.Ytaljojjpgkmiiaa

namespace Go.Proofs.Ytaljojjpgkmiiaa
open Go.RowKit

theorem lR_err {k t a : Int} {b : ByteArray} (hk : 0 ≤ k ∧ k ≤ 255) (ht : 0 ≤ t ∧ t ≤ 1) (ha : 0 ≤ a ∧ a ≤ 1000000) (hb : b.size ≤ 1000) : (lR k t a b).err = 0 := by
  refine err_zero.2 ⟨⟨hk.2, ?_, by intro x hx; simp [lR] at hx⟩, by simp [lR], by simp [lR], ?_⟩
  · intro n hn
    simp [Let.nums, lR] at hn
    rcases hn with rfl | rfl | rfl | rfl | rfl
    all_goals exact ⟨by omega, by omega⟩
  · have h1 := form_small k ⟨hk.1, by omega⟩
    have h2 := form_small t ⟨ht.1, by omega⟩
    have h3 := form_small a ⟨ha.1, by omega⟩
    have h0 := form_small 0 ⟨by omega, by omega⟩
    have he : (tokForm (.t ⟨#[]⟩)).length = 1 := by
      have : numForm 0 = [0] := numForm_lo (by omega)
      show (numForm 0 ++ []).length = 1
      rw [this]; rfl
    have h4 : (tokForm (.t b)).length ≤ 1009 := by
      show (textForm b.data.toList).length ≤ 1009
      rw [textForm_len, size_bytes]
      have := numForm_len9 (k := b.size) (by omega)
      omega
    show (formsOf [.n k, .n 0, .n t, .n a, .n 0, .n 0, .n 0, .n 0, .n 0, .t ⟨#[]⟩, .t ⟨#[]⟩, .t b, .n 0, .n 0]).length ≤ 65536
    simp only [formsOf, List.map_cons, List.map_nil, List.flatten_cons, List.flatten_nil, List.length_append, List.length_nil]
    omega
section
variable {w : World} {B rb sb mb d : Nat} {g : Nat → Nat} {u : Nat → Value} {E : Nat → SE} {X : Nat → List ByteArray} {N : List NEn}
/-- a letter is sent over the road's net -/
def RSend (B rb sb mb : Nat) (g : Nat → Nat) (u : Nat → Value) (E : Nat → SE) (X : Nat → List ByteArray) (N : List NEn) (d : Nat) (L : Let) (w : World) (e : Ending) (w' : World) : Prop :=
  ∃ en : NEn, en.L = L ∧ e = .returned (.tuple #[.int .i64 ((d + 1 : Nat) : Int), .int .i64 0]) ∧ Road w' B rb sb mb g u E X (N ++ [en]) (d + 1) ∧ Below B w w' ∧ Kept2 sb mb w w'
theorem road_send (h : Road w B rb sb mb g u E X N d) (hd : d ≤ 100000000) (hN : N.length < 4096) {k t a : Int} {b : ByteArray} (hk : 0 ≤ k ∧ k ≤ 255) (ht : 0 ≤ t ∧ t ≤ 1) (ha : 0 ≤ a ∧ a ≤ 1000000) (hb : b.size ≤ 1000) :
    Calls Try.prog 44 #[.pointer (some ⟨sb, 0, none⟩), .agg #[.int .i64 k, .int .i64 0, .int .i64 t, .int .i64 a, .int .i64 0, .int .i64 0, .int .i64 0, .string ⟨#[]⟩, .string ⟨#[]⟩, .slice none 0 0, .slice none 0 0, .int .i64 0, .bool false, .string b]] w (RSend B rb sb mb g u E X N d (lR k t a b) w) := by
  have hs := netSend_any h.net h.lo (by omega) (lR k t a b) none 0 0 none 0 0 (fun wx _ => ⟨HasLps.nil _ _ _, HasLis.nil _ _ _⟩) ⟨by simp [maxLen], by simp [maxLen]⟩ (by
    intro s hs
    simp [Let.txts, lR] at hs
    rcases hs with rfl | rfl
    · exact Nat.zero_le _
    · omega) (by intro p hp; simp [lR] at hp) (by intro p hp; simp [lR] at hp)
  refine hs.mono fun e w' hp => ?_
  rcases hp with ⟨h1, -⟩ | ⟨-, hp⟩
  · exact absurd (lR_err hk ht ha hb) h1
  · rcases hp with ⟨h1, -⟩ | ⟨-, en, -, hL, rfl, hn, -, k2⟩
    · omega
    · obtain ⟨r1, r2⟩ := h.atNet hn k2
      exact ⟨en, hL, rfl, r1, r2, k2⟩
/-- what tell leaves -/
def TellP (B rb sb mb : Nat) (g : Nat → Nat) (u : Nat → Value) (E : Nat → SE) (X : Nat → List ByteArray) (N : List NEn) (d who : Nat) (w : World) (e : Ending) (w' : World) : Prop :=
  e = .returned (.tuple #[]) ∧ ∃ en : NEn, en.L = lR 2 (1 - who : Nat) (E who).m ⟨#[]⟩ ∧ Road w' B rb sb mb g u E X (N ++ [en]) (d + 1) ∧ Below B w w'
theorem Road.cells (h : Road w B rb sb mb g u E X N d) : w.cell? ⟨rb, 0, none⟩ = some (.pointer (some ⟨g 0, 0, none⟩)) ∧ w.cell? ⟨rb, 1, none⟩ = some (.pointer (some ⟨g 1, 0, none⟩)) ∧ w.cell? ⟨rb, 2, none⟩ = some (u 2) ∧ w.cell? ⟨rb, 3, none⟩ = some (u 3) ∧ w.cell? ⟨rb, 4, none⟩ = some (u 4) ∧ w.cell? ⟨rb, 5, none⟩ = some (u 5) ∧ w.cell? ⟨rb, 6, none⟩ = some (.pointer (some ⟨sb, 0, none⟩)) :=
  ⟨h.box.cell 0, h.box.cell 1, h.box.cell 2, h.box.cell 3, h.box.cell 4, h.box.cell 5, h.box.cell 6⟩
set_option maxRecDepth 100000 in
set_option maxHeartbeats 3200000 in
theorem tell_any (h : Road w B rb sb mb g u E X N d) (hd : d ≤ 100000000) (hN : N.length < 4096) {who : Nat} (hw : who < 2) (hm : (E who).m ≤ 1000000) : Calls Try.prog 35 #[.pointer (some ⟨rb, 0, none⟩), .int .i64 (who : Int)] w (TellP B rb sb mb g u E X N d who w) := by
  obtain ⟨m, hmm⟩ : ∃ m, (E who).m = m := ⟨_, rfl⟩
  have HM := Lib.hid hmm
  rw [hmm] at hm
  have Hh := Lib.hid h
  have HK : Hid (∀ wx, Below w.heap.size w wx → wx.cell? ⟨rb, 0, none⟩ = some (.pointer (some ⟨g 0, 0, none⟩)) ∧ wx.cell? ⟨rb, 1, none⟩ = some (.pointer (some ⟨g 1, 0, none⟩)) ∧ wx.cell? ⟨rb, 6, none⟩ = some (.pointer (some ⟨sb, 0, none⟩))) := Lib.hid fun wx hx => by
    have hc := (h.below hx).cells
    exact ⟨hc.1, hc.2.1, hc.2.2.2.2.2.2⟩
  have HS : Hid (∀ wx, Below w.heap.size w wx → ∀ t : Int, 0 ≤ t ∧ t ≤ 1 → Calls Try.prog 44 #[.pointer (some ⟨sb, 0, none⟩), .agg #[.int .i64 2, .int .i64 0, .int .i64 t, .int .i64 (m : Int), .int .i64 0, .int .i64 0, .int .i64 0, .string ⟨#[]⟩, .string ⟨#[]⟩, .slice none 0 0, .slice none 0 0, .int .i64 0, .bool false, .string ⟨#[]⟩]] wx (RSend B rb sb mb g u E X N d (lR 2 t m ⟨#[]⟩) wx)) := Lib.hid fun wx hx t ht => road_send (h.below hx) hd hN ⟨by omega, by omega⟩ ht ⟨by omega, by omega⟩ (Nat.zero_le _)
  have HE := Lib.hid (fun wx (hx : Below w.heap.size w wx) => sesMark_any ((h.ends who hw).below hx))
  rw [hmm] at HE
  have hw2 := hw
  clear h hmm hd hN hw hm
  obtain ⟨p0, p1, p6⟩ := HK.out w (Below.refl _ _)
  match who, HM, HE, hw2 with
  | 0, HM, HE, _ =>
    go_enter Try.func35, Try.ntmps35
    go_wp2
    go_region_held3 (fun wx => wx.cell? ⟨rb, 0, none⟩ = some (.pointer (some ⟨g 0, 0, none⟩)) ∧ wx.cell? ⟨rb, 1, none⟩ = some (.pointer (some ⟨g 1, 0, none⟩)) ∧ wx.cell? ⟨rb, 6, none⟩ = some (.pointer (some ⟨sb, 0, none⟩)))
      (first | exact HK.out _ (Below.refl _ _).drew | exact ⟨r4.cells.1, r4.cells.2.1, r4.cells.2.2.2.2.2.2⟩)
      (first
        | (go_at_call 29; refine (HE.out _ (Below.refl _ _).drew).mono ?_; rintro e w3 ⟨rfl, rfl⟩)
        | (go_at_call 44; refine (HS.out _ (Below.refl _ _).drew 1 ⟨by omega, by omega⟩).mono ?_; rintro e w4 ⟨en, hL, rfl, r4, b4, -⟩))
    all_goals
      have HF := Lib.hid (And.intro hL (And.intro r4 (((Below.refl B w).drew).trans b4)))
      clear hL r4 b4
      go_wp2
      go_end0
      exact ⟨rfl, en, by rw [HF.out.1, HM.out]; rfl, HF.out.2.1, HF.out.2.2⟩
  | 1, HM, HE, _ =>
    go_enter Try.func35, Try.ntmps35
    go_wp2
    go_region_held3 (fun wx => wx.cell? ⟨rb, 0, none⟩ = some (.pointer (some ⟨g 0, 0, none⟩)) ∧ wx.cell? ⟨rb, 1, none⟩ = some (.pointer (some ⟨g 1, 0, none⟩)) ∧ wx.cell? ⟨rb, 6, none⟩ = some (.pointer (some ⟨sb, 0, none⟩)))
      (first | exact HK.out _ (Below.refl _ _).drew | exact ⟨r4.cells.1, r4.cells.2.1, r4.cells.2.2.2.2.2.2⟩)
      (first
        | (go_at_call 29; refine (HE.out _ (Below.refl _ _).drew).mono ?_; rintro e w3 ⟨rfl, rfl⟩)
        | (go_at_call 44; refine (HS.out _ (Below.refl _ _).drew 0 ⟨by omega, by omega⟩).mono ?_; rintro e w4 ⟨en, hL, rfl, r4, b4, -⟩))
    all_goals
      have HF := Lib.hid (And.intro hL (And.intro r4 (((Below.refl B w).drew).trans b4)))
      clear hL r4 b4
      go_wp2
      go_end0
      exact ⟨rfl, en, by rw [HF.out.1, HM.out]; rfl, HF.out.2.1, HF.out.2.2⟩
end
end Go.Proofs.Ytaljojjpgkmiiaa
