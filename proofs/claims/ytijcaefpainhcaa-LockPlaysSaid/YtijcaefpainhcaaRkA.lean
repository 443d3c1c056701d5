/- Layer 16, the document's own table: rows of locks in memory; New, At. No condition. -/
import Derived.Test.YtijcaefpainhcaaLkA
import Derived.Test.YtijcaefpainhcaaRngO
import Derived.BigQuiet
namespace Go.Proofs.Ytijcaefpainhcaa
open Go.RowKit

/-- a lock of the document's table: its number, what it has, when it was as new ('left'); where its ranges lie -/
structure RE where
  p : TL
  A : Option Addr
  c : Nat
def RE.row (e : RE) : Value := .slice e.A e.p.L.length e.c
def rl (R : List RE) : List TL := R.map RE.p
theorem rl_len (R : List RE) : (rl R).length = R.length := by simp [rl]
def rk3 (p : RE) : List Value := [.int .i64 p.p.n, .slice p.A p.p.L.length p.c, .int .i64 p.p.left]
def rkCells : List RE → List Value
  | [] => []
  | p :: l => rk3 p ++ rkCells l
theorem rkCells_len (l : List RE) : (rkCells l).length = l.length * 3 := by
  induction l with
  | nil => rfl
  | cons v l ih =>
    have : (rk3 v).length = 3 := rfl
    simp only [rkCells, List.length_append, List.length_cons, ih, this]
    omega
theorem rkCells_app (a b : List RE) : rkCells (a ++ b) = rkCells a ++ rkCells b := by
  induction a with
  | nil => rfl
  | cons v l ih => simp [rkCells, ih]
theorem rk3_one (p : RE) : ∀ u ∈ rk3 p, u.oneCell' = true := by
  intro u hu
  simp only [rk3, List.mem_cons, List.not_mem_nil, or_false] at hu
  rcases hu with rfl | rfl | rfl <;> rfl
theorem rkCells_one (l : List RE) : ∀ u ∈ rkCells l, u.oneCell' = true := by
  induction l with
  | nil => intro u hu; simp [rkCells] at hu
  | cons v l ih =>
    intro u hu
    rcases List.mem_append.1 hu with h | h
    · exact rk3_one v u h
    · exact ih u h
theorem rkCells_at : ∀ (l : List RE) (i j : Nat) (p : RE), l[i]? = some p → j < 3 → (rkCells l)[i * 3 + j]? = (rk3 p)[j]?
  | [], i, j, v, h, _ => by simp at h
  | w :: l, 0, j, v, h, hj => by
    simp at h
    subst h
    have h3' : (rk3 w).length = 3 := rfl
    rw [Nat.zero_mul, Nat.zero_add, rkCells, List.getElem?_append_left (by omega)]
  | w :: l, i + 1, j, v, h, hj => by
    have ih := rkCells_at l i j v (by simpa using h) hj
    have h3' : (rk3 w).length = 3 := rfl
    rw [rkCells, List.getElem?_append_right (by omega), h3', show (i + 1) * 3 + j - 3 = i * 3 + j from by omega]
    exact ih
theorem rkCells_drop : ∀ (l : List RE) (k : Nat), (rkCells l).drop (k * 3) = rkCells (l.drop k)
  | [], k => by simp [rkCells]
  | c :: l, 0 => by simp
  | c :: l, k + 1 => by
    have h3' : (rk3 c).length = 3 := rfl
    rw [show (k + 1) * 3 = 3 + k * 3 from by omega, ← List.drop_drop, rkCells, List.drop_left' h3', List.drop_succ_cons]
    exact rkCells_drop l k
theorem rkCells_take : ∀ (l : List RE) (k : Nat), (rkCells l).take (k * 3) = rkCells (l.take k)
  | [], k => by simp [rkCells]
  | c :: l, 0 => by simp [rkCells]
  | c :: l, k + 1 => by
    have h3' : (rk3 c).length = 3 := rfl
    rw [show (k + 1) * 3 = 3 + k * 3 from by omega, rkCells, List.take_add, List.take_left' h3', List.drop_left' h3', List.take_succ_cons, rkCells, rkCells_take l k]
/-- The slice value with address A and length n holds the numbered locks l. -/
def HasRks (w : World) (B : Nat) (A : Option Addr) (n : Nat) (l : List RE) : Prop := l.length = n ∧ Has w B A (n * 3) (rkCells l)
section
variable {w w' : World} {B B' n : Nat} {A : Option Addr} {l : List RE}
theorem HasRks.nil (w : World) (B : Nat) (A : Option Addr) : HasRks w B A 0 [] := ⟨rfl, Has.nil _ _ _⟩
theorem HasRks.at_ (h : HasRks w B A n l) {i : Nat} (hi : i < n) : ∃ a v, A = some a ∧ a.block < B ∧ l[i]? = some v ∧ w.cell? (a.add (i * 3)) = some (.int .i64 v.p.n) ∧
    (w.cell? ⟨(a.add (i * 3)).block, (a.add (i * 3)).off + 1, none⟩ = some (.slice v.A v.p.L.length v.c) ∧ w.cell? ⟨(a.add (i * 3)).block, (a.add (i * 3)).off + 2, none⟩ = some (.int .i64 v.p.left)) := by
  obtain ⟨hl, hh⟩ := h
  have hil : i < l.length := by omega
  have hc := fun j hj => rkCells_at l i j l[i] (List.getElem?_eq_getElem hil) hj
  obtain ⟨a, rfl, hb, hg⟩ := hh.all (by omega)
  refine ⟨a, _, rfl, hb, List.getElem?_eq_getElem hil, hg _ _ (hc 0 (by omega)), ?_⟩
  have hs := fun (j : Nat) (hj : 0 < j) (h15 : j < 3) u (hu : (rk3 l[i])[j]? = some u) => (rg_step a (i * 3) j hj) ▸ hg (i * 3 + j) u ((hc j h15).trans hu)
  exact ⟨hs 1 (by omega) (by omega) _ rfl, hs 2 (by omega) (by omega) _ rfl⟩
theorem HasRks.more (h : HasRks w B A n l) (hB : B ≤ B') : HasRks w B' A n l := ⟨h.1, h.2.more hB⟩
theorem HasRks.below (h : HasRks w B A n l) (hb : Below B w w') : HasRks w' B A n l := ⟨h.1, h.2.below hb⟩
theorem HasRks.belowOf (h : HasRks w B A n l) {C : Nat} (hb : Below C w w') (hC : B ≤ C) : HasRks w' B A n l := ⟨h.1, h.2.belowOf hb hC⟩
theorem HasRks.keep (h : HasRks w B A n l) (hk : ∀ p : Addr, p.block < B → w'.cell? p = w.cell? p) : HasRks w' B A n l := ⟨h.1, h.2.keep hk⟩
end
theorem rk_elem : ElemN Try.prog 83 3 40 (.agg #[.int .i64 0, .slice none 0 0, .int .i64 0]) := ⟨by kernel_rfl, by kernel_rfl⟩

/-- a row of numbered locks that the call owns -/
def OwnRks (w : World) (B : Nat) (v : Value) (l : List RE) : Prop := w.ownsRow B 83 3 v l.length (rkCells l)
theorem OwnRks.slice {w : World} {B : Nat} {v : Value} {l : List RE} (h : OwnRks w B v l) : ∃ A c, v = .slice A l.length c ∧ l.length ≤ c ∧ c ≤ maxLen ∧ HasRks w w.heap.size A l.length l := by
  obtain ⟨A, c, e, h1, h2, h3⟩ := own_sliceN h
  exact ⟨A, c, e, h1, h2, rfl, h3⟩
theorem OwnRks.nil (w : World) (B : Nat) : OwnRks w B (.slice none 0 0) [] := World.ownsRow_nil _ _ _ _
theorem OwnRks.below {w w' : World} {B : Nat} {v : Value} {l : List RE} (h : OwnRks w B v l) (hb : Below w.heap.size w w') : OwnRks w' B v l := own_belowN h hb
theorem rk_lit (w : World) (p : RE) : Has (w.alloc (.cells #[.int .i64 p.p.n, .slice p.A p.p.L.length p.c, .int .i64 p.p.left] 83)) (w.heap.size + 1) (some ⟨w.heap.size, 0, none⟩) (1 * 3) (rkCells [p]) :=
  Has.lit w #[.int .i64 p.p.n, .slice p.A p.p.L.length p.c, .int .i64 p.p.left] 83

/-- The pointer to block rb is the document's table: its locks R in the row v; all of it lies in blocks of G. -/
structure RfAt (w : World) (G : Nat → Prop) (rb : Nat) (v : Value) (lease now : Int) (R : List RE) : Prop where
  rF : G rb
  vF : ∀ g, v.ownBlock = some g → G g
  eF : ∀ e ∈ R, ∀ g, e.row.ownBlock = some g → G g
  lt : ∀ i, G i → i < w.heap.size
  box : Box w rb 78 #[.int .i64 lease, .int .i64 now, v]
  own : OwnRks w 0 v R
  rows : ∀ e ∈ R, OwnRgs w 0 e.row e.p.L
theorem typesR : (83 : TypeId) ≠ 78 ∧ (23 : TypeId) ≠ 78 ∧ (23 : TypeId) ≠ 83 := by decide
section
variable {F G : Nat → Prop} {w w' wN : World} {rb : Nat} {v : Value} {lease now : Int} {R : List RE}
theorem RfAt.mono (h : RfAt w F rb v lease now R) (hG : ∀ i, F i → G i) (hl : ∀ i, G i → i < w.heap.size) : RfAt w G rb v lease now R :=
  { h with
    rF := hG _ h.rF
    vF := fun g hg => hG _ (h.vF g hg)
    eF := fun e he g hg => hG _ (h.eF e he g hg)
    lt := hl }
theorem RfAt.same (h : RfAt w F rb v lease now R) (hs : w.heap.size ≤ w'.heap.size) (hk : ∀ i, F i → w'.heap[i]? = w.heap[i]?) : RfAt w' F rb v lease now R :=
  { h with
    lt := fun i hi => Nat.lt_of_lt_of_le (h.lt i hi) hs
    box := (hk rb h.rF).trans h.box
    own := ownL_keep h.own fun g hg => hk g (h.vF g hg)
    rows := fun e he => ownL_keep (h.rows e he) fun g hg => hk g (h.eF e he g hg) }
theorem RfAt.below (h : RfAt w F rb v lease now R) (hb : Below w.heap.size w w') : RfAt w' F rb v lease now R := h.same hb.size fun i hi => hb.block i (h.lt i hi)
theorem RfAt.other (h : RfAt w F rb v lease now R) (k : KeptF G w w') (hd : ∀ i, F i → ¬ G i) : RfAt w' F rb v lease now R := h.same k.size fun i hi => k.block i (h.lt i hi) (hd i hi)
theorem RfAt.add (h : RfAt w' F rb v lease now R) : RfAt w' (addF F w w') rb v lease now R := h.mono (fun _ hi => .inl hi) fun i hi => hi.elim (h.lt i) (fun hi => hi.2)
theorem RfAt.cells (h : RfAt w F rb v lease now R) : (w.cell? ⟨rb, 0, none⟩ = some (.int .i64 lease) ∧ w.cell? ⟨rb, 1, none⟩ = some (.int .i64 now) ∧ w.cell? ⟨rb, 2, none⟩ = some v) ∧ w.frozen? ⟨rb, 1, none⟩ = false ∧ w.frozen? ⟨rb, 2, none⟩ = false :=
  ⟨⟨h.box.cell 0, h.box.cell 1, h.box.cell 2⟩, h.box.frozen 1, h.box.frozen 2⟩
theorem RfAt.vNe (h : RfAt w F rb v lease now R) {g : Nat} (hg : v.ownBlock = some g) : g ≠ rb := by
  obtain ⟨cs, hc⟩ := ownL_type h.own hg
  exact types_ne hc h.box typesR.1
theorem RfAt.eNe (h : RfAt w F rb v lease now R) {e : RE} (he : e ∈ R) {g : Nat} (hg : e.row.ownBlock = some g) : g ≠ rb ∧ ∀ g', v.ownBlock = some g' → g ≠ g' := by
  obtain ⟨cs, hc⟩ := ownL_type (h.rows e he) hg
  exact ⟨types_ne hc h.box typesR.2.1, fun g' hg' => by
    obtain ⟨cs', hc'⟩ := ownL_type h.own hg'
    exact types_ne hc hc' typesR.2.2⟩
theorem RfAt.has (h : RfAt w F rb v lease now R) {e : RE} (he : e ∈ R) : HasRgs w w.heap.size e.A e.p.L.length e.p.L := by
  obtain ⟨A', c', ev, -, -, hrs⟩ := (h.rows e he).slice
  have ev2 : e.row = .slice e.A e.p.L.length e.c := rfl
  rw [ev2] at ev
  injection ev with eA _ _
  subst eA
  exact hrs
/-- the clock's store -/
theorem RfAt.setNow (h : RfAt w F rb v lease now R) (x : Int) (hw : w.setCell ⟨rb, 1, none⟩ (.int .i64 x) = w') : RfAt w' F rb v lease x R ∧ KeptF F w w' := by
  subst hw
  have hk : ∀ i, i ≠ rb → (w.setCell ⟨rb, 1, none⟩ (.int .i64 x)).heap[i]? = w.heap[i]? := fun i hi => Below.heap_setCell w ⟨rb, 1, none⟩ _ i hi
  refine ⟨{ h with
    lt := fun i hi => by simpa using h.lt i hi
    box := by have h8 := h.box.set_ 1 (.int .i64 x); simpa using h8
    own := ownL_keep h.own fun g hg => hk g (h.vNe hg)
    rows := fun e he => ownL_keep (h.rows e he) fun g hg => hk g (h.eNe he hg).1 }, ⟨rfl, rfl, rfl, by simp, fun i _ hF => hk i (fun e => hF (e ▸ h.rF))⟩⟩
/-- another row of locks takes the place of the one that was -/
theorem RfAt.setL (h : RfAt w F rb v lease now R) (hb : Below w.heap.size w wN) {v' : Value} {R' : List RE} (ho : OwnRks wN w.heap.size v' R') (hr : ∀ e ∈ R', OwnRgs wN 0 e.row e.p.L ∧ ∀ g, e.row.ownBlock = some g → F g ∨ w.heap.size ≤ g) (hw : wN.setCell ⟨rb, 2, none⟩ v' = w') :
    RfAt w' (addF F w w') rb v' lease now R' ∧ KeptF F w w' := by
  subst hw
  have hs : (wN.setCell ⟨rb, 2, none⟩ v').heap.size = wN.heap.size := by simp
  have hk : ∀ i, i ≠ rb → (wN.setCell ⟨rb, 2, none⟩ v').heap[i]? = wN.heap[i]? := fun i hi => Below.heap_setCell wN ⟨rb, 2, none⟩ _ i hi
  have hrb := h.lt rb h.rF
  have bx := h.box.below hb hrb
  have hn : ∀ {e : RE}, e ∈ R' → ∀ g, e.row.ownBlock = some g → g ≠ rb := fun he g hg => by
    obtain ⟨cs, hc⟩ := ownL_type (hr _ he).1 hg
    exact types_ne hc bx typesR.2.1
  refine ⟨⟨.inl h.rF, fun g hg => ?_, fun e he g hg => ?_, fun i hi => ?_, ?_, ?_, fun e he => ?_⟩, ⟨hb.os, hb.tape, hb.output, by rw [hs]; exact hb.size, fun i hi hF => (hk i (fun e => hF (e ▸ h.rF))).trans (hb.block i hi)⟩⟩
  · have := World.ownsRow.lt ho g hg
    exact .inr ⟨this.1, by rw [hs]; exact this.2⟩
  · rcases (hr e he).2 g hg with h1 | h1
    · exact .inl h1
    · exact .inr ⟨h1, by rw [hs]; exact (World.ownsRow.lt (hr e he).1 g hg).2⟩
  · rw [hs]
    exact hi.elim (fun hi => Nat.lt_of_lt_of_le (h.lt i hi) hb.size) (fun hi => by rw [← hs]; exact hi.2)
  · have h8 := bx.set_ 2 v'
    simpa using h8
  · exact own_baseN (ownL_keep ho fun g hg => hk g (by have := (World.ownsRow.lt ho g hg).1; omega)) (Nat.zero_le _)
  · exact ownL_keep (hr e he).1 fun g hg => hk g (hn he g hg)
set_option maxRecDepth 100000 in
theorem refNew16_any (x : Int) (w : World) : Calls Try.prog 28 #[.int .i64 x] w fun e w' => ∃ rb, e = .returned (.pointer (some ⟨rb, 0, none⟩)) ∧ RfAt w' (addF (fun _ => False) w w') rb (.slice none 0 0) (if x < 1 then 1 else x) 0 [] ∧ Below w.heap.size w w' := by
  obtain ⟨y, hy⟩ : ∃ y, (if x < 1 then 1 else x) = y := ⟨_, rfl⟩
  obtain ⟨w1, hw1⟩ : ∃ w1, w.alloc (.cells #[.int .i64 y, .int .i64 0, .slice none 0 0] 78) = w1 := ⟨_, rfl⟩
  have hsz : w1.heap.size = w.heap.size + 1 := by rw [← hw1]; simp
  have hbox : Box w1 w.heap.size 78 #[.int .i64 y, .int .i64 0, .slice none 0 0] := hw1 ▸ Box.made _ _ _
  have H : Hid (RfAt w1 (addF (fun _ => False) w w1) w.heap.size (.slice none 0 0) y 0 []) := Lib.hid ⟨.inr (by omega), fun g hg => (by cases hg), (by simp), fun i hi => hi.elim False.elim (fun hi => hi.2), hbox, OwnRks.nil _ _, by simp⟩
  have HB : Hid (Below w.heap.size w w1) := Lib.hid (hw1 ▸ below_box _)
  clear hbox hsz
  rw [hy]
  by_cases hx : x < 1
  · obtain rfl : y = 1 := by rw [← hy, if_pos hx]
    clear hy
    go_enter Try.func28, Try.ntmps28
    go_wp2
    go_ret
    exact ⟨_, rfl, H.out, HB.out⟩
  · obtain rfl : y = x := by rw [← hy, if_neg hx]
    have hx2 : decide (y < 1) = false := decide_eq_false hx
    clear hy
    go_enter Try.func28, Try.ntmps28
    go_wp2
    go_ret
    exact ⟨_, rfl, H.out, HB.out⟩
def AtPost (k : Int) (R : List RE) (w : World) (e : Ending) (w' : World) : Prop :=
  w' = w ∧ ((e = .returned (.int .i64 (-1)) ∧ ∀ p ∈ R, p.p.n ≠ k) ∨ ∃ (i : Nat) (p : RE), e = .returned (.int .i64 (i : Int)) ∧ R[i]? = some p ∧ p.p.n = k)
set_option maxRecDepth 100000 in
set_option maxHeartbeats 1600000 in
theorem refAt16_any (h : RfAt w F rb v lease now R) (hR : R.length ≤ 100000) (k : Int) :
    Calls Try.prog 65 #[.pointer (some ⟨rb, 0, none⟩), .int .i64 k] w (AtPost k R w) := by
  obtain ⟨⟨-, -, q0⟩, -, -⟩ := h.cells
  obtain ⟨A, c, rfl, -, -, hs⟩ := h.own.slice
  obtain ⟨n, hn⟩ : ∃ n, R.length = n := ⟨_, rfl⟩
  rw [hn] at hR hs q0
  have Hs := Lib.hid hs
  have Hn := Lib.hid hn
  clear h hs hn
  unfold AtPost
  go_enter Try.func65, Try.ntmps65
  go_wp2
  go_loopw [5] (fun iv wr => ∃ j : Nat, j ≤ n ∧ iv = .int .i64 (j : Int) ∧ Hid (∀ q ∈ R.take j, q.p.n ≠ k) ∧ wr = w) (fun iv _ => n - (intOf iv).toNat)
  case atStart => exact ⟨0, by omega, rfl, Lib.hid (by simp), rfl⟩
  case round =>
    obtain ⟨j, hj, rfl, Hp, rfl⟩ := hrel
    by_cases hlt : j < n
    · obtain ⟨a, y, rfl, hab, hy, c0, -⟩ := Hs.out.at_ hlt
      have Hy := Lib.hid hy
      have hk0 : (0 : Int) ≤ (j : Int) := by omega
      have hk1 : (j : Int) < (n : Int) := by omega
      obtain ⟨yn, hyn⟩ : ∃ yn, y.p.n = yn := ⟨_, rfl⟩
      have Hyn := Lib.hid hyn
      rw [hyn] at c0
      clear hy hyn hab
      by_cases hk : yn = k
      · subst hk
        go_wp2
        go_ret
        exact ⟨rfl, .inr ⟨j, y, rfl, Hy.out, Hyn.out⟩⟩
      · have Hp1 : Hid (∀ q ∈ R.take (j + 1), q.p.n ≠ k) := Lib.hid (by
          rw [List.take_add_one, Hy.out]
          intro x hx
          rcases List.mem_append.1 hx with hx | hx
          · exact Hp.out x hx
          · simp at hx; subst hx; rw [Hyn.out]; exact hk)
        go_wp2
        go_roundw
        case rel => exact ⟨j + 1, by omega, by go_num, Hp1, trivial⟩
        case measure => simp [intOf]; omega
    · have E : Hid (∀ q ∈ R, q.p.n ≠ k) := Lib.hid (by have h1 := Hp.out; rwa [List.take_of_length_le (by have := Hn.out; omega)] at h1)
      go_wp2
      go_ret
      exact ⟨rfl, .inl ⟨rfl, E.out⟩⟩
end
end Go.Proofs.Ytijcaefpainhcaa
