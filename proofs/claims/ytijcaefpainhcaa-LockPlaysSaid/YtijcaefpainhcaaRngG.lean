/- The document's In, and its places: rising texts, put one by one. Condition: rows in memory. -/
import Derived.Test.YtijcaefpainhcaaRngC
namespace Go.Proofs.Ytijcaefpainhcaa
open Go.RowKit
open Go.Lib (strCells compareBytes)

set_option maxRecDepth 100000 in
set_option maxHeartbeats 1600000 in
theorem refIn_any (A : Option Addr) (n c C : Nat) (l : List Rg) (s : ByteArray) (w : World) (h : HasRgs w C A n l) (hC : C ≤ w.heap.size) (hn : n ≤ 1000000) :
    Calls Try.prog 54 #[.slice A n c, .string s] w fun e w' => e = .returned (.bool (decide (inS l s.data.toList))) ∧ Below w.heap.size w w' := by
  have H := Lib.hid h
  have Hl := Lib.hid h.1
  have Hc := Lib.hid (fun r wx => refHas_any r s wx)
  unfold ragg at Hc
  clear h
  go_enter Try.func54, Try.ntmps54
  go_wp2
  go_loopw [5] (fun iv wr => ∃ k : Nat, k ≤ n ∧ iv = .int .i64 (k : Int) ∧ Hid (¬ inS (l.take k) s.data.toList) ∧ Below w.heap.size w wr) (fun iv _ => n - (intOf iv).toNat)
  case atStart => exact ⟨0, by omega, rfl, Lib.hid (in_nil _), Below.refl _ _⟩
  case round =>
    obtain ⟨k, hk, rfl, Hp, hb⟩ := hrel
    have Hb := Lib.hid hb
    have hsz := hb.size
    clear hb
    by_cases hlt : k < n
    · obtain ⟨a, y, rfl, hab, hy, c0, c1⟩ := (H.out.belowOf Hb.out hC).at_ hlt
      have Hy := Lib.hid hy
      have hk0 : (0 : Int) ≤ (k : Int) := by omega
      have hk1 : (k : Int) < (n : Int) := by omega
      obtain ⟨yk, yv⟩ := y
      have Hc1 := Lib.hid (fun wx => Hc.out ⟨yk, yv⟩ wx)
      simp only at c0 c1 Hc1
      by_cases hh : hasR ⟨yk, yv⟩ s.data.toList
      · have E : Hid (decide (inS l s.data.toList) = true) := Lib.hid (decide_eq_true ⟨_, List.mem_of_getElem? hy, hh⟩)
        simp only [decide_eq_true hh] at Hc1
        clear hy hh
        go_wp2_with fail
        refine (Hc1.out _).mono ?_
        rintro e w2 ⟨rfl, hb2⟩
        have Hb2 := Lib.hid (Hb.out.trans (hb2.mono hsz))
        clear hb2
        go_wp2
        go_ret
        exact ⟨ret_bool (by rw [E.out]), Hb2.out⟩
      · have Hp1 : Hid (¬ inS (l.take (k + 1)) s.data.toList) := Lib.hid fun h => by
          rcases (take_in hy _).1 h with h | h
          · exact Hp.out h
          · exact hh h
        simp only [decide_eq_false hh] at Hc1
        clear hy hh
        go_wp2_with fail
        refine (Hc1.out _).mono ?_
        rintro e w2 ⟨rfl, hb2⟩
        have Hb2 := Lib.hid (Hb.out.trans (hb2.mono hsz))
        clear hb2
        go_wp2
        go_roundw
        case rel => exact ⟨k + 1, by omega, by go_num, Hp1, Hb2.out⟩
        case measure => simp [intOf]; omega
    · have E : Hid (decide (inS l s.data.toList) = false) := Lib.hid (decide_eq_false (by have h1 := Hp.out; rwa [List.take_of_length_le (by have := Hl.out; omega)] at h1))
      obtain rfl : k = n := by omega
      go_wp2
      go_ret
      exact ⟨ret_bool (by rw [E.out]), Hb.out⟩

/-! ### rows of texts -/
def txCells (l : List ByteArray) : List Value := l.map Value.string
theorem txCells_len (l : List ByteArray) : (txCells l).length = l.length := by simp [txCells]
theorem txCells_app (a b : List ByteArray) : txCells (a ++ b) = txCells a ++ txCells b := by simp [txCells]
theorem txCells_one (l : List ByteArray) : ∀ u ∈ txCells l, u.oneCell' = true := by
  intro u hu
  simp only [txCells, List.mem_map] at hu
  obtain ⟨_, _, rfl⟩ := hu
  rfl
theorem txCells_drop (l : List ByteArray) (k : Nat) : (txCells l).drop k = txCells (l.drop k) := by simp [txCells]
theorem tx_elem : Elem Try.prog 9 16 (.string ⟨#[]⟩) := ⟨by kernel_rfl, rfl⟩
def HasTx (w : World) (B : Nat) (A : Option Addr) (n : Nat) (l : List ByteArray) : Prop := Has w B A n (txCells l)
theorem HasTx.len {w : World} {B n : Nat} {A : Option Addr} {l : List ByteArray} (h : HasTx w B A n l) : l.length = n := by have := h.1; rwa [txCells_len] at this
theorem HasTx.at_ {w : World} {B n : Nat} {A : Option Addr} {l : List ByteArray} (h : HasTx w B A n l) {i : Nat} (hi : i < n) : ∃ a v, A = some a ∧ a.block < B ∧ l[i]? = some v ∧ w.cell? (a.add i) = some (.string v) := by
  have hl := h.len
  obtain ⟨a, rfl, hb, hc⟩ := Has.all h (by omega)
  refine ⟨a, l[i], rfl, hb, List.getElem?_eq_getElem (by omega), hc _ _ ?_⟩
  simp [txCells, List.getElem?_eq_getElem (show i < l.length by omega)]
def OwnTx (w : World) (B : Nat) (v : Value) (l : List ByteArray) : Prop := w.ownsRow B 9 1 v l.length (txCells l)
theorem OwnTx.slice {w : World} {B : Nat} {v : Value} {l : List ByteArray} (h : OwnTx w B v l) : ∃ A c, v = .slice A l.length c ∧ l.length ≤ c ∧ c ≤ maxLen ∧ HasTx w w.heap.size A l.length l := own_slice h
theorem OwnTx.nil (w : World) (B : Nat) : OwnTx w B (.slice none 0 0) [] := World.ownsRow_nil _ _ _ _
theorem OwnTx.below {w w' : World} {B : Nat} {v : Value} {l : List ByteArray} (h : OwnTx w B v l) (hb : Below w.heap.size w w') : OwnTx w' B v l := own_belowN h hb
/-- What is handed back is a row of the call's own, from block B on, that holds the texts l; below B nothing has turned. -/
def GivesT (B : Nat) (l : List ByteArray) (w : World) (e : Ending) (w' : World) : Prop := ∃ v', e = .returned v' ∧ OwnTx w' B v' l ∧ Below B w w'

theorem put_split (s : ByteArray) : ∀ (l : List ByteArray) (k : Nat), k ≤ l.length → (∀ y ∈ l.take k, y.data.toList < s.data.toList) → (∀ y, l[k]? = some y → ¬ y.data.toList < s.data.toList) →
    putT s l = l.take k ++ s :: (if l[k]? = some s then l.drop (k + 1) else l.drop k)
  | [], 0, _, _, _ => by simp [putT]
  | y :: l, 0, _, _, h => by
    have h1 := h y rfl
    unfold putT
    rw [if_neg h1]
    by_cases e : y = s
    · rw [if_pos e]; subst e; simp
    · rw [if_neg e]; simp [e]
  | y :: l, k + 1, hk, h1, h2 => by
    unfold putT
    rw [if_pos (h1 y (by simp)), put_split s l k (by simpa using hk) (fun x hx => h1 x (by simp [hx])) (fun x hx => h2 x (by simpa using hx))]
    simp
  | [], k + 1, hk, _, _ => by simp at hk

theorem below_cell {B : Nat} {w w' : World} (h : Below B w w') {p : Addr} {u : Value} (hp : p.block < B) (hc : w.cell? p = some u) : w'.cell? p = some u := (h.cell hp).trans hc
theorem put_own {w : World} {B m k : Nat} {v : Value} {L R P : List ByteArray} {s : ByteArray} (e : P = L ++ s :: R) (h : w.ownsRow B 9 1 v (k + 1 + m) (txCells L ++ [.string s] ++ txCells R)) : OwnTx w B v P := by
  subst e
  have hl := h.1
  have e2 : txCells L ++ [.string s] ++ txCells R = txCells (L ++ s :: R) := by rw [txCells_app]; simp [txCells]
  rw [e2] at h hl
  unfold OwnTx
  have e3 : (L ++ s :: R).length = k + 1 + m := by rw [txCells_len] at hl; omega
  rw [e3]
  exact h
set_option maxRecDepth 100000 in
set_option maxHeartbeats 3200000 in
theorem putT_any (A : Option Addr) (n c C : Nat) (l : List ByteArray) (s : ByteArray) (w : World) (h : HasTx w C A n l) (hC : C ≤ w.heap.size) (hn : n ≤ 1000000) (hnc : n ≤ c) :
    Calls Try.prog 69 #[.slice A n c, .string s] w (GivesT w.heap.size (putT s l) w) := by
  have H := Lib.hid h
  have Hl := Lib.hid h.len
  have HC := Lib.hid hC
  clear h hC
  go_enter Try.func69, Try.ntmps69
  go_wp2
  go_loopw [5, 6] (fun o iv wr => ∃ k : Nat, k ≤ n ∧ iv = .int .i64 (k : Int) ∧ OwnTx wr w.heap.size o (l.take k) ∧ Hid (∀ y ∈ l.take k, y.data.toList < s.data.toList) ∧ Below w.heap.size w wr) (fun _ iv _ => n - (intOf iv).toNat)
  case atStart => exact ⟨0, by omega, rfl, OwnTx.nil _ _, Lib.hid (by simp), Below.refl _ _⟩
  case round =>
    obtain ⟨k, hk, rfl, ho, Hp, hb⟩ := hrel
    have Hb := Lib.hid hb
    have hsz := hb.size
    have Hlk : Hid ((l.take k).length = k) := Lib.hid (by rw [List.length_take]; have := Hl.out; omega)
    obtain ⟨Ao, co, rfl, -, -, -⟩ := ho.slice
    unfold OwnTx at ho
    rw [Hlk.out] at ho ⊢
    have Ho := Lib.hid ho
    clear hb ho
    by_cases hgo : ∃ y, l[k]? = some y ∧ y.data.toList < s.data.toList
    · obtain ⟨y, hy, hys⟩ := hgo
      have hkn : k < n := by have := (List.getElem?_eq_some_iff.1 hy).1; have := Hl.out; omega
      obtain ⟨a, y', rfl, hab, hy', c0⟩ := (show HasTx wr C A n l from Has.belowOf H.out Hb.out HC.out).at_ hkn
      obtain rfl : y = y' := by rw [hy] at hy'; injection hy'
      have hl1 := text_less y s
      rw [decide_eq_true hys] at hl1
      have Hts : Hid (l.take (k + 1) = l.take k ++ [y]) := Lib.hid (by rw [List.take_add_one, hy]; rfl)
      have Hp1 : Hid (∀ y ∈ l.take (k + 1), y.data.toList < s.data.toList) := Lib.hid (by
        rw [Hts.out]
        intro x hx
        rcases List.mem_append.1 hx with hx | hx
        · exact Hp.out x hx
        · simp at hx; subst hx; exact hys)
      have hk0 : (0 : Int) ≤ (k : Int) := by omega
      have hk1 : (k : Int) < (n : Int) := by omega
      clear hy hy' hys
      go_wp2_with (at_builtin; refine wpList_append_has rfl (.tmp 19) (.tmp 24) _ rfl 9 tx_elem Try.underlying61 rfl (own_belowN Ho.out (below_box _)) rfl (Has.lit wr #[.string y] 9) (one_string _) (by simp only [maxLen]; omega) (by omega) (by simp only [World.size_alloc]; omega) ?_; intro v1 w1 o1 g1 z1; have Ho1 : Hid (OwnTx w1 w.heap.size v1 (l.take (k + 1))) := Lib.hid (by unfold OwnTx; rw [Hts.out, List.length_append, txCells_app, Hlk.out]; exact o1); have Hb1 : Hid (Below w.heap.size w w1) := Lib.hid ((Hb.out.alloc hsz _).grown g1 (by simp only [World.size_alloc]; omega) fun q hq => (Ho.out.lt q hq).1); clear o1 g1 z1)
      go_roundw
      case rel => exact ⟨k + 1, by omega, by go_num, Ho1.out, Hp1, Hb1.out⟩
      case measure => simp [intOf]; omega
    · have Hsp := Lib.hid (put_split s l k (by have := Hl.out; omega) Hp.out fun y hy h => hgo ⟨y, hy, h⟩)
      by_cases hkn : k < n
      · obtain ⟨a, y, rfl, hab, hy, c0⟩ := (show HasTx wr C A n l from Has.belowOf H.out Hb.out HC.out).at_ hkn
        have hl1 := text_less y s
        rw [decide_eq_false (fun h => hgo ⟨y, hy, h⟩)] at hl1
        have hk0 : (0 : Int) ≤ (k : Int) := by omega
        have hk1 : (k : Int) < (n : Int) := by omega
        have HC0 : Hid (a.block < w.heap.size ∧ w.cell? (a.add k) = some (.string y)) := Lib.hid (by
          obtain ⟨a', y', e, hab', hy', c0'⟩ := (show HasTx w C (some a) n l from H.out).at_ hkn
          injection e with e; subst e
          rw [hy] at hy'; injection hy' with hy'; subst hy'
          have := HC.out
          exact ⟨by omega, c0'⟩)
        clear hgo
        by_cases hys : y = s
        · subst hys
          rw [hy, if_pos rfl] at Hsp
          clear hy
          by_cases hck : c = k + 1
          · have Hd : Hid (Has w C (some a) (n - (k + 1)) (txCells (l.drop (k + 1)))) := Lib.hid (by
              have := Has.cut H.out (k := k + 1) (cap := c) (by omega) hnc
              rwa [if_pos hck, txCells_drop] at this)
            go_wp2_with (first
            | (at_builtin; refine wpList_append_has rfl (.tmp 28) (.tmp 30) _ rfl 9 tx_elem Try.underlying61 rfl (own_belowN Ho.out (below_box _)) rfl (Has.lit wr #[.string y] 9) (one_string _) (by simp only [maxLen]; omega) (by omega) (by simp only [World.size_alloc]; omega) ?_; intro v1 w1 o1 g1 z1; obtain ⟨A1, c1, rfl, -, -, -⟩ := own_slice o1; have Ho1 := Lib.hid o1; have Hb1 : Hid (Below w.heap.size w w1) := Lib.hid ((Hb.out.alloc hsz _).grown g1 (by simp only [World.size_alloc]; omega) fun q hq => (Ho.out.lt q hq).1); have hsz1 := Hb1.out.size; have Hd1 : Hid (Has w1 C (some a) (n - (k + 1)) (txCells (l.drop (k + 1)))) := Lib.hid (Hd.out.belowOf Hb1.out HC.out); have hc1 : w1.cell? (a.add k) = some (.string y) := below_cell Hb1.out (by rw [addr_block]; exact HC0.out.1) HC0.out.2; clear o1 g1 z1)
            | (at_builtin; refine wpList_append_has rfl (.tmp 46) (.tmp 49) _ rfl 9 tx_elem Try.underlying61 rfl Ho1.out rfl Hd1.out (txCells_one _) (by simp only [maxLen]; omega) (by omega) hsz1 ?_; intro v2 w2 o2 g2 z2; have HE : Hid (GivesT w.heap.size (putT y l) w (.returned v2) w2) := Lib.hid ⟨_, rfl, put_own Hsp.out o2, Hb1.out.grown g2 hsz1 fun q hq => (Ho1.out.lt q hq).1⟩; clear o2 g2 z2))
            go_ret
            exact HE.out
          · have Hd : Hid (Has w C (some (a.add (k + 1))) (n - (k + 1)) (txCells (l.drop (k + 1)))) := Lib.hid (by
              have := Has.cut H.out (k := k + 1) (cap := c) (by omega) hnc
              rwa [if_neg hck, txCells_drop] at this)
            go_wp2_with (first
            | (at_builtin; refine wpList_append_has rfl (.tmp 28) (.tmp 30) _ rfl 9 tx_elem Try.underlying61 rfl (own_belowN Ho.out (below_box _)) rfl (Has.lit wr #[.string y] 9) (one_string _) (by simp only [maxLen]; omega) (by omega) (by simp only [World.size_alloc]; omega) ?_; intro v1 w1 o1 g1 z1; obtain ⟨A1, c1, rfl, -, -, -⟩ := own_slice o1; have Ho1 := Lib.hid o1; have Hb1 : Hid (Below w.heap.size w w1) := Lib.hid ((Hb.out.alloc hsz _).grown g1 (by simp only [World.size_alloc]; omega) fun q hq => (Ho.out.lt q hq).1); have hsz1 := Hb1.out.size; have Hd1 : Hid (Has w1 C (some (a.add (k + 1))) (n - (k + 1)) (txCells (l.drop (k + 1)))) := Lib.hid (Hd.out.belowOf Hb1.out HC.out); have hc1 : w1.cell? (a.add k) = some (.string y) := below_cell Hb1.out (by rw [addr_block]; exact HC0.out.1) HC0.out.2; clear o1 g1 z1)
            | (at_builtin; refine wpList_append_has rfl (.tmp 46) (.tmp 49) _ rfl 9 tx_elem Try.underlying61 rfl Ho1.out rfl Hd1.out (txCells_one _) (by simp only [maxLen]; omega) (by omega) hsz1 ?_; intro v2 w2 o2 g2 z2; have HE : Hid (GivesT w.heap.size (putT y l) w (.returned v2) w2) := Lib.hid ⟨_, rfl, put_own Hsp.out o2, Hb1.out.grown g2 hsz1 fun q hq => (Ho1.out.lt q hq).1⟩; clear o2 g2 z2))
            go_ret
            exact HE.out
        · have hl2 := text_eq y s
          rw [decide_eq_false hys] at hl2
          rw [hy, if_neg (by simp [hys])] at Hsp
          have Hd : Hid (Has w C (some (a.add k)) (n - k) (txCells (l.drop k))) := Lib.hid (by
            rw [← txCells_drop]
            exact Has.drop H.out (k := k) hkn)
          clear hy hys
          go_wp2_with (first
          | (at_builtin; refine wpList_append_has rfl (.tmp 28) (.tmp 30) _ rfl 9 tx_elem Try.underlying61 rfl (own_belowN Ho.out (below_box _)) rfl (Has.lit wr #[.string s] 9) (one_string _) (by simp only [maxLen]; omega) (by omega) (by simp only [World.size_alloc]; omega) ?_; intro v1 w1 o1 g1 z1; obtain ⟨A1, c1, rfl, -, -, -⟩ := own_slice o1; have Ho1 := Lib.hid o1; have Hb1 : Hid (Below w.heap.size w w1) := Lib.hid ((Hb.out.alloc hsz _).grown g1 (by simp only [World.size_alloc]; omega) fun q hq => (Ho.out.lt q hq).1); have hsz1 := Hb1.out.size; have Hd1 : Hid (Has w1 C (some (a.add k)) (n - k) (txCells (l.drop k))) := Lib.hid (Hd.out.belowOf Hb1.out HC.out); have hc1 : w1.cell? (a.add k) = some (.string y) := below_cell Hb1.out (by rw [addr_block]; exact HC0.out.1) HC0.out.2; clear o1 g1 z1)
          | (at_builtin; refine wpList_append_has rfl (.tmp 46) (.tmp 49) _ rfl 9 tx_elem Try.underlying61 rfl Ho1.out rfl Hd1.out (txCells_one _) (by simp only [maxLen]; omega) (by omega) hsz1 ?_; intro v2 w2 o2 g2 z2; have HE : Hid (GivesT w.heap.size (putT s l) w (.returned v2) w2) := Lib.hid ⟨_, rfl, put_own Hsp.out o2, Hb1.out.grown g2 hsz1 fun q hq => (Ho1.out.lt q hq).1⟩; clear o2 g2 z2))
          go_ret
          exact HE.out
      · obtain rfl : k = n := by omega
        rw [List.getElem?_eq_none (by have := Hl.out; omega), if_neg (by simp)] at Hsp
        obtain ⟨A', hA'⟩ : ∃ A', (if c = k then A else Option.map (fun x => x.add k) A) = A' := ⟨_, rfl⟩
        have Hd : Hid (Has w C A' (k - k) (txCells (l.drop k))) := Lib.hid (by
          rw [← hA', ← txCells_drop]
          exact Has.cut H.out (k := k) (cap := c) (by omega) hnc)
        rw [Nat.sub_self] at Hd
        clear hgo
        go_wp2_with (first
          | (at_builtin; refine wpList_append_has rfl (.tmp 28) (.tmp 30) _ rfl 9 tx_elem Try.underlying61 rfl (own_belowN Ho.out (below_box _)) rfl (Has.lit wr #[.string s] 9) (one_string _) (by simp only [maxLen]; omega) (by omega) (by simp only [World.size_alloc]; omega) ?_; intro v1 w1 o1 g1 z1; obtain ⟨A1, c1, rfl, -, -, -⟩ := own_slice o1; have Ho1 := Lib.hid o1; have Hb1 : Hid (Below w.heap.size w w1) := Lib.hid ((Hb.out.alloc hsz _).grown g1 (by simp only [World.size_alloc]; omega) fun q hq => (Ho.out.lt q hq).1); have hsz1 := Hb1.out.size; have Hd1 : Hid (Has w1 C A' 0 (txCells (l.drop k))) := Lib.hid (Hd.out.belowOf Hb1.out HC.out); clear o1 g1 z1)
          | (at_builtin; refine wpList_append_has rfl (.tmp 46) (.tmp 49) _ rfl 9 tx_elem Try.underlying61 rfl Ho1.out rfl Hd1.out (txCells_one _) (by simp only [maxLen]; omega) (by omega) hsz1 ?_; intro v2 w2 o2 g2 z2; have HE : Hid (GivesT w.heap.size (putT s l) w (.returned v2) w2) := Lib.hid ⟨_, rfl, put_own Hsp.out o2, Hb1.out.grown g2 hsz1 fun q hq => (Ho1.out.lt q hq).1⟩; clear o2 g2 z2))
        go_ret
        exact HE.out

end Go.Proofs.Ytijcaefpainhcaa
