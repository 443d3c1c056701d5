/- Where a key's change stands in a run, or would stand (engine's place, by slices.BinarySearchFunc with a closure). Condition: the run is in memory. -/
import Derived.Test.YteioopcacpihpaaWalkC
import Derived.Lib.AppendStr
import Derived.WalkLawsBesides
import Derived.Test.YteioopcacpihpaaRunB
import Derived.Test.YteioopcacpihpaaSpecPk
import Derived.Test.YteioopcacpihpaaStep
import Derived.Test.YteioopcacpihpaaHpA
import Derived.Test.YteioopcacpihpaaHpG
import Derived.Lib.AppendZeros
import Derived.Test.YteioopcacpihpaaSpecMerge
import Derived.Test.YteioopcacpihpaaRunA
namespace Go.Proofs.Yteioopcacpihpaa
open Go.RowKit
open Go.Lib (strCells)

theorem size_bytes (s : ByteArray) : s.data.toList.length = s.size := Array.length_toList
theorem textForm_len (s : List UInt8) : (textForm s).length = (numForm s.length).length + s.length := by simp [textForm]

set_option maxHeartbeats 400000 in
theorem addText_any (B m : Nat) (v : Value) (xs : List Value) (s : ByteArray) (w : World) (hown : w.ownsRow B 5 1 v m xs) (hB : B ≤ w.heap.size) (hs : s.size ≤ 1000000) (hm : m ≤ 35184372088832) :
    Calls Try.prog 96 #[v, .string s] w (Gives B (m + (textForm s.data.toList).length) (xs ++ byteCells (textForm s.data.toList)) w) := by
  obtain ⟨i0, hi, hz, hs1, hb1⟩ := u8_elem.get
  have hlen := numForm_len9 (k := s.size) (by omega)
  go_enter Try.func96, Try.ntmps96
  go_wp2_with fail
  refine (addNum_any B m s.size v xs w hown hB (by omega) (by omega)).mono ?_
  rintro e w1 ⟨v1, rfl, hown1, hbel1⟩
  have hB1 : B ≤ w1.heap.size := Nat.le_trans hB hbel1.size
  go_wp2_with (at_builtin; refine Lib.wpList_append_own_string w1 rfl (.tmp 8) (.tmp 9) _ _ rfl B 5 i0 Try.underlying63 Try.underlying9 hi hz hs1 hb1 v1 _ _ rfl hown1 s rfl (by simp only [maxLen]; omega) (by omega) hB1 ?_; intro v2 w2 hown2 hg2 _)
  have hb2 : Below B w w2 := below_own hbel1 hown1 hg2 hB1
  go_ret
  refine ret_own rfl hown2 ?_ ?_ hb2
  · rw [textForm_len, size_bytes]; omega
  · rw [textForm, byteCells_app, size_bytes, List.append_assoc]; rfl

/-- Text -/
theorem text_any (s : ByteArray) (w : World) (hs : s.size ≤ 1000000) :
    Calls Try.prog 72 #[.string s] w (Gives w.heap.size (textForm s.data.toList).length (byteCells (textForm s.data.toList)) w) := by
  go_enter Try.func72, Try.ntmps72
  go_wp2_with fail
  refine (addText_any w.heap.size 0 (.slice none 0 0) [] s w (World.ownsRow_nil _ _ _ _) (Nat.le_refl _) hs (by omega)).mono ?_
  rintro e w' ⟨v', rfl, hown, hb⟩
  go_wp2
  go_ret
  exact ret_own rfl hown (by omega) rfl hb

end Go.Proofs.Yteioopcacpihpaa

namespace Go.Proofs.Yteioopcacpihpaa
open Go.RowKit
open Go.Lib (strCells)

/-! ### Join -/
def Parts (w : World) (B : Nat) (A : Option Addr) (n : Nat) (vs : List Value) (ps : List (List UInt8)) : Prop :=
  Has w B A n vs ∧ vs.length = ps.length ∧ ∀ k, k < ps.length → ∃ A' n' c', vs[k]? = some (.slice A' n' c') ∧ HasBytes w B A' n' (ps.getD k [])

def flat : List (List UInt8) → List UInt8
  | [] => []
  | p :: r => p ++ flat r
theorem flat_app (a b : List (List UInt8)) : flat (a ++ b) = flat a ++ flat b := by
  induction a with
  | nil => rfl
  | cons x a ih => simp [flat, ih]
theorem flat_succ {ps : List (List UInt8)} {k : Nat} (h : k < ps.length) : flat (ps.take (k + 1)) = flat (ps.take k) ++ ps.getD k [] := by
  rw [List.take_succ_eq_append_getElem h, flat_app]
  simp [flat, h]
theorem flat_le (ps : List (List UInt8)) (k : Nat) : (flat (ps.take k)).length ≤ (flat ps).length := by
  have h := List.take_append_drop k ps
  have : flat ps = flat (ps.take k) ++ flat (ps.drop k) := by rw [← flat_app, h]
  rw [this, List.length_append]
  omega

set_option maxRecDepth 100000 in
set_option maxHeartbeats 800000 in
theorem join_any (A : Option Addr) (n c C : Nat) (vs : List Value) (ps : List (List UInt8)) (w : World) (h : Parts w C A n vs ps) (hC : C ≤ w.heap.size) (hs : (flat ps).length ≤ 100000000) (hn : n ≤ 1000000) :
    Calls Try.prog 73 #[.slice A n c] w (Gives w.heap.size (flat ps).length (byteCells (flat ps)) w) := by
  obtain ⟨hv, hvl, hp⟩ := h
  have Hl : Hid (ps.length = n) := Lib.hid (by rw [← hvl]; exact hv.1)
  have Hp := Lib.hid hp
  clear hvl hp
  go_enter Try.func73, Try.ntmps73
  go_wp2
  go_loopw [3, 5, 8] (fun v _ i wr => ∃ k : Nat, k ≤ n ∧ i = .int .i64 (k : Int) ∧ wr.ownsRow w.heap.size 5 1 v (flat (ps.take k)).length (byteCells (flat (ps.take k))) ∧ Below w.heap.size w wr) (fun _ _ i _ => n - (intOf i).toNat)
  case atStart => exact ⟨0, by omega, rfl, World.ownsRow_nil _ _ _ _, Below.refl _ _⟩
  case round =>
    obtain ⟨k, hk, rfl, hown', hb⟩ := hrel
    have hBr : w.heap.size ≤ wr.heap.size := hb.size
    have hle := flat_le ps k
    by_cases hlt : k < n
    · obtain ⟨a, rfl, hab, hc0⟩ := hv.cell hlt
      obtain ⟨A', n', c', hvk, hpk⟩ := Hp.out k (by have := Hl.out; omega)
      have hc : wr.cell? (a.add k) = some (.slice A' n' c') := by
        rw [hb.cell (by rw [addr_block]; omega), hc0]
        simp [hvk]
      have hle2 := flat_le ps (k + 1)
      have hs0 := flat_succ (ps := ps) (k := k) (by have := Hl.out; omega)
      have hle3 : (flat (ps.take k)).length + n' ≤ 100000000 := by
        rw [hs0, List.length_append, hpk.len] at hle2
        omega
      have Hpk := Lib.hid (hpk.belowOf hb hC)
      have Hlen := Lib.hid hpk.len
      have Hs := Lib.hid hs0
      have Hown' := Lib.hid hown'
      have Hb := Lib.hid hb
      clear hc0 hvk hpk hs0 hle2 hown' hb
      go_wp2_with (at_builtin; refine wpList_append_has rfl (.tmp 12) (.tmp 13) _ rfl 5 u8_elem Try.underlying63 rfl Hown'.out rfl Hpk.out (byteCells_one _) (by simp only [maxLen]; omega) (by omega) hBr ?_; intro v3 w3 hown3 hg3 _)
      have Hb3 := Lib.hid (below_own Hb.out Hown'.out hg3 hBr)
      go_roundw
      case rel =>
        refine ⟨k + 1, by omega, by go_num, ?_, Hb3.out⟩
        rw [Hs.out, byteCells_app, List.length_append, Hlen.out]
        exact hown3
      case measure => simp [intOf]; omega
    · go_wp2
      go_ret
      have e1 : ps.take k = ps := List.take_of_length_le (by have := Hl.out; omega)
      rw [e1] at hown'
      exact ret_own rfl hown' rfl rfl hb

end Go.Proofs.Yteioopcacpihpaa

namespace Go.Proofs.Yteioopcacpihpaa
open Go.RowKit
open Go.Lib (strCells compareBytes)

/-- slice values, each with the bytes that it has -/
abbrev Pvs := List (Value × List UInt8)
def pvCells (rs : Pvs) : List Value := rs.map (·.1)
/-- a row of rows of bytes that the call owns, from block B on: the rows too -/
structure OwnPv (w : World) (B : Nat) (v : Value) (rs : Pvs) : Prop where
  own : w.ownsRow B 63 1 v rs.length (pvCells rs)
  rows : ∀ r ∈ rs, w.ownsRow B 5 1 r.1 r.2.length (byteCells r.2)
theorem pv_elem : ElemN Try.prog 63 1 24 (.slice none 0 0) := ⟨by kernel_rfl, rfl⟩
theorem own_typeP {w : World} {B m size : Nat} {e : TypeId} {v : Value} {xs : List Value} (h : w.ownsRow B e size v m xs) {g : Nat} (hg : v.ownBlock = some g) : ∃ cur : Array Value, w.heap[g]? = some (Obj.cells cur e (0, 0)) := by
  rcases h.2 with ⟨rfl, _⟩ | ⟨g', cap, cur, rfl, hB, hh, rest⟩
  · cases hg
  · cases hg; exact ⟨cur, hh⟩
theorem own_keepP {w w' : World} {B m size : Nat} {e : TypeId} {v : Value} {xs : List Value} (h : w.ownsRow B e size v m xs) (hk : ∀ g, v.ownBlock = some g → w'.heap[g]? = w.heap[g]?) : w'.ownsRow B e size v m xs := by
  refine ⟨h.1, ?_⟩
  rcases h.2 with hn | ⟨g, cap, cur, rfl, hB, hg, rest⟩
  · exact .inl hn
  · exact .inr ⟨g, cap, cur, rfl, hB, (hk g rfl).trans hg, rest⟩
/-- a row stays where a row of another element type has grown -/
theorem own_otherP {w w' : World} {B B' m m' size size' : Nat} {e e' : TypeId} {v v' : Value} {xs xs' : List Value} (hg : w.grownBy w' v.ownBlock) (h : w.ownsRow B e size v m xs) (h' : w.ownsRow B' e' size' v' m' xs') (hne : e ≠ e') : w'.ownsRow B' e' size' v' m' xs' :=
  own_keepP h' fun g hgx => by
    obtain ⟨cur, hc⟩ := own_typeP h' hgx
    refine hg.block g (Array.getElem?_eq_some_iff.1 hc).1 fun e0 => ?_
    obtain ⟨cur', hc'⟩ := own_typeP h e0.symm
    rw [hc] at hc'
    injection hc' with hc'
    injection hc' with _ ht _
    exact hne ht.symm
theorem OwnPv.below {w w' : World} {B : Nat} {v : Value} {rs : Pvs} (h : OwnPv w B v rs) (hb : Below w.heap.size w w') : OwnPv w' B v rs :=
  ⟨own_belowN h.own hb, fun r hr => own_belowN (h.rows r hr) hb⟩
theorem grown_below {w w' : World} (h : Below w.heap.size w w') (r : Option Nat) : w.grownBy w' r := ⟨h.os, h.tape, h.output, h.size, fun k hk _ => h.block k hk⟩

def partsL (l : List Chg) : List (List UInt8) := numForm l.length :: l.flatMap fun c => [textForm c.k.data.toList, numForm (goneN c.g), textForm c.v.data.toList]
theorem flat_parts (l : List Chg) : flat (partsL l) = packL l := by
  unfold partsL packL
  rw [flat]
  congr 1
  induction l with
  | nil => rfl
  | cons c l ih => simp [flat, bodyL, chgForm, ih]
end Go.Proofs.Yteioopcacpihpaa

namespace Go.Proofs.Yteioopcacpihpaa
open Go.RowKit
open Go.Lib (strCells compareBytes)

theorem textForm_le {s : List UInt8} (h : s.length ≤ 4000) : (textForm s).length ≤ 4009 := by
  have := numForm_len9 (k := s.length) (by omega)
  unfold textForm
  rw [List.length_append]
  omega
theorem bodyL_le : ∀ {l : List Chg}, (∀ x ∈ l, x.k.size ≤ 4000 ∧ x.v.size ≤ 4000) → (bodyL l).length ≤ 9000 * l.length
  | [], _ => by simp [bodyL]
  | c :: l, h => by
    have h1 := bodyL_le fun x hx => h x (List.mem_cons_of_mem _ hx)
    have h2 := h c (by simp)
    have h3 := textForm_le (s := c.k.data.toList) (by rw [← Lib.size_eq]; exact h2.1)
    have h4 := textForm_le (s := c.v.data.toList) (by rw [← Lib.size_eq]; exact h2.2)
    have h5 : (numForm (goneN c.g)).length = 1 := by rw [goneN_one]; rfl
    simp only [bodyL, chgForm, List.length_append, List.length_cons] at h1 ⊢
    omega
theorem partsL_len (l : List Chg) : (partsL l).length = 1 + 3 * l.length := by
  unfold partsL
  rw [List.length_cons]
  have : (l.flatMap fun c => [textForm c.k.data.toList, numForm (goneN c.g), textForm c.v.data.toList]).length = 3 * l.length := by
    induction l with
    | nil => rfl
    | cons c l ih => rw [List.flatMap_cons, List.length_append, ih]; simp; omega
  omega
/-- the parts of n changes, of which so many have been laid -/
def partsN (n : Nat) (l : List Chg) : List (List UInt8) := numForm n :: l.flatMap fun c => [textForm c.k.data.toList, numForm (goneN c.g), textForm c.v.data.toList]
theorem partsN_succ {n : Nat} {l : List Chg} {k : Nat} {c : Chg} (h : l[k]? = some c) : partsN n (l.take (k + 1)) = partsN n (l.take k) ++ [textForm c.k.data.toList, numForm (goneN c.g), textForm c.v.data.toList] := by
  rw [take_snocC h]
  simp [partsN]
theorem partsN_len (n : Nat) (l : List Chg) : (partsN n l).length = 1 + 3 * l.length := by have := partsL_len l; simpa [partsN, partsL] using this

theorem OwnPv.snoc {w w' : World} {B : Nat} {v v' : Value} {rs qs : Pvs} (h : OwnPv w B v rs) (hq : ∀ q ∈ qs, w.ownsRow B 5 1 q.1 q.2.length (byteCells q.2)) (h' : w'.ownsRow B 63 1 v' (rs.length + qs.length) (pvCells rs ++ pvCells qs)) (hg : w.grownBy w' v.ownBlock) : OwnPv w' B v' (rs ++ qs) := by
  refine ⟨by rw [List.length_append]; unfold pvCells at h' ⊢; rw [List.map_append]; exact h', fun r hr => ?_⟩
  rcases List.mem_append.1 hr with hr | hr
  · exact own_otherP hg h.own (h.rows r hr) (by decide)
  · exact own_otherP hg h.own (hq r hr) (by decide)
/-- What Pack answers: the bytes of a run, or that it isn't one. -/
def PackPost (B : Nat) (l : List Chg) (w : World) (e : Ending) (w' : World) : Prop :=
  Below B w w' ∧ ((Run l ∧ ∃ v, e = .returned (.tuple #[v, .int .i64 0]) ∧ w'.ownsRow B 5 1 v (packL l).length (byteCells (packL l))) ∨ (¬ Run l ∧ e = .returned (.tuple #[.slice none 0 0, .int .i64 3])))
set_option maxRecDepth 100000 in
set_option maxHeartbeats 3200000 in
theorem pack_any (A : Option Addr) (n ca C : Nat) (l : List Chg) (w : World) (h : HasChs w C A n l) (hC : C ≤ w.heap.size) (hn : n ≤ 60) (hs : ∀ x ∈ l, x.k.size ≤ 4000 ∧ x.v.size ≤ 4000) :
    Calls Try.prog 44 #[.slice A n ca] w (PackPost w.heap.size l w) := by
  have Hw := Lib.hid (wrong_any A n ca C l w h (by unfold maxLen; omega) hC)
  have H := Lib.hid h
  have HC := Lib.hid hC
  have Hs := Lib.hid hs
  have Hl := Lib.hid h.1
  clear h hC hs
  by_cases hr : Run l
  · have Hr := Lib.hid hr
    rw [runB_true hr] at Hw
    clear hr
    go_enter Try.func44, Try.ntmps44
    go_wp2_with fail
    refine Hw.out.mono ?_
    rintro e w1 ⟨rfl, hb1⟩
    have Hb1 := Lib.hid hb1
    clear hb1
    go_wp2_with fail
    refine (num_any (n : Int) w1 (by omega)).mono ?_
    rintro e w2 ⟨v2, rfl, ho2, hb2⟩
    rw [if_neg (by omega), Int.toNat_natCast] at ho2
    obtain ⟨A2, c2, rfl, -, -, -⟩ := own_slice ho2
    have hsz2 : w.heap.size ≤ w2.heap.size := Nat.le_trans Hb1.out.size hb2.size
    have HP : Hid (OwnPv (w2.alloc (.cells #[.slice A2 (numForm n).length c2] 63)) w.heap.size (.slice (some ⟨w2.heap.size, 0, none⟩) 1 1) [(.slice A2 (numForm n).length c2, numForm n)]) := Lib.hid
      ⟨World.ownsRow_lit (base := w.heap.size) (e := 63) (size := 1) w2 #[.slice A2 (numForm n).length c2] 1 hsz2 (by simp [maxLen]) rfl, fun r hr => by
        simp at hr
        subst hr
        exact own_belowN (own_baseN ho2 Hb1.out.size) (below_box _)⟩
    have Hb2 : Hid (Below w.heap.size w (w2.alloc (.cells #[.slice A2 (numForm n).length c2] 63))) := Lib.hid (((Hb1.out.trans (hb2.mono Hb1.out.size))).alloc hsz2 _)
    clear ho2 hb2
    go_wp2
    go_loopw [4, 6, 7, 16] (fun o _ _ i wr => ∃ (k : Nat) (rs : Pvs), k ≤ n ∧ i = .int .i64 (k : Int) ∧ OwnPv wr w.heap.size o rs ∧ Hid (rs.map (·.2) = partsN n (l.take k)) ∧ Below w.heap.size w wr) (fun _ _ _ i _ => n - (intOf i).toNat)
    case atStart => exact ⟨0, _, by omega, rfl, HP.out, Lib.hid rfl, Hb2.out⟩
    case round =>
      clear HP Hb2
      obtain ⟨k, rs, hk, rfl, ho, Hrs, hb⟩ := hrel
      have Ho := Lib.hid ho
      have Hb := Lib.hid hb
      have hsz := hb.size
      clear hb
      by_cases hlt : k < n
      · obtain ⟨a, y, rfl, hab, hy, c0, c1, c3⟩ := (H.out.belowOf Hb.out HC.out).at_ hlt
        have Hy := Lib.hid (partsN_succ (n := n) hy)
        have hys := Hs.out y (List.mem_of_getElem? hy)
        have Hlr : Hid (rs.length = 1 + 3 * k) := Lib.hid (by
          have h1 := congrArg List.length Hrs.out
          rw [partsN_len, List.length_map, List.length_take] at h1
          have := Hl.out
          omega)
        obtain ⟨Ap, cp, rfl, -, -, -⟩ := own_slice ho.own
        obtain ⟨N, hN⟩ : ∃ N, rs.length = N := ⟨_, rfl⟩
        have hgo := ho.own
        rw [hN] at hgo Hlr Ho
        rw [hN]
        obtain ⟨yk, yv, yg⟩ := y
        simp only at c0 c1 c3
        have hg01 : yg = false ∨ yg = true := by cases yg <;> simp
        have Hown := Lib.hid hgo
        have hN60 : N ≤ 181 := by have := Hlr.out; omega
        have HN := Lib.hid hN
        clear hy ho hgo hN hN60
        rcases hg01 with rfl | rfl
        · have Hk : Hid (∀ wx, (wr.alloc (Obj.cells #[.string yk, .string yv, .bool false] 38)).grownBy wx (Value.slice Ap N cp).ownBlock → (wx.cell? ⟨wr.heap.size, 0, none⟩ = some (.string yk) ∧ wx.cell? ⟨wr.heap.size, 1, none⟩ = some (.string yv)) ∧ (wr.alloc (Obj.cells #[.string yk, .string yv, .bool false] 38)).grownBy wx (Value.slice Ap N cp).ownBlock) := Lib.hid fun wx hg => by
            have hbx := (Box.made wr 38 #[.string yk, .string yv, .bool false]).grown hg fun e => by
              have h1 := (Hown.out.lt _ e.symm).2
              exact absurd h1 (Nat.lt_irrefl _)
            exact ⟨⟨hbx.cell 0, hbx.cell 1⟩, hg⟩
          have HownW : Hid ((wr.alloc (Obj.cells #[.string yk, .string yv, .bool false] 38)).ownsRow w.heap.size 63 1 (.slice Ap N cp) N (pvCells rs)) := Lib.hid (own_belowN Hown.out (below_box _))
          have hky : yk.size ≤ 1000000 ∧ yv.size ≤ 1000000 := by have h1 := hys.1; have h2 := hys.2; simp only at h1 h2; omega
          have HszW : Hid (w.heap.size ≤ (wr.alloc (Obj.cells #[.string yk, .string yv, .bool false] 38)).heap.size) := Lib.hid (Nat.le_trans hsz (by simp))
          go_wp2
          go_region_held3 (fun wx => (wx.cell? ⟨wr.heap.size, 0, none⟩ = some (.string yk) ∧ wx.cell? ⟨wr.heap.size, 1, none⟩ = some (.string yv)) ∧ (wr.alloc (Obj.cells #[.string yk, .string yv, .bool false] 38)).grownBy wx (Value.slice Ap N cp).ownBlock)
            (first | exact Hk.out _ (grown_below (Below.refl _ _).drew _) | exact Hk.out _ (World.grownBy.trans (And.right (by assumption)) (grown_below b3 _)) | exact Hk.out _ (World.grownBy.trans (And.right (by assumption)) (grown_below b2 _)) | exact Hk.out _ (World.grownBy.trans (And.right (by assumption)) (grown_below b1 _)) | exact Hk.out _ (World.grownBy.trans (And.right (by assumption)) (World.grownBy_alloc _ _ _)) | exact Hk.out _ (World.grownBy.trans (And.right (by assumption)) gA))
            (first
              | (go_at_call_of 72 (Value.string yk); refine (text_any yk _ hky.1).mono ?_; rintro e w3 ⟨v3, rfl, o3, b1⟩; obtain ⟨A3, m3, rfl, -, -, -⟩ := own_slice o3)
              | (go_at_call 71; refine (num_any 0 _ (by omega)).mono ?_; rintro e w4 ⟨v4, rfl, o4, b2⟩; rw [if_neg (by omega), show (0 : Int).toNat = goneN false from rfl] at o4; obtain ⟨A4, m4, rfl, -, -, -⟩ := own_slice o4)
              | (go_at_call_of 72 (Value.string yv); refine (text_any yv _ hky.2).mono ?_; rintro e w5 ⟨v5, rfl, o5, b3⟩; obtain ⟨A5, m5, rfl, -, -, -⟩ := own_slice o5; have C3 := below_thn (below_thn (below_thn (Below.refl (wr.alloc (Obj.cells #[.string yk, .string yv, .bool false] 38)).heap.size (wr.alloc (Obj.cells #[.string yk, .string yv, .bool false] 38))).drew b1) b2) b3)
              | (refine step_append_hasN (by rfl) _ _ _ (by rfl) 63 pv_elem (by omega) Try.underlying105 (by rfl) (own_belowN HownW.out (C3.alloc C3.size (Obj.cells #[.slice A3 (textForm yk.data.toList).length m3, .slice A4 (numForm (goneN false)).length m4, .slice A5 (textForm yv.data.toList).length m5] 63))) (by rfl) (Has.lit w5 #[.slice A3 (textForm yk.data.toList).length m3, .slice A4 (numForm (goneN false)).length m4, .slice A5 (textForm yv.data.toList).length m5] 63) (fun u hu => by simp at hu; rcases hu with rfl | rfl | rfl <;> rfl) (by have := HN.out; have := Hlr.out; simp only [maxLen]; omega) (by have := Hlr.out; omega) (Nat.le_trans HszW.out (C3.alloc C3.size (Obj.cells #[.slice A3 (textForm yk.data.toList).length m3, .slice A4 (numForm (goneN false)).length m4, .slice A5 (textForm yv.data.toList).length m5] 63)).size) ?_; intro vA wA oA gA zA))
          all_goals
            have W5 := C3.alloc C3.size (Obj.cells #[.slice A3 (textForm yk.data.toList).length m3, .slice A4 (numForm (goneN false)).length m4, .slice A5 (textForm yv.data.toList).length m5] 63)
            have hP5 := (Ho.out.below (below_box (Obj.cells #[.string yk, .string yv, .bool false] 38))).below W5
            have q3 := own_belowN o3 ((below_thn (below_thn (Below.refl w3.heap.size w3) b2) b3).alloc (below_thn (below_thn (Below.refl w3.heap.size w3) b2) b3).size (Obj.cells #[.slice A3 (textForm yk.data.toList).length m3, .slice A4 (numForm (goneN false)).length m4, .slice A5 (textForm yv.data.toList).length m5] 63))
            have q4 := own_belowN o4 (b3.alloc b3.size (Obj.cells #[.slice A3 (textForm yk.data.toList).length m3, .slice A4 (numForm (goneN false)).length m4, .slice A5 (textForm yv.data.toList).length m5] 63))
            have q5 := own_belowN o5 (below_box (Obj.cells #[.slice A3 (textForm yk.data.toList).length m3, .slice A4 (numForm (goneN false)).length m4, .slice A5 (textForm yv.data.toList).length m5] 63))
            have z3 : w.heap.size ≤ w3.heap.size := Nat.le_trans HszW.out b1.size
            have z4 : w.heap.size ≤ w4.heap.size := Nat.le_trans z3 b2.size
            have HPA : Hid (OwnPv wA w.heap.size vA (rs ++ [(.slice A3 (textForm yk.data.toList).length m3, textForm yk.data.toList), (.slice A4 (numForm (goneN false)).length m4, numForm (goneN false)), (.slice A5 (textForm yv.data.toList).length m5, textForm yv.data.toList)])) := Lib.hid (by
              refine hP5.snoc (fun q hq => ?_) (by rw [HN.out]; exact oA) gA
              simp only [List.mem_cons, List.not_mem_nil, or_false] at hq
              rcases hq with rfl | rfl | rfl
              · exact own_baseN q3 HszW.out
              · exact own_baseN q4 z3
              · exact own_baseN q5 z4)
            have HbA : Hid (Below w.heap.size w wA) := Lib.hid ((Hb.out.trans (((below_box _).mono hsz).trans (W5.mono HszW.out))).trans ((Below.refl _ _).grown gA (Nat.le_trans HszW.out W5.size) fun g e => (Hown.out.lt g e).1))
            have HrsA : Hid ((rs ++ [((.slice A3 (textForm yk.data.toList).length m3 : Value), textForm yk.data.toList), (.slice A4 (numForm (goneN false)).length m4, numForm (goneN false)), (.slice A5 (textForm yv.data.toList).length m5, textForm yv.data.toList)]).map (·.2) = partsN n (l.take (k + 1))) := Lib.hid (by
              rw [Hy.out, List.map_append, Hrs.out]
              rfl)
            clear hP5 q3 q4 q5 z3 z4 oA gA zA o3 o4 o5 b1 b2 b3 C3 W5
            go_wp2
            go_roundw
            case rel => exact ⟨k + 1, _, by omega, by go_num, HPA.out, HrsA, HbA.out⟩
            case measure => simp [intOf]; omega
        · have Hk : Hid (∀ wx, (wr.alloc (Obj.cells #[.string yk, .string yv, .bool true] 38)).grownBy wx (Value.slice Ap N cp).ownBlock → (wx.cell? ⟨wr.heap.size, 0, none⟩ = some (.string yk) ∧ wx.cell? ⟨wr.heap.size, 1, none⟩ = some (.string yv)) ∧ (wr.alloc (Obj.cells #[.string yk, .string yv, .bool true] 38)).grownBy wx (Value.slice Ap N cp).ownBlock) := Lib.hid fun wx hg => by
            have hbx := (Box.made wr 38 #[.string yk, .string yv, .bool true]).grown hg fun e => by
              have h1 := (Hown.out.lt _ e.symm).2
              exact absurd h1 (Nat.lt_irrefl _)
            exact ⟨⟨hbx.cell 0, hbx.cell 1⟩, hg⟩
          have HownW : Hid ((wr.alloc (Obj.cells #[.string yk, .string yv, .bool true] 38)).ownsRow w.heap.size 63 1 (.slice Ap N cp) N (pvCells rs)) := Lib.hid (own_belowN Hown.out (below_box _))
          have hky : yk.size ≤ 1000000 ∧ yv.size ≤ 1000000 := by have h1 := hys.1; have h2 := hys.2; simp only at h1 h2; omega
          have HszW : Hid (w.heap.size ≤ (wr.alloc (Obj.cells #[.string yk, .string yv, .bool true] 38)).heap.size) := Lib.hid (Nat.le_trans hsz (by simp))
          go_wp2
          go_region_held3 (fun wx => (wx.cell? ⟨wr.heap.size, 0, none⟩ = some (.string yk) ∧ wx.cell? ⟨wr.heap.size, 1, none⟩ = some (.string yv)) ∧ (wr.alloc (Obj.cells #[.string yk, .string yv, .bool true] 38)).grownBy wx (Value.slice Ap N cp).ownBlock)
            (first | exact Hk.out _ (grown_below (Below.refl _ _).drew _) | exact Hk.out _ (World.grownBy.trans (And.right (by assumption)) (grown_below b3 _)) | exact Hk.out _ (World.grownBy.trans (And.right (by assumption)) (grown_below b2 _)) | exact Hk.out _ (World.grownBy.trans (And.right (by assumption)) (grown_below b1 _)) | exact Hk.out _ (World.grownBy.trans (And.right (by assumption)) (World.grownBy_alloc _ _ _)) | exact Hk.out _ (World.grownBy.trans (And.right (by assumption)) gA))
            (first
              | (go_at_call_of 72 (Value.string yk); refine (text_any yk _ hky.1).mono ?_; rintro e w3 ⟨v3, rfl, o3, b1⟩; obtain ⟨A3, m3, rfl, -, -, -⟩ := own_slice o3)
              | (go_at_call 71; refine (num_any 1 _ (by omega)).mono ?_; rintro e w4 ⟨v4, rfl, o4, b2⟩; rw [if_neg (by omega), show (1 : Int).toNat = goneN true from rfl] at o4; obtain ⟨A4, m4, rfl, -, -, -⟩ := own_slice o4)
              | (go_at_call_of 72 (Value.string yv); refine (text_any yv _ hky.2).mono ?_; rintro e w5 ⟨v5, rfl, o5, b3⟩; obtain ⟨A5, m5, rfl, -, -, -⟩ := own_slice o5; have C3 := below_thn (below_thn (below_thn (Below.refl (wr.alloc (Obj.cells #[.string yk, .string yv, .bool true] 38)).heap.size (wr.alloc (Obj.cells #[.string yk, .string yv, .bool true] 38))).drew b1) b2) b3)
              | (refine step_append_hasN (by rfl) _ _ _ (by rfl) 63 pv_elem (by omega) Try.underlying105 (by rfl) (own_belowN HownW.out (C3.alloc C3.size (Obj.cells #[.slice A3 (textForm yk.data.toList).length m3, .slice A4 (numForm (goneN true)).length m4, .slice A5 (textForm yv.data.toList).length m5] 63))) (by rfl) (Has.lit w5 #[.slice A3 (textForm yk.data.toList).length m3, .slice A4 (numForm (goneN true)).length m4, .slice A5 (textForm yv.data.toList).length m5] 63) (fun u hu => by simp at hu; rcases hu with rfl | rfl | rfl <;> rfl) (by have := HN.out; have := Hlr.out; simp only [maxLen]; omega) (by have := Hlr.out; omega) (Nat.le_trans HszW.out (C3.alloc C3.size (Obj.cells #[.slice A3 (textForm yk.data.toList).length m3, .slice A4 (numForm (goneN true)).length m4, .slice A5 (textForm yv.data.toList).length m5] 63)).size) ?_; intro vA wA oA gA zA))
          all_goals
            have W5 := C3.alloc C3.size (Obj.cells #[.slice A3 (textForm yk.data.toList).length m3, .slice A4 (numForm (goneN true)).length m4, .slice A5 (textForm yv.data.toList).length m5] 63)
            have hP5 := (Ho.out.below (below_box (Obj.cells #[.string yk, .string yv, .bool true] 38))).below W5
            have q3 := own_belowN o3 ((below_thn (below_thn (Below.refl w3.heap.size w3) b2) b3).alloc (below_thn (below_thn (Below.refl w3.heap.size w3) b2) b3).size (Obj.cells #[.slice A3 (textForm yk.data.toList).length m3, .slice A4 (numForm (goneN true)).length m4, .slice A5 (textForm yv.data.toList).length m5] 63))
            have q4 := own_belowN o4 (b3.alloc b3.size (Obj.cells #[.slice A3 (textForm yk.data.toList).length m3, .slice A4 (numForm (goneN true)).length m4, .slice A5 (textForm yv.data.toList).length m5] 63))
            have q5 := own_belowN o5 (below_box (Obj.cells #[.slice A3 (textForm yk.data.toList).length m3, .slice A4 (numForm (goneN true)).length m4, .slice A5 (textForm yv.data.toList).length m5] 63))
            have z3 : w.heap.size ≤ w3.heap.size := Nat.le_trans HszW.out b1.size
            have z4 : w.heap.size ≤ w4.heap.size := Nat.le_trans z3 b2.size
            have HPA : Hid (OwnPv wA w.heap.size vA (rs ++ [(.slice A3 (textForm yk.data.toList).length m3, textForm yk.data.toList), (.slice A4 (numForm (goneN true)).length m4, numForm (goneN true)), (.slice A5 (textForm yv.data.toList).length m5, textForm yv.data.toList)])) := Lib.hid (by
              refine hP5.snoc (fun q hq => ?_) (by rw [HN.out]; exact oA) gA
              simp only [List.mem_cons, List.not_mem_nil, or_false] at hq
              rcases hq with rfl | rfl | rfl
              · exact own_baseN q3 HszW.out
              · exact own_baseN q4 z3
              · exact own_baseN q5 z4)
            have HbA : Hid (Below w.heap.size w wA) := Lib.hid ((Hb.out.trans (((below_box _).mono hsz).trans (W5.mono HszW.out))).trans ((Below.refl _ _).grown gA (Nat.le_trans HszW.out W5.size) fun g e => (Hown.out.lt g e).1))
            have HrsA : Hid ((rs ++ [((.slice A3 (textForm yk.data.toList).length m3 : Value), textForm yk.data.toList), (.slice A4 (numForm (goneN true)).length m4, numForm (goneN true)), (.slice A5 (textForm yv.data.toList).length m5, textForm yv.data.toList)]).map (·.2) = partsN n (l.take (k + 1))) := Lib.hid (by
              rw [Hy.out, List.map_append, Hrs.out]
              rfl)
            clear hP5 q3 q4 q5 z3 z4 oA gA zA o3 o4 o5 b1 b2 b3 C3 W5
            go_wp2
            go_roundw
            case rel => exact ⟨k + 1, _, by omega, by go_num, HPA.out, HrsA, HbA.out⟩
            case measure => simp [intOf]; omega
      · obtain rfl : k = n := by omega
        have E : Hid (l.take k = l) := Lib.hid (List.take_of_length_le (by have := Hl.out; omega))
        obtain ⟨Ap, cp, rfl, hp1, hp2, hph⟩ := own_slice ho.own
        have Hparts : Hid (Parts wr wr.heap.size Ap rs.length (pvCells rs) (rs.map (·.2))) := Lib.hid ⟨hph, by simp [pvCells], fun j hj => by
          rw [List.length_map] at hj
          obtain ⟨A', c', e', -, -, hh⟩ := own_slice (ho.rows rs[j] (List.getElem_mem hj))
          exact ⟨A', rs[j].2.length, c', by simp [pvCells, hj, e'], by simpa [hj] using hh⟩⟩
        have Hflat : Hid (flat (rs.map (·.2)) = packL l) := Lib.hid (by
          rw [Hrs.out, E.out, ← flat_parts]
          unfold partsN partsL
          rw [Hl.out])
        have Hlen : Hid (rs.length = 1 + 3 * k) := Lib.hid (by
          have h1 := congrArg List.length Hrs.out
          rw [partsN_len, List.length_map, List.length_take] at h1
          have := Hl.out
          omega)
        have Hpl : Hid ((packL l).length ≤ 1000000) := Lib.hid (by
          have h1 := bodyL_le Hs.out
          have h2 := numForm_len9 (k := l.length) (by have := Hl.out; omega)
          have := Hl.out
          unfold packL
          rw [List.length_append]
          omega)
        have Hj := Lib.hid (join_any Ap rs.length cp wr.heap.size (pvCells rs) (rs.map (·.2)) wr Hparts.out (Nat.le_refl _) (by rw [Hflat.out]; have := Hpl.out; omega) (by have := Hlen.out; omega))
        rw [Hflat.out] at Hj
        clear hp1 hp2 hph ho
        go_wp2_with fail
        refine Hj.out.mono ?_
        rintro e w6 ⟨v6, rfl, o6, b6⟩
        have HE : Hid (PackPost w.heap.size l w (.returned (.tuple #[v6, .int .i64 0])) w6) := Lib.hid ⟨Hb.out.trans (b6.mono hsz), .inl ⟨Hr.out, v6, rfl, own_baseN o6 hsz⟩⟩
        clear o6 b6
        go_wp2
        go_ret2
        exact HE.out
  · have Hr := Lib.hid hr
    rw [runB_false hr] at Hw
    clear hr
    go_enter Try.func44, Try.ntmps44
    go_wp2_with fail
    refine Hw.out.mono ?_
    rintro e w1 ⟨rfl, hb1⟩
    have Hb1 := Lib.hid hb1
    clear hb1
    go_wp2
    go_ret2
    exact ⟨Hb1.out, .inr ⟨Hr.out, rfl⟩⟩
end Go.Proofs.Yteioopcacpihpaa

namespace Go.Proofs.Yteioopcacpihpaa
open Go.RowKit
open Go.Lib (strCells compareBytes)

def chA : Chg := ⟨⟨#[97]⟩, ⟨#[]⟩, true⟩
def chA1 : Chg := ⟨⟨#[97]⟩, ⟨#[49]⟩, false⟩
def chC3 : Chg := ⟨⟨#[99]⟩, ⟨#[51]⟩, false⟩
theorem runs_ex : ∀ r ∈ [[chA], [chA1, chC3]], Run r := by
  intro r hr
  simp only [List.mem_cons, List.not_mem_nil, or_false] at hr
  rcases hr with rfl | rfl
  · refine ⟨fun c hc => ?_, List.pairwise_singleton _ _⟩
    simp at hc
    subst hc
    intro _
    rfl
  · refine ⟨fun c hc => ?_, ?_⟩
    · simp at hc
      rcases hc with rfl | rfl
      · intro h; exact absurd h (by decide)
      · intro h; exact absurd h (by decide)
    · unfold Srt
      simp only [List.pairwise_cons, List.mem_cons, List.not_mem_nil, or_false, forall_eq, false_implies, implies_true, List.Pairwise.nil, and_true]
      decide
theorem merge_ex : mergeL [[chA], [chA1, chC3]] = [chA, chC3] := by decide +kernel
theorem pack_ex : packL [chA, chC3] = [2, 1, 97, 1, 0, 1, 99, 0, 1, 51] := by
  have h1 : numForm 1 = [1] := numForm_lo (by omega)
  have h0 : numForm 0 = [0] := numForm_lo (by omega)
  have h2 : numForm 2 = [2] := numForm_lo (by omega)
  simp [packL, bodyL, chgForm, textForm, chA, chC3, goneN, h0, h1, h2]
theorem small_ex : ∀ r ∈ [[chA], [chA1, chC3]], SmallL r := by
  intro r hr
  simp only [List.mem_cons, List.not_mem_nil, or_false] at hr
  rcases hr with rfl | rfl
  · refine ⟨by simp, fun c hc => ?_⟩
    simp at hc
    subst hc
    exact ⟨by decide, by decide⟩
  · refine ⟨by simp, fun c hc => ?_⟩
    simp at hc
    rcases hc with rfl | rfl
    · exact ⟨by decide, by decide⟩
    · exact ⟨by decide, by decide⟩
theorem chg_lit2 (w : World) (c d : Chg) : Has (w.alloc (.cells #[.string c.k, .string c.v, .bool c.g, .string d.k, .string d.v, .bool d.g] 38)) (w.heap.size + 1) (some ⟨w.heap.size, 0, none⟩) (2 * 3) (chgCells [c, d]) :=
  Has.lit w #[.string c.k, .string c.v, .bool c.g, .string d.k, .string d.v, .bool d.g] 38

set_option maxRecDepth 100000 in
set_option maxHeartbeats 1600000 in
theorem awake_any (w : World) : Calls Try.prog 10 #[] w fun e w' => e = .returned (.bool true) ∧ Below w.heap.size w w' := by
  obtain ⟨W1, hW1⟩ : ∃ W1, w.alloc (.cells #[.string ⟨#[97]⟩, .string ⟨#[]⟩, .bool true] 38) = W1 := ⟨_, rfl⟩
  obtain ⟨W2, hW2⟩ : ∃ W2, W1.alloc (.cells #[.string ⟨#[97]⟩, .string ⟨#[49]⟩, .bool false, .string ⟨#[99]⟩, .string ⟨#[51]⟩, .bool false] 38) = W2 := ⟨_, rfl⟩
  obtain ⟨W3, hW3⟩ : ∃ W3, W2.alloc (.cells #[.slice (some ⟨w.heap.size, 0, none⟩) 1 1, .slice (some ⟨w.heap.size + 1, 0, none⟩) 2 2] 22) = W3 := ⟨_, rfl⟩
  have s1 : W1.heap.size = w.heap.size + 1 := by rw [← hW1]; simp
  have s2 : W2.heap.size = w.heap.size + 2 := by rw [← hW2]; simp [s1]
  have s3 : W3.heap.size = w.heap.size + 3 := by rw [← hW3]; simp [s2]
  have b2 : Below W1.heap.size W1 W2 := hW2 ▸ below_box _
  have b3 : Below W2.heap.size W2 W3 := hW3 ▸ below_box _
  have b1 : Below w.heap.size w W1 := hW1 ▸ below_box _
  have Hcr : Hid (HasCrs W3 W3.heap.size (some ⟨w.heap.size + 2, 0, none⟩) 2 [(.slice (some ⟨w.heap.size, 0, none⟩) 1 1, [chA]), (.slice (some ⟨w.heap.size + 1, 0, none⟩) 2 2, [chA1, chC3])]) := Lib.hid (by
    refine ⟨?_, fun r hr => ?_⟩
    · have h := Has.lit W2 #[.slice (some ⟨w.heap.size, 0, none⟩) 1 1, .slice (some ⟨w.heap.size + 1, 0, none⟩) 2 2] 22
      rw [hW3, s2] at h
      exact h.more (by omega)
    · simp only [List.mem_cons, List.not_mem_nil, or_false] at hr
      rcases hr with rfl | rfl
      · have h := chg_lit w chA
        have hW1' : w.alloc (.cells #[.string chA.k, .string chA.v, .bool chA.g] 38) = W1 := hW1
        rw [hW1'] at h
        exact ⟨_, 1, 1, rfl, Nat.le_refl _, by simp [maxLen], rfl, ((h.more (by omega)).belowOf (b2.trans (b3.mono (by omega))) (by omega : W1.heap.size ≤ W1.heap.size)).more (by omega)⟩
      · have h := chg_lit2 W1 chA1 chC3
        have hW2' : W1.alloc (.cells #[.string chA1.k, .string chA1.v, .bool chA1.g, .string chC3.k, .string chC3.v, .bool chC3.g] 38) = W2 := hW2
        rw [hW2', s1] at h
        exact ⟨_, 2, 2, rfl, Nat.le_refl _, by simp [maxLen], rfl, ((h.more (by omega)).belowOf b3 (by omega : W2.heap.size ≤ W2.heap.size)).more (by omega)⟩)
  have Hm := Lib.hid (merge_any (some ⟨w.heap.size + 2, 0, none⟩) 2 2 W3.heap.size _ W3 Hcr.out (Nat.le_refl _) (by omega) small_ex)
  have Hb3 : Hid (Below w.heap.size w W3) := Lib.hid ((b1.trans (b2.mono (by omega))).trans (b3.mono (by omega)))
  have hz3 : w.heap.size ≤ W3.heap.size := by omega
  subst hW3
  subst hW2
  subst hW1
  simp only [World.size_alloc] at Hm Hb3 hz3
  clear b1 b2 b3 s1 s2 s3 Hcr
  go_enter Try.func10, Try.ntmps10
  go_wp2_with fail
  refine Hm.out.mono ?_
  rintro e w4 ⟨hb4, hp4⟩
  have hcl : crLists [((.slice (some ⟨w.heap.size, 0, none⟩) 1 1 : Value), [chA]), (.slice (some ⟨w.heap.size + 1, 0, none⟩) 2 2, [chA1, chC3])] = [[chA], [chA1, chC3]] := rfl
  rw [hcl, merge_ex] at hp4
  obtain ⟨v4, rfl, ho4⟩ : ∃ v, e = .returned (.tuple #[v, .int .i64 0]) ∧ OwnChs w4 _ v [chA, chC3] := by
    rcases hp4 with ⟨-, v, e1, e2⟩ | ⟨h1, -⟩
    · exact ⟨v, e1, e2⟩
    · exact absurd runs_ex h1
  clear hp4 hcl Hm
  obtain ⟨A4, c4, rfl, -, -, hv4⟩ := ho4.slice
  have Hb4 := Lib.hid (Hb3.out.trans (hb4.mono hz3))
  have hz4 : w.heap.size ≤ w4.heap.size := Hb4.out.size
  have Hv4 := Lib.hid hv4
  have Hpk := Lib.hid (pack_any A4 2 c4 w4.heap.size [chA, chC3] w4 hv4 (Nat.le_refl _) (by omega) (by
    intro x hx
    simp at hx
    rcases hx with rfl | rfl
    · exact ⟨by decide, by decide⟩
    · exact ⟨by decide, by decide⟩))
  clear hb4 ho4 hv4
  go_wp2_with fail
  refine Hpk.out.mono ?_
  rintro e w5 ⟨hb5, hp5⟩
  rw [pack_ex] at hp5
  obtain ⟨v5, rfl, ho5⟩ : ∃ v, e = .returned (.tuple #[v, .int .i64 0]) ∧ w5.ownsRow w4.heap.size 5 1 v 10 (byteCells [2, 1, 97, 1, 0, 1, 99, 0, 1, 51]) := by
    rcases hp5 with ⟨-, v, e1, e2⟩ | ⟨h1, -⟩
    · exact ⟨v, e1, e2⟩
    · refine absurd ?_ h1
      rw [← merge_ex]
      exact run_merge _
  obtain ⟨A5, c5, rfl, -, -, hh5⟩ := own_slice ho5
  have hcv := string_run (w := w5) (l := [2, 1, 97, 1, 0, 1, 99, 0, 1, 51]) hh5 c5
  obtain ⟨a4, x4, rfl, ha4, hx4, -, -, q2⟩ := (Hv4.out.belowOf hb5 (Nat.le_refl _)).at_ (i := 0) (by decide)
  simp at hx4
  subst hx4
  have ea : a4.add (0 * 3) = a4 := by simp [Addr.add]
  rw [ea] at q2
  have Hb5 := Lib.hid (Hb4.out.trans (hb5.mono hz4))
  clear hp5 ho5 hh5 hb5 Hpk ea
  have q3 : w5.cell? ⟨a4.block, a4.off + 2, none⟩ = some (.bool true) := q2
  clear q2
  go_wp2
  go_ret
  exact ⟨rfl, Hb5.out⟩
end Go.Proofs.Yteioopcacpihpaa

namespace Go.Proofs.Yteioopcacpihpaa
open Go.RowKit
open Go.Lib (strCells compareBytes)

def LightsPost (L : List (List Chg)) (w : World) (e : Ending) (w' : World) : Prop := ∃ b : Bool, e = .returned (.bool b) ∧ (b = true → L.length ≤ 10 ∧ ∀ l ∈ L, LightC 60 l) ∧ ∃ q, w' = w.drewN q
theorem LightC.small {l : List Chg} (h : LightC 60 l) : SmallL l := ⟨h.1, fun x hx => by have := h.mem hx; omega⟩
set_option maxRecDepth 100000 in
theorem lights_any (A : Option Addr) (n c C : Nat) (rs : Crs) (w : World) (h : HasCrs w C A n rs) (hn : n ≤ maxLen) (hs : ∀ l ∈ crLists rs, ∀ u ∈ l, u.k.size ≤ maxLen ∧ u.v.size ≤ maxLen) :
    Calls Try.prog 17 #[.slice A n c] w (LightsPost (crLists rs) w) := by
  unfold maxLen at hn
  have H := Lib.hid h
  have Hs := Lib.hid hs
  have Hl : Hid ((crLists rs).length = n) := Lib.hid (by rw [crLists_len]; exact h.len)
  clear h hs
  by_cases h10 : 10 < n
  · go_enter Try.func17, Try.ntmps17
    go_wp2
    go_ret
    exact ⟨false, rfl, by simp, 0, rfl⟩
  · go_enter Try.func17, Try.ntmps17
    go_wp2
    go_loopw [3] (fun i wr => ∃ k : Nat, k ≤ n ∧ i = .int .i64 (k : Int) ∧ Hid (∀ l ∈ (crLists rs).take k, LightC 60 l) ∧ ∃ q, wr = w.drewN q) (fun i _ => n - (intOf i).toNat)
    case atStart => exact ⟨0, by omega, rfl, Lib.hid (by simp), 0, rfl⟩
    case round =>
      obtain ⟨k, hk, rfl, Hp, q, rfl⟩ := hrel
      by_cases hlt : k < n
      · obtain ⟨a, A1, m1, c1, l, rfl, hab, hg, h1, h2, h3, d0, -⟩ := H.out.at_ hlt
        have Hg := Lib.hid hg
        have Hc := Lib.hid (light_any A1 m1 c1 C 60 l (w.drewN q) (h3.keep fun _ _ => rfl) (by omega) (by omega) (Hs.out l (List.mem_of_getElem? hg)))
        clear hg h3 h2 h1
        go_wp2_with fail
        refine Hc.out.mono ?_
        rintro e w1 ⟨b, rfl, hbl, q2, rfl⟩
        have Hbl := Lib.hid hbl
        clear hbl
        cases b with
        | false =>
          go_wp2
          go_ret
          exact ⟨false, rfl, by simp, q + q2, rfl⟩
        | true =>
          have Hp1 : Hid (∀ l ∈ (crLists rs).take (k + 1), LightC 60 l) := Lib.hid (by
            rw [List.take_add_one, Hg.out]
            intro x hx
            rcases List.mem_append.1 hx with hx | hx
            · exact Hp.out x hx
            · simp at hx; subst hx; exact Hbl.out rfl)
          go_wp2
          go_roundw
          case rel => exact ⟨k + 1, by omega, by go_num, Hp1, q + q2, rfl⟩
          case measure => simp [intOf]; omega
      · have E : Hid ((crLists rs).length ≤ 10 ∧ ∀ l ∈ crLists rs, LightC 60 l) := Lib.hid ⟨by have := Hl.out; omega, by have h1 := Hp.out; rwa [List.take_of_length_le (by have := Hl.out; omega)] at h1⟩
        obtain rfl : k = n := by omega
        go_wp2
        go_ret
        exact ⟨true, rfl, fun _ => E.out, q, rfl⟩

theorem tidy_small {c : Chg} (h : c.k.size ≤ 4000 ∧ c.v.size ≤ 4000) : (tidy c).k.size ≤ 4000 ∧ (tidy c).v.size ≤ 4000 := by
  unfold tidy
  split
  · exact ⟨h.1, by simp [ByteArray.size]⟩
  · exact h
theorem small_over : ∀ {l a : List Chg}, (∀ x ∈ l, x.k.size ≤ 4000 ∧ x.v.size ≤ 4000) → (∀ x ∈ a, x.k.size ≤ 4000 ∧ x.v.size ≤ 4000) → ∀ x ∈ overL a l, x.k.size ≤ 4000 ∧ x.v.size ≤ 4000
  | [], _, _, h => h
  | c :: l, a, h1, h2 => small_over (l := l) (a := putC (tidy c) a) (fun x hx => h1 x (List.mem_cons_of_mem _ hx)) fun x hx => by
    rcases mem_putC hx with rfl | hx
    · exact tidy_small (h1 c (by simp))
    · exact h2 x hx
theorem small_make {l : List Chg} (h : SmallL l) : SmallL (makeL l) := ⟨by have := len_over l []; have := h.1; unfold makeL; simp at *; omega, small_over h.2 (by simp)⟩

/-- a row of rows of changes: the row is the call's own; each of its rows is the call's own, or lies below block C -/
structure OwnCr (w : World) (C B : Nat) (v : Value) (rs : Crs) : Prop where
  cb : C ≤ B
  own : w.ownsRow B 22 1 v rs.length (crCells rs)
  rows : ∀ r ∈ rs, OwnChs w B r.1 r.2 ∨ ∃ A m c, r.1 = .slice A m c ∧ m ≤ c ∧ c ≤ maxLen ∧ HasChs w C A m r.2
theorem cr_elem : ElemN Try.prog 22 1 24 (.slice none 0 0) := ⟨by kernel_rfl, rfl⟩
theorem OwnCr.below {w w' : World} {C B : Nat} {v : Value} {rs : Crs} (h : OwnCr w C B v rs) (hB : B ≤ w.heap.size) (hb : Below w.heap.size w w') : OwnCr w' C B v rs :=
  ⟨h.cb, own_belowN h.own hb, fun r hr => (h.rows r hr).imp (fun x => x.below hb) fun ⟨A, m, c, e, h1, h2, h3⟩ => ⟨A, m, c, e, h1, h2, h3.belowOf hb (Nat.le_trans h.cb hB)⟩⟩
theorem OwnCr.nil (w : World) {C B : Nat} (h : C ≤ B) : OwnCr w C B (.slice none 0 0) [] := ⟨h, World.ownsRow_nil _ _ _ _, by simp⟩
theorem OwnCr.has {w : World} {C B : Nat} {v : Value} {rs : Crs} (h : OwnCr w C B v rs) (hC : C ≤ w.heap.size) : ∃ A c, v = .slice A rs.length c ∧ rs.length ≤ c ∧ c ≤ maxLen ∧ HasCrs w w.heap.size A rs.length rs := by
  obtain ⟨A, c, e, h1, h2, h3⟩ := own_slice h.own
  refine ⟨A, c, e, h1, h2, h3, fun r hr => ?_⟩
  rcases h.rows r hr with hx | ⟨A', m, c', e', g1, g2, g3⟩
  · obtain ⟨A', c', e', g1, g2, g3⟩ := hx.slice
    exact ⟨A', _, c', e', g1, g2, g3⟩
  · exact ⟨A', m, c', e', g1, g2, g3.more hC⟩
theorem OwnCr.snoc {w w' : World} {C B : Nat} {v v' : Value} {rs : Crs} {q : Value × List Chg} (h : OwnCr w C B v rs) (hq : OwnChs w B q.1 q.2 ∨ ∃ A m c, q.1 = .slice A m c ∧ m ≤ c ∧ c ≤ maxLen ∧ HasChs w C A m q.2)
    (h' : w'.ownsRow B 22 1 v' (rs.length + 1) (crCells rs ++ [q.1])) (hg : w.grownBy w' v.ownBlock) (hB : B ≤ w.heap.size) : OwnCr w' C B v' (rs ++ [q]) := by
  have hbel : Below B w w' := (Below.refl _ _).grown hg hB fun g e => (h.own.lt g e).1
  have key : ∀ r : Value × List Chg, (OwnChs w B r.1 r.2 ∨ ∃ A m c, r.1 = .slice A m c ∧ m ≤ c ∧ c ≤ maxLen ∧ HasChs w C A m r.2) → (OwnChs w' B r.1 r.2 ∨ ∃ A m c, r.1 = .slice A m c ∧ m ≤ c ∧ c ≤ maxLen ∧ HasChs w' C A m r.2) := fun r hr =>
    hr.imp (fun x => own_otherP hg h.own x (by decide)) fun ⟨A, m, c, e, h1, h2, h3⟩ => ⟨A, m, c, e, h1, h2, h3.belowOf hbel h.cb⟩
  refine ⟨h.cb, by rw [List.length_append]; unfold crCells at h' ⊢; rw [List.map_append]; exact h', fun r hr => ?_⟩
  rcases List.mem_append.1 hr with hr | hr
  · exact key r (h.rows r hr)
  · simp at hr
    subst hr
    exact key _ hq
theorem crLists_snoc (rs : Crs) (q : Value × List Chg) : crLists (rs ++ [q]) = crLists rs ++ [q.2] := by simp [crLists]
end Go.Proofs.Yteioopcacpihpaa

namespace Go.Proofs.Yteioopcacpihpaa
open Go.RowKit
open Go.Lib (strCells compareBytes)

set_option maxRecDepth 100000 in
theorem grow_any (n : Nat) (w : World) (h0 : 0 < n) (hn : n ≤ 1000000) :
    Calls Try.prog 106 #[.slice none 0 0, .int .i64 (n : Int)] w fun e w' => ∃ v, e = .returned v ∧ w'.ownsRow w.heap.size 22 1 v 0 [] ∧ Below w.heap.size w w' := by
  obtain ⟨i, hi, hz, hs, hb⟩ := cr_elem.get
  have hr := fun ty => Lib.run_append_nil_zeros (P := Try.prog) w 29 3 ty 22 i _ .i64 .i64 Try.underlying29 Try.underlying3 hi hz n h0 (by rw [hs]; omega) (by omega) (by rw [hb]; omega)
  have hge := grownCap_ge w n 0 22
  have hle := grownCap_le_maxLen w n 0 22 (by unfold maxLen; omega)
  obtain ⟨cap, hcap⟩ : ∃ cap, grownCap w n 0 22 = cap := ⟨_, rfl⟩
  rw [hcap] at hge hle
  simp only [hcap] at hr
  obtain ⟨cs, hcs⟩ : ∃ cs, Builtin.zeroCells (Value.slice none 0 0).cells n ++ Builtin.zeroCells (Value.slice none 0 0).cells (cap - n) = cs := ⟨_, rfl⟩
  have hsz : cs.size = cap := by
    rw [← hcs, Array.size_append, size_zeroCells, size_zeroCells]
    have : (Value.slice none 0 0).cells.size = 1 := rfl
    rw [this]
    omega
  simp only [hcs] at hr
  have Hr := Lib.hid hr
  have Ho : Hid ((w.drew.alloc (.cells cs 22)).ownsRow w.heap.size 22 1 (.slice (some ⟨w.heap.size, 0, none⟩) 0 cap) 0 []) := Lib.hid
    ⟨rfl, .inr ⟨w.heap.size, cap, cs, rfl, Nat.le_refl _, heap_alloc_new w.drew _, by omega, hle, by omega, by simp⟩⟩
  have Hb : Hid (Below w.heap.size w (w.drew.alloc (.cells cs 22))) := Lib.hid ((Below.refl _ _).drew.alloc (Nat.le_refl _) _)
  have hn0 : (0 : Int) < (n : Int) := by omega
  have hcap0 : 0 < cap := by omega
  have hcapi : (0 : Int) ≤ (cap : Int) := by omega
  clear hr hi hz hs hb hcs hsz hcap
  unfold maxLen at hle
  go_enter Try.func106, Try.ntmps106
  go_wp2_with (at_builtin; refine Lib.wpList_append_run _ rfl _ _ _ _ rfl _ _ rfl rfl _ _ (Hr.out _) ?_)
  go_ret
  exact ⟨_, rfl, Ho.out, Hb.out⟩

/-- a row of slices that are one cell each -/
theorem crCells_one (rs : Crs) (h : ∀ r ∈ rs, r.1.oneCell' = true) : ∀ u ∈ crCells rs, u.oneCell' = true := by
  intro u hu
  unfold crCells at hu
  obtain ⟨r, hr, rfl⟩ := List.mem_map.1 hu
  exact h r hr
set_option maxRecDepth 100000 in
set_option maxHeartbeats 1600000 in
theorem concat_any (g h : Nat) (tv : Value) (A : Option Addr) (m c : Nat) (rs : Crs) (w : World) (hA : Has w w.heap.size A m (crCells rs)) (h1 : ∀ r ∈ rs, r.1.oneCell' = true) (ht1 : tv.oneCell' = true) (hm : m ≤ 10000)
    (hg : w.heap[g]? = some (.cells #[.slice (some ⟨h, 0, none⟩) 1 1, .slice A m c] 29 (0, 0))) (hh : w.heap[h]? = some (.cells #[tv] 22 (0, 0))) :
    Calls Try.prog 84 #[.slice (some ⟨g, 0, none⟩) 2 2] w fun e w' => ∃ v, e = .returned v ∧ w'.ownsRow w.heap.size 22 1 v (m + 1) (tv :: crCells rs) ∧ Below w.heap.size w w' := by
  have HA := Lib.hid hA
  have H1 := Lib.hid (crCells_one rs h1)
  have Hbx : Hid (Box w g 29 #[.slice (some ⟨h, 0, none⟩) 1 1, .slice A m c]) := Lib.hid hg
  have Hbh : Hid (Box w h 22 #[tv]) := Lib.hid hh
  have Hl := Lib.hid hA.1
  clear hA h1 hg hh
  go_enter Try.func84, Try.ntmps84
  go_wp2
  go_loopw [3, 5, 11] (fun sv _ iv wr => ∃ k s : Nat, iv = .int .i64 (k : Int) ∧ sv = .int .i64 (s : Int) ∧ ((k = 0 ∧ s = 0) ∨ (k = 1 ∧ s = 1) ∨ (k = 2 ∧ s = m + 1)) ∧ Below w.heap.size w wr) (fun _ _ iv _ => 2 - (intOf iv).toNat)
  case atStart => exact ⟨0, 0, rfl, rfl, .inl ⟨rfl, rfl⟩, Below.refl _ _⟩
  case round =>
    obtain ⟨k, s, rfl, rfl, hks, hbw⟩ := hrel
    have Hbw := Lib.hid hbw
    have hszw := hbw.size
    have g0 := (Hbx.out.below hbw Hbx.out.lt).cell 0
    have g1 := (Hbx.out.below hbw Hbx.out.lt).cell 1
    clear hbw
    rcases hks with ⟨rfl, rfl⟩ | ⟨rfl, rfl⟩ | ⟨rfl, rfl⟩
    · go_wp2
      go_roundw
      case rel => exact ⟨1, 1, rfl, rfl, .inr (.inl ⟨rfl, rfl⟩), Hbw.out⟩
      case measure => simp [intOf]
    · go_wp2
      go_roundw
      case rel => exact ⟨2, m + 1, rfl, by go_num, .inr (.inr ⟨rfl, rfl⟩), Hbw.out⟩
      case measure => simp [intOf]
    · have Hg := Lib.hid (grow_any (m + 1) wr (by omega) (by omega))
      go_wp2_with fail
      refine Hg.out.mono ?_
      rintro e w2 ⟨v, rfl, ho, hb⟩
      have Ho := Lib.hid (own_baseN ho hszw)
      have Hb := Lib.hid (Hbw.out.trans (hb.mono hszw))
      clear ho hb g0 g1 Hg
      generalize wr = w0 at *
      go_wp2
      go_loopw [6, 8, 27] (fun nv _ iv wr => ∃ (k q : Nat) (cs : List Value), iv = .int .i64 (k : Int) ∧ ((k = 0 ∧ q = 0 ∧ Hid (cs = [])) ∨ (k = 1 ∧ q = 1 ∧ Hid (cs = [tv])) ∨ (k = 2 ∧ q = m + 1 ∧ Hid (cs = tv :: crCells rs))) ∧ wr.ownsRow w.heap.size 22 1 nv q cs ∧ Below w.heap.size w wr) (fun _ _ iv _ => 2 - (intOf iv).toNat)
      case atStart => exact ⟨0, 0, [], rfl, .inl ⟨rfl, rfl, Lib.hid rfl⟩, Ho.out, Hb.out⟩
      case round =>
        obtain ⟨k, q, cs, rfl, hks, ho, hb⟩ := hrel
        have Ho2 := Lib.hid ho
        have Hb2 := Lib.hid hb
        have hsz := hb.size
        have g0 := (Hbx.out.below hb Hbx.out.lt).cell 0
        have g1 := (Hbx.out.below hb Hbx.out.lt).cell 1
        clear ho hb Ho Hb
        rcases hks with ⟨rfl, rfl, Hcs⟩ | ⟨rfl, rfl, Hcs⟩ | ⟨rfl, rfl, Hcs⟩
        · have Hx : Hid (Has wr w.heap.size (some ⟨h, 0, none⟩) (1 * 1) [tv]) := Lib.hid ⟨rfl, fun k u hu => ⟨_, rfl, Hbh.out.lt, by
            have hk : k = 0 := by
              cases k with
              | zero => rfl
              | succ k => simp at hu
            subst hk
            simp at hu
            subst hu
            exact (Hbh.out.below Hb2.out Hbh.out.lt).cell 0⟩⟩
          go_wp2_with (at_builtin; refine wpList_append_hasN rfl (.tmp 31) (.tmp 32) _ rfl 22 cr_elem (by omega) Try.underlying29 rfl Ho2.out rfl Hx.out (fun u hu => by simp at hu; subst hu; exact ht1) (by simp only [maxLen]; omega) (by omega) hsz ?_; intro v5 w5 o5 g5 _)
          have Ho5 := Lib.hid o5
          have Hb5 := Lib.hid (below_ownN Hb2.out Ho2.out g5 hsz)
          clear o5 g5
          go_wp2
          go_roundw
          case rel => exact ⟨1, 1, _, rfl, .inr (.inl ⟨rfl, rfl, Lib.hid (by rw [Hcs.out]; rfl)⟩), Ho5.out, Hb5.out⟩
          case measure => simp [intOf]
        · go_wp2_with (at_builtin; refine wpList_append_hasN rfl (.tmp 31) (.tmp 32) _ rfl 22 cr_elem (by omega) Try.underlying29 rfl Ho2.out rfl (show Has wr w.heap.size A (m * 1) (crCells rs) by rw [Nat.mul_one]; exact HA.out.belowOf Hb2.out (Nat.le_refl _)) H1.out (by simp only [maxLen]; omega) (by omega) hsz ?_; intro v5 w5 o5 g5 _)
          have Ho5 := Lib.hid o5
          have Hb5 := Lib.hid (below_ownN Hb2.out Ho2.out g5 hsz)
          clear o5 g5
          go_wp2
          go_roundw
          case rel => exact ⟨2, m + 1, _, rfl, .inr (.inr ⟨rfl, rfl, Lib.hid rfl⟩), by have h3 := Ho5.out; rw [Hcs.out, show 1 + m = m + 1 by omega] at h3; exact h3, Hb5.out⟩
          case measure => simp [intOf]
        · rw [Hcs.out] at Ho2
          go_wp2
          go_ret
          exact ⟨_, rfl, Ho2.out, Hb2.out⟩
end Go.Proofs.Yteioopcacpihpaa

namespace Go.Proofs.Yteioopcacpihpaa

theorem mlook_nil (k : List UInt8) : mlook k [] = none := rfl
theorem mlook_some {k : List UInt8} {c : Chg} : ∀ {rs : List (List Chg)}, mlook k rs = some c → ∃ r ∈ rs, look k r = some c
  | [], h => by simp [mlook] at h
  | r :: rs, h => by
    rw [mlook_cons] at h
    cases e : look k r with
    | some d =>
      rw [e] at h
      exact ⟨r, by simp, e.trans h⟩
    | none =>
      rw [e] at h
      obtain ⟨x, hx, e2⟩ := mlook_some (rs := rs) h
      exact ⟨x, List.mem_cons_of_mem _ hx, e2⟩
theorem merge_mem {rs : List (List Chg)} (h : ∀ r ∈ rs, Run r) {c : Chg} (hc : c ∈ mergeL rs) : ∃ r ∈ rs, c ∈ r := by
  have h1 := look_of (srt_merge rs) hc
  rw [look_merge _ h] at h1
  obtain ⟨r, hr, e⟩ := mlook_some h1
  exact ⟨r, hr, look_mem e⟩
theorem make_mem {l : List Chg} {c : Chg} (hc : c ∈ makeL l) : ∃ d ∈ l, c = tidy d := by
  have h1 := look_of (srt_make l) hc
  rw [look_make] at h1
  cases e : lastOf c.kb l with
  | none => rw [e] at h1; cases h1
  | some d =>
    rw [e] at h1
    injection h1 with h1
    exact ⟨d, (List.mem_filter.1 (List.mem_of_getLast? e)).1, h1.symm⟩
theorem runs2 {a b : List Chg} (ha : Run a) (hb : Run b) : ∀ r ∈ [a, b], Run r := fun r hr => by
  rcases List.mem_cons.1 hr with rfl | hr
  · exact ha
  · simp at hr; subst hr; exact hb
theorem runs3 {a b c : List Chg} (ha : Run a) (hb : Run b) (hc : Run c) : ∀ r ∈ [a, b, c], Run r := fun r hr => by
  rcases List.mem_cons.1 hr with rfl | hr
  · exact ha
  · exact runs2 hb hc r hr
theorem merge_left {a b c : List Chg} (ha : Run a) (hb : Run b) (hc : Run c) : mergeL [mergeL [a, b], c] = mergeL [a, b, c] := by
  refine srt_ext (srt_merge _) (srt_merge _) fun k => ?_
  rw [look_merge k (runs2 (run_merge _) hc), look_merge k (runs3 ha hb hc), mlook_cons, look_merge k (runs2 ha hb)]
  simp only [mlook_cons, mlook_nil, Option.or_none, Option.or_assoc]
theorem merge_right {a b c : List Chg} (ha : Run a) (hb : Run b) (hc : Run c) : mergeL [a, mergeL [b, c]] = mergeL [a, b, c] := by
  refine srt_ext (srt_merge _) (srt_merge _) fun k => ?_
  rw [look_merge k (runs2 ha (run_merge _)), look_merge k (runs3 ha hb hc), mlook_cons, mlook_cons, look_merge k (runs2 hb hc)]
  simp only [mlook_cons, mlook_nil, Option.or_none]
/-- does a range have a key? -/
def inK (lo hi k : List UInt8) : Bool := !decide (k < lo) && (hi.isEmpty || decide (k < hi))
theorem inR_key (lo hi : List UInt8) (c : Chg) : inR lo hi c = inK lo hi c.kb := rfl
theorem look_filter (p : Chg → Bool) (q : List UInt8 → Bool) (hp : ∀ c, p c = q c.kb) (k : List UInt8) : ∀ l : List Chg, look k (l.filter p) = if q k then look k l else none
  | [] => by simp [look_nil]
  | c :: l => by
    have ih := look_filter p q hp k l
    rw [List.filter_cons]
    by_cases h1 : p c = true
    · rw [if_pos h1, look_cons, look_cons, ih]
      by_cases h2 : c.kb = k
      · have : q k = true := by rw [← h2, ← hp]; exact h1
        simp [h2, this]
      · simp [h2]
    · rw [if_neg h1, look_cons, ih]
      by_cases h2 : c.kb = k
      · have : q k = false := by rw [← h2, ← hp]; simpa using h1
        simp [this]
      · simp [h2]
theorem look_slice (lo hi k : List UInt8) (l : List Chg) : look k (sliceL lo hi l) = if inK lo hi k then look k l else none := look_filter _ _ (inR_key lo hi) k l
theorem not_lt_nil (k : List UInt8) : ¬ k < [] := by intro h; cases h
theorem cut_merge {l : List Chg} (h : Run l) (hi : List UInt8) (hne : hi ≠ []) : mergeL [sliceL hi [] l, sliceL [] hi l] = l := by
  refine srt_ext (srt_merge _) h.2 fun k => ?_
  rw [look_merge k (runs2 (run_slice h) (run_slice h)), mlook_cons, mlook_cons, mlook_nil, look_slice, look_slice, Option.or_none]
  have e : hi.isEmpty = false := by cases hi <;> simp_all
  by_cases hk : k < hi
  · simp [inK, hk, e]
  · simp [inK, hk, e]
theorem cut_len (l : List Chg) (hi : List UInt8) (hne : hi ≠ []) : (sliceL [] hi l).length + (sliceL hi [] l).length = l.length := by
  have e : hi.isEmpty = false := by cases hi <;> simp_all
  induction l with
  | nil => rfl
  | cons c l ih =>
    unfold sliceL at ih ⊢
    rw [List.filter_cons, List.filter_cons]
    by_cases hk : c.kb < hi
    · have h1 : inR [] hi c = true := by simp [inR, hk]
      have h2 : inR hi [] c = false := by simp [inR, hk]
      rw [if_pos h1, if_neg (by simp [h2])]
      simp only [List.length_cons]
      omega
    · have h1 : inR [] hi c = false := by simp [inR, hk, e]
      have h2 : inR hi [] c = true := by simp [inR, hk]
      rw [if_neg (by simp [h1]), if_pos h2]
      simp only [List.length_cons]
      omega
end Go.Proofs.Yteioopcacpihpaa

namespace Go.Proofs.Yteioopcacpihpaa
open Go.RowKit
open Go.Lib (strCells compareBytes)

/-- a slice of changes that lies in memory, wherever -/
def Rw (w : World) (A : Option Addr) (n c : Nat) (l : List Chg) : Prop := n ≤ c ∧ c ≤ maxLen ∧ HasChs w w.heap.size A n l
theorem Rw.next {w w' : World} {A : Option Addr} {n c : Nat} {l : List Chg} (h : Rw w A n c l) (hb : Below w.heap.size w w') : Rw w' A n c l := ⟨h.1, h.2.1, (h.2.2.belowOf hb (Nat.le_refl _)).more hb.size⟩
theorem OwnChs.rw {w : World} {B N : Nat} {v : Value} {l : List Chg} (h : OwnChs w B v l) (hN : l.length = N) : ∃ A c, v = .slice A N c ∧ Rw w A N c l := by
  obtain ⟨A, c, rfl, h1, h2, h3⟩ := h.slice
  rw [hN] at h1 h3 ⊢
  exact ⟨A, c, rfl, h1, h2, h3⟩
theorem Rw.cr {w : World} {A : Option Addr} {n c : Nat} {l : List Chg} (h : Rw w A n c l) (o : Obj) : ∃ A' m c', (Value.slice A n c, l).1 = .slice A' m c' ∧ m ≤ c' ∧ c' ≤ maxLen ∧ HasChs (w.alloc o) (w.heap.size + 1) A' m (Value.slice A n c, l).2 :=
  ⟨A, n, c, rfl, h.1, h.2.1, (h.2.2.alloc (Nat.le_refl _) o).more (by omega)⟩
theorem crs1 {w : World} {A1 : Option Addr} {n1 c1 : Nat} {l1 : List Chg} (h1 : Rw w A1 n1 c1 l1) :
    HasCrs (w.alloc (.cells #[.slice A1 n1 c1] 22)) (w.heap.size + 1) (some ⟨w.heap.size, 0, none⟩) 1 [(.slice A1 n1 c1, l1)] := by
  refine ⟨Has.lit w #[.slice A1 n1 c1] 22, fun r hr => ?_⟩
  simp only [List.mem_cons, List.not_mem_nil, or_false] at hr
  subst hr
  exact h1.cr _
theorem crs2 {w : World} {A1 A2 : Option Addr} {n1 c1 n2 c2 : Nat} {l1 l2 : List Chg} (h1 : Rw w A1 n1 c1 l1) (h2 : Rw w A2 n2 c2 l2) :
    HasCrs (w.alloc (.cells #[.slice A1 n1 c1, .slice A2 n2 c2] 22)) (w.heap.size + 1) (some ⟨w.heap.size, 0, none⟩) 2 [(.slice A1 n1 c1, l1), (.slice A2 n2 c2, l2)] := by
  refine ⟨Has.lit w #[.slice A1 n1 c1, .slice A2 n2 c2] 22, fun r hr => ?_⟩
  simp only [List.mem_cons, List.not_mem_nil, or_false] at hr
  rcases hr with rfl | rfl
  · exact h1.cr _
  · exact h2.cr _
theorem crs3 {w : World} {A1 A2 A3 : Option Addr} {n1 c1 n2 c2 n3 c3 : Nat} {l1 l2 l3 : List Chg} (h1 : Rw w A1 n1 c1 l1) (h2 : Rw w A2 n2 c2 l2) (h3 : Rw w A3 n3 c3 l3) :
    HasCrs (w.alloc (.cells #[.slice A1 n1 c1, .slice A2 n2 c2, .slice A3 n3 c3] 22)) (w.heap.size + 1) (some ⟨w.heap.size, 0, none⟩) 3 [(.slice A1 n1 c1, l1), (.slice A2 n2 c2, l2), (.slice A3 n3 c3, l3)] := by
  refine ⟨Has.lit w #[.slice A1 n1 c1, .slice A2 n2 c2, .slice A3 n3 c3] 22, fun r hr => ?_⟩
  simp only [List.mem_cons, List.not_mem_nil, or_false] at hr
  rcases hr with rfl | rfl | rfl
  · exact h1.cr _
  · exact h2.cr _
  · exact h3.cr _
def Sm (l : List Chg) : Prop := l.length ≤ 1000 ∧ ∀ x ∈ l, x.k.size ≤ 4000 ∧ x.v.size ≤ 4000
theorem sm_merge {rs : List (List Chg)} (hr : ∀ r ∈ rs, Run r) (h : ∀ r ∈ rs, Sm r) (hl : (mergeL rs).length ≤ 1000) : Sm (mergeL rs) :=
  ⟨hl, fun x hx => by
    obtain ⟨r, h1, h2⟩ := merge_mem hr hx
    exact (h r h1).2 x h2⟩
theorem len_mergeS : ∀ (rs : List (List Chg)), (mergeL rs).length ≤ sumL rs
  | [] => by simp [mergeL]
  | r :: rs => by
    have h1 := len_mergeS rs
    have h2 := len_over r (mergeL rs)
    simp only [mergeL, List.foldr_cons, sumL, List.map_cons, List.sum_cons] at h1 h2 ⊢
    omega
def MrgPost (M : List Chg) (N : Nat) (w : World) (e : Ending) (w' : World) : Prop := ∃ A c, e = .returned (.tuple #[.slice A N c, .int .i64 0]) ∧ Rw w' A N c M ∧ Below w.heap.size w w'
theorem mrg_post {w w' : World} {o : Obj} {e : Ending} {rs : List (List Chg)} {M : List Chg} {N : Nat} (hr : ∀ r ∈ rs, Run r) (hM : mergeL rs = M) (hN : M.length = N) (h : MergePost (w.alloc o).heap.size rs (w.alloc o) e w') : MrgPost M N w e w' := by
  obtain ⟨hb, ⟨-, v, rfl, ho⟩ | ⟨h1, -⟩⟩ := h
  · rw [hM] at ho
    obtain ⟨A, c, rfl, hw⟩ := ho.rw hN
    exact ⟨A, c, rfl, hw, (below_box o).trans (hb.mono (by simp))⟩
  · exact absurd hr h1
theorem mrg2_any {w : World} {A1 A2 : Option Addr} {n1 c1 n2 c2 : Nat} {l1 l2 : List Chg} (h1 : Rw w A1 n1 c1 l1) (h2 : Rw w A2 n2 c2 l2) (r1 : Run l1) (r2 : Run l2) (s1 : Sm l1) (s2 : Sm l2) (M : List Chg) (hM : mergeL [l1, l2] = M) (N : Nat) (hN : M.length = N) :
    Calls Try.prog 18 #[.slice (some ⟨w.heap.size, 0, none⟩) 2 2] (w.alloc (.cells #[.slice A1 n1 c1, .slice A2 n2 c2] 22)) (MrgPost M N w) := by
  refine (merge_gen _ 2 2 _ _ _ (crs2 h1 h2) (by simp) (by omega) 1000000 (Nat.le_refl _) ?_ ?_).mono fun e w' h => mrg_post (runs2 r1 r2) hM hN h
  · have := s1.1; have := s2.1; simp [crLists, sumL]; omega
  · intro r hr x hx
    simp [crLists] at hr
    rcases hr with rfl | rfl
    · have := s1.2 x hx; omega
    · have := s2.2 x hx; omega
theorem mrg3_any {w : World} {A1 A2 A3 : Option Addr} {n1 c1 n2 c2 n3 c3 : Nat} {l1 l2 l3 : List Chg} (h1 : Rw w A1 n1 c1 l1) (h2 : Rw w A2 n2 c2 l2) (h3 : Rw w A3 n3 c3 l3) (r1 : Run l1) (r2 : Run l2) (r3 : Run l3) (s1 : Sm l1) (s2 : Sm l2) (s3 : Sm l3) (M : List Chg) (hM : mergeL [l1, l2, l3] = M) (N : Nat) (hN : M.length = N) :
    Calls Try.prog 18 #[.slice (some ⟨w.heap.size, 0, none⟩) 3 3] (w.alloc (.cells #[.slice A1 n1 c1, .slice A2 n2 c2, .slice A3 n3 c3] 22)) (MrgPost M N w) := by
  refine (merge_gen _ 3 3 _ _ _ (crs3 h1 h2 h3) (by simp) (by omega) 1000000 (Nat.le_refl _) ?_ ?_).mono fun e w' h => mrg_post (runs3 r1 r2 r3) hM hN h
  · have := s1.1; have := s2.1; have := s3.1; simp [crLists, sumL]; omega
  · intro r hr x hx
    simp [crLists] at hr
    rcases hr with rfl | rfl | rfl
    · have := s1.2 x hx; omega
    · have := s2.2 x hx; omega
    · have := s3.2 x hx; omega
theorem mrg1_any {w : World} {A1 : Option Addr} {n1 c1 : Nat} {l1 : List Chg} (h1 : Rw w A1 n1 c1 l1) (r1 : Run l1) (s1 : Sm l1) (N : Nat) (hN : l1.length = N) :
    Calls Try.prog 18 #[.slice (some ⟨w.heap.size, 0, none⟩) 1 1] (w.alloc (.cells #[.slice A1 n1 c1] 22)) fun e w' => ∃ v, e = .returned (.tuple #[v, .int .i64 0]) ∧ OwnChs w' (w.heap.size + 1) v l1 ∧ Below w.heap.size w w' := by
  have hr : ∀ r ∈ [l1], Run r := fun r hr => by simp at hr; subst hr; exact r1
  refine (merge_gen _ 1 1 _ _ _ (crs1 h1) (by simp) (by omega) 1000000 (Nat.le_refl _) ?_ ?_).mono ?_
  · have := s1.1; simp [crLists, sumL]; omega
  · intro r hr x hx
    simp [crLists] at hr
    subst hr
    have := s1.2 x hx; omega
  · rintro e w' ⟨hb, ⟨-, v, rfl, ho⟩ | ⟨h1, -⟩⟩
    · have e1 : mergeL (crLists [(Value.slice A1 n1 c1, l1)]) = l1 := merge_one r1
      rw [e1] at ho
      exact ⟨v, rfl, by simpa using ho, (below_box _).trans (hb.mono (by simp))⟩
    · exact absurd hr h1
end Go.Proofs.Yteioopcacpihpaa

namespace Go.Proofs.Yteioopcacpihpaa
open Go.RowKit
open Go.Lib (strCells compareBytes)

/-- the block of a slice has cells of one type -/
def KindOf (w : World) (v : Value) (t : TypeId) : Prop := ∀ g, v.ownBlock = some g → ∃ cs m, w.heap[g]? = some (.cells cs t m)
theorem KindOf.lt {w : World} {v : Value} {t : TypeId} (h : KindOf w v t) {g : Nat} (hg : v.ownBlock = some g) : g < w.heap.size := by
  obtain ⟨cs, m, h1⟩ := h g hg
  exact (Array.getElem?_eq_some_iff.1 h1).1
theorem KindOf.below {w w' : World} {v : Value} {t : TypeId} (h : KindOf w v t) (hb : Below w.heap.size w w') : KindOf w' v t := fun g hg => by
  obtain ⟨cs, m, h1⟩ := h g hg
  exact ⟨cs, m, (hb.block g (h.lt hg)).trans h1⟩
theorem own_kind {w : World} {B n size : Nat} {e : TypeId} {v : Value} {xs : List Value} (h : w.ownsRow B e size v n xs) : KindOf w v e := fun g hg => by
  rcases h.2 with ⟨hv, -⟩ | ⟨g', cap, cur, hv, -, hh, -⟩
  · rw [hv] at hg; cases hg
  · rw [hv] at hg
    injection hg with hg
    have hg : g' = g := hg
    subst hg
    exact ⟨_, _, hh⟩
/-- an engine lies in block e -/
structure EngAt (w : World) (e : Nat) (lim pairs : Int) (tv rv : Value) (T : List Chg) (rs : Crs) : Prop where
  box : Box w e 86 #[.int .i64 lim, .int .i64 pairs, tv, rv]
  tab : OwnChs w 0 tv T
  run : ∃ A c, rv = .slice A rs.length c ∧ rs.length ≤ c ∧ c ≤ maxLen ∧ HasCrs w w.heap.size A rs.length rs
  offR : rv.ownBlock ≠ some e ∧ ∀ g, tv.ownBlock = some g → rv.ownBlock ≠ some g
  offC : ∀ r ∈ rs, r.1.ownBlock ≠ some e ∧ ∀ g, tv.ownBlock = some g → r.1.ownBlock ≠ some g
  oldR : ∀ g, rv.ownBlock = some g → g < w.heap.size
  oldC : ∀ r ∈ rs, ∀ g, r.1.ownBlock = some g → g < w.heap.size
  kindR : KindOf w rv 22
  kindC : ∀ r ∈ rs, KindOf w r.1 38
theorem below_al {w wx : World} {o : Obj} (h : Below w.heap.size w wx) : Below w.heap.size w (wx.alloc o) := h.alloc h.size o
theorem EngAt.below {w w' : World} {e : Nat} {lim pairs : Int} {tv rv : Value} {T : List Chg} {rs : Crs} (h : EngAt w e lim pairs tv rv T rs) (hb : Below w.heap.size w w') : EngAt w' e lim pairs tv rv T rs := by
  refine ⟨h.box.below hb h.box.lt, h.tab.below hb, ?_, h.offR, h.offC, fun g hg => Nat.lt_of_lt_of_le (h.oldR g hg) hb.size, fun r hr g hg => Nat.lt_of_lt_of_le (h.oldC r hr g hg) hb.size, h.kindR.below hb, fun r hr => (h.kindC r hr).below hb⟩
  obtain ⟨A, c, e1, h1, h2, h3⟩ := h.run
  refine ⟨A, c, e1, h1, h2, ?_⟩
  have h4 := h3.belowOf hb (Nat.le_refl _)
  exact ⟨h4.1.more hb.size, fun r hr => by
    obtain ⟨A', m, c', g1, g2, g3, g4⟩ := h4.2 r hr
    exact ⟨A', m, c', g1, g2, g3, g4.more hb.size⟩⟩
theorem EngAt.one {w : World} {e : Nat} {lim pairs : Int} {tv rv : Value} {T : List Chg} {rs : Crs} (h : EngAt w e lim pairs tv rv T rs) : ∀ r ∈ rs, r.1.oneCell' = true := fun r hr => by
  obtain ⟨A, c, -, -, -, h3⟩ := h.run
  obtain ⟨A', m, c', g1, -⟩ := h3.2 r hr
  rw [g1]
  rfl
/-- what the parts are: a row of the call's own, of the table and the runs -/
def PartsPost (tv : Value) (rs : Crs) (N : Nat) (w : World) (e : Ending) (w' : World) : Prop := ∃ v, e = .returned v ∧ w'.ownsRow w.heap.size 22 1 v N (tv :: crCells rs) ∧ Below w.heap.size w w'
set_option maxRecDepth 100000 in
set_option maxHeartbeats 3200000 in
theorem parts_any {w : World} {e : Nat} {lim pairs : Int} {tv rv : Value} {T : List Chg} {rs : Crs} (h : EngAt w e lim pairs tv rv T rs) (N : Nat) (hN : rs.length + 1 = N) (hm : N ≤ 10000) :
    Calls Try.prog 57 #[.pointer (some ⟨e, 0, none⟩)] w (PartsPost tv rs N w) := by
  obtain ⟨At, ct, htv, -⟩ := h.tab.slice
  have H1 := Lib.hid h.one
  have ht1 : Hid (tv.oneCell' = true) := Lib.hid (by rw [htv]; rfl)
  obtain ⟨A, c, hrv, -, -, h3⟩ := h.run
  subst hrv
  have Hr := Lib.hid h3
  have Hbx := Lib.hid h.box
  have e2 := h.box.cell 2
  have e3 := h.box.cell 3
  have HN := Lib.hid hN
  clear h h3
  obtain ⟨m, hm2⟩ : ∃ m, rs.length = m := ⟨_, rfl⟩
  rw [hm2] at Hr HN e3
  have hmm : m ≤ 9999 := by have := HN.out; omega
  simp at e2 e3
  subst htv
  have e2a : ∀ o, (w.alloc o).cell? ⟨e, 2, none⟩ = some (.slice At T.length ct) := fun o => (World.cell?_alloc_lt w o _ Hbx.out.lt).trans e2
  have e3a : ∀ o, (w.alloc o).cell? ⟨e, 3, none⟩ = some (.slice A m c) := fun o => (World.cell?_alloc_lt w o _ Hbx.out.lt).trans e3
  have Hc : Hid (∀ wx, wx = ((w.alloc (.cells #[.slice At T.length ct] 22)).alloc (.cells #[.slice (some ⟨w.heap.size, 0, none⟩) 1 1, .slice A m c] 29)).drew → Calls Try.prog 84 #[.slice (some ⟨w.heap.size + 1, 0, none⟩) 2 2] wx (PartsPost (.slice At T.length ct) rs N w)) := Lib.hid fun wx hx => by
    have hb : Below w.heap.size w wx := by rw [hx]; exact ((below_box _).alloc (by simp) _).drew
    refine (concat_any (w.heap.size + 1) w.heap.size (.slice At T.length ct) A m c rs wx ((Hr.out.1.belowOf hb (Nat.le_refl _)).more hb.size) H1.out ht1.out (by omega) ?_ ?_).mono ?_
    · rw [hx]
      have h1 := heap_alloc_new (w.alloc (.cells #[.slice At T.length ct] 22)) (.cells #[.slice (some ⟨w.heap.size, 0, none⟩) 1 1, .slice A m c] 29)
      rw [World.size_alloc] at h1
      exact h1
    · rw [hx]
      exact ((Box.made w 22 #[.slice At T.length ct]).alloc _)
    · rintro e w' ⟨v, rfl, ho, hb'⟩
      exact ⟨v, rfl, by rw [← HN.out]; exact own_baseN ho hb.size, hb.trans (hb'.mono hb.size)⟩
  clear hm2 hN hm
  go_enter Try.func57, Try.ntmps57
  go_wp2
  go_region_with (first | (go_at_call 84; refine (Hc.out _ rfl).mono ?_; rintro e' w' ⟨v, rfl, ho, hb⟩))
  all_goals
    have Hend := Lib.hid (And.intro ho hb)
    clear ho hb
    go_wp2
    go_ret
    exact ⟨v, rfl, Hend.out.1, Hend.out.2⟩
end Go.Proofs.Yteioopcacpihpaa

namespace Go.Proofs.Yteioopcacpihpaa
open Go.RowKit
open Go.Lib (strCells compareBytes)

theorem cmpK_of {a b : Chg} : (a.kb < b.kb ∧ cmpK a b = -1) ∨ (a.kb = b.kb ∧ cmpK a b = 0) ∨ (b.kb < a.kb ∧ cmpK a b = 1) := by
  unfold cmpK
  rcases cmpB_cases a.kb b.kb with h | h | h
  · refine .inl ⟨?_, h⟩
    have := bytesLess_cmp a.kb b.kb
    rw [bytesLess_lt, h] at this
    simpa using this
  · exact .inr (.inl ⟨cmpB_zero h, h⟩)
  · refine .inr (.inr ⟨?_, h⟩)
    have := bytesLess_cmp b.kb a.kb
    rw [bytesLess_lt, cmpB_neg, h] at this
    simpa using this
theorem take_lt {l : List Chg} {m : Nat} {y : Chg} {key : List UInt8} (hr : Run l) (hy : l[m]? = some y) (h : y.kb < key) : ∀ x ∈ l.take (m + 1), x.kb < key := by
  have hs := (hr.take (m + 1)).2
  rw [take_snocC hy] at hs ⊢
  intro x hx
  rcases List.mem_append.1 hx with hx | hx
  · exact List.lt_trans ((srt_snoc.1 hs).2 x hx) h
  · simp at hx; subst hx; exact h
theorem drop_ge {l : List Chg} {m : Nat} {y : Chg} {key : List UInt8} (hr : Run l) (hy : l[m]? = some y) (h : ¬ y.kb < key) : ∀ x ∈ l.drop m, ¬ x.kb < key := by
  have hm := (List.getElem?_eq_some_iff.1 hy).1
  have e : l.drop m = y :: l.drop (m + 1) := by
    rw [List.drop_eq_getElem_cons hm]
    rw [List.getElem?_eq_getElem hm] at hy
    injection hy with hy
    rw [hy]
  have hs := (hr.drop m).2
  rw [e] at hs ⊢
  intro x hx
  rcases List.mem_cons.1 hx with rfl | hx
  · exact h
  · exact fun h2 => h (List.lt_trans ((List.pairwise_cons.1 hs).1 x hx) h2)
theorem look_gap {l : List Chg} {i : Nat} {key : List UInt8} (hr : Run l) (h1 : ∀ x ∈ l.take i, x.kb < key) (h2 : ∀ x ∈ l.drop i, ¬ x.kb < key) (h3 : ∀ c, l[i]? = some c → c.kb ≠ key) : look key l = none := by
  refine look_none.2 fun c hc => ?_
  rw [← List.take_append_drop i l] at hc
  rcases List.mem_append.1 hc with hc | hc
  · intro e
    have := h1 c hc
    rw [e] at this
    exact lt_irr _ this
  · cases hi : l[i]? with
    | none =>
      rw [List.drop_of_length_le (by rw [List.getElem?_eq_none_iff] at hi; exact hi)] at hc
      simp at hc
    | some y =>
      have hm := (List.getElem?_eq_some_iff.1 hi).1
      have e : l.drop i = y :: l.drop (i + 1) := by
        rw [List.drop_eq_getElem_cons hm]
        rw [List.getElem?_eq_getElem hm] at hi
        injection hi with hi
        rw [hi]
      have hs := (hr.drop i).2
      rw [e] at hs hc h2
      have hy := h3 y hi
      have hylt : key < y.kb := by
        rcases lt_tri key y.kb with h | h | h
        · exact h
        · exact absurd h.symm hy
        · exact absurd h (h2 y (by simp))
      rcases List.mem_cons.1 hc with rfl | hc
      · exact hy
      · intro e2
        have := List.lt_trans hylt ((List.pairwise_cons.1 hs).1 c hc)
        rw [e2] at this
        exact lt_irr _ this
end Go.Proofs.Yteioopcacpihpaa

namespace Go.Proofs.Yteioopcacpihpaa
open Go.RowKit
open Go.Lib (strCells compareBytes)

theorem placeC_any (c : Chg) (key : ByteArray) (w : World) : Calls Try.prog 94 #[cagg c, .string key] w fun e w' => e = .returned (.int .i64 (compareBytes c.kb key.data.toList)) ∧ Below w.heap.size w w' := by
  obtain ⟨ck, cv, cg⟩ := c
  unfold cagg
  go_enter Try.func94, Try.ntmps94
  go_wp2_with fail
  refine (strCompare_any _ _ _).mono ?_
  rintro e w' ⟨rfl, rfl⟩
  go_wp2
  go_ret
  exact ⟨rfl, below_box _⟩
theorem cmpB_of {a key : List UInt8} : (a < key ∧ compareBytes a key = -1) ∨ (a = key ∧ compareBytes a key = 0) ∨ (key < a ∧ compareBytes a key = 1) := by
  have := cmpK_of (a := ⟨⟨a.toArray⟩, ⟨#[]⟩, false⟩) (b := ⟨⟨key.toArray⟩, ⟨#[]⟩, false⟩)
  simpa [cmpK, Chg.kb] using this
/-- the place of a key: what is ahead is less, what is behind isn't; is it there? -/
def PlaceIs (l : List Chg) (key : List UInt8) (i : Nat) (f : Bool) : Prop :=
  i ≤ l.length ∧ (∀ x ∈ l.take i, x.kb < key) ∧ (∀ x ∈ l.drop i, ¬ x.kb < key) ∧ (f = true → ∃ c, l[i]? = some c ∧ c.kb = key) ∧ (f = false → ∀ c, l[i]? = some c → c.kb ≠ key)
def PlacePost (l : List Chg) (key : List UInt8) (w : World) (e : Ending) (w' : World) : Prop :=
  ∃ (i : Nat) (f : Bool), e = .returned (.tuple #[.int .i64 (i : Int), .bool f]) ∧ Below w.heap.size w w' ∧ PlaceIs l key i f
set_option maxRecDepth 100000 in
set_option maxHeartbeats 3200000 in
theorem bsearch_any (A : Option Addr) (n ca C : Nat) (l : List Chg) (key : ByteArray) (w : World) (h : HasChs w C A n l) (hC : C ≤ w.heap.size) (hn : n ≤ 1000000) (hr : Run l) :
    Calls Try.prog 93 #[.slice A n ca, .string key, .func (.func 94) #[] #[]] w (PlacePost l key.data.toList w) := by
  have H := Lib.hid h
  have HC := Lib.hid hC
  have Hl := Lib.hid h.1
  have Hr := Lib.hid hr
  have Hcall := Lib.hid (fun x wx => placeC_any x key wx)
  unfold cagg at Hcall
  clear h hC hr
  go_enter Try.func93, Try.ntmps93
  go_wp2
  go_loopw [9, 10, 11] (fun iv jv _ wr => ∃ i j : Nat, i ≤ j ∧ j ≤ n ∧ iv = .int .i64 (i : Int) ∧ jv = .int .i64 (j : Int) ∧ Hid ((∀ x ∈ l.take i, x.kb < key.data.toList) ∧ ∀ x ∈ l.drop j, ¬ x.kb < key.data.toList) ∧ Below w.heap.size w wr) (fun iv jv _ _ => (intOf jv - intOf iv).toNat)
  case atStart => exact ⟨0, n, by omega, by omega, rfl, rfl, Lib.hid ⟨by simp, by rw [List.drop_of_length_le (by have := Hl.out; omega)]; simp⟩, Below.refl _ _⟩
  case round =>
    obtain ⟨i, j, hij, hjn, rfl, rfl, Hp, hb⟩ := hrel
    have Hb := Lib.hid hb
    have hsz := hb.size
    clear hb
    by_cases hlt : i < j
    · obtain ⟨m, hm⟩ : ∃ m, (i + j) / 2 = m := ⟨_, rfl⟩
      obtain ⟨a, y, rfl, hab, hy, c0, c1, c2⟩ := (H.out.belowOf Hb.out HC.out).at_ (i := m) (by omega)
      have Hy := Lib.hid hy
      obtain ⟨yk, yv, yg⟩ := y
      simp only at c0 c1 c2
      have hmi : ((i : Int) + (j : Int)) / 2 = (m : Int) := by omega
      have hm0 : (0 : Int) ≤ (m : Int) := by omega
      have hm1 : (m : Int) < (n : Int) := by omega
      have hmij : i ≤ m ∧ m < j := by omega
      clear hy hm hab
      have Hcall1 := Lib.hid (fun wx => Hcall.out ⟨yk, yv, yg⟩ wx)
      have Hc3 := Lib.hid (cmpB_of (a := (⟨yk, yv, yg⟩ : Chg).kb) (key := key.data.toList))
      obtain ⟨z, hz⟩ : ∃ z, compareBytes (⟨yk, yv, yg⟩ : Chg).kb key.data.toList = z := ⟨_, rfl⟩
      rw [hz] at Hc3
      simp only [hz] at Hcall1
      clear hz
      by_cases hz : z < 0
      · have Hp1 : Hid ((∀ x ∈ l.take (m + 1), x.kb < key.data.toList) ∧ ∀ x ∈ l.drop j, ¬ x.kb < key.data.toList) := Lib.hid ⟨by
          have hyk : (⟨yk, yv, yg⟩ : Chg).kb < key.data.toList := by
            rcases Hc3.out with ⟨h, _⟩ | ⟨_, h⟩ | ⟨_, h⟩
            · exact h
            · omega
            · omega
          exact take_lt Hr.out Hy.out hyk, Hp.out.2⟩
        have hzb : decide (z < 0) = true := decide_eq_true hz
        go_wp2_with fail
        refine (Hcall1.out _).mono ?_
        rintro e w2 ⟨rfl, hb2⟩
        have Hb2 := Lib.hid (Hb.out.trans (hb2.mono hsz))
        clear hb2
        go_wp2
        go_roundw
        case rel => exact ⟨m + 1, j, by omega, by omega, by go_num, rfl, Hp1, Hb2.out⟩
        case measure => simp [intOf]; omega
      · have Hp1 : Hid ((∀ x ∈ l.take i, x.kb < key.data.toList) ∧ ∀ x ∈ l.drop m, ¬ x.kb < key.data.toList) := Lib.hid ⟨Hp.out.1, by
          have hyk : ¬ (⟨yk, yv, yg⟩ : Chg).kb < key.data.toList := by
            rcases Hc3.out with ⟨_, h⟩ | ⟨h, _⟩ | ⟨h, _⟩
            · omega
            · rw [h]; exact lt_irr _
            · exact lt_asymm' h
          exact drop_ge Hr.out Hy.out hyk⟩
        have hz0 : 0 ≤ z := by omega
        have hzb : decide (z < 0) = false := decide_eq_false (by omega)
        go_wp2_with fail
        refine (Hcall1.out _).mono ?_
        rintro e w2 ⟨rfl, hb2⟩
        have Hb2 := Lib.hid (Hb.out.trans (hb2.mono hsz))
        clear hb2
        go_wp2
        try any_goals (exfalso; omega)
        go_roundw
        case rel => exact ⟨i, m, by omega, by omega, rfl, rfl, Hp1, Hb2.out⟩
        case measure => simp [intOf]; omega
    · obtain rfl : i = j := by omega
      by_cases hin : i < n
      · obtain ⟨a, y, rfl, hab, hy, c0, c1, c2⟩ := (H.out.belowOf Hb.out HC.out).at_ hin
        have Hy := Lib.hid hy
        obtain ⟨yk, yv, yg⟩ := y
        simp only at c0 c1 c2
        have hm0 : (0 : Int) ≤ (i : Int) := by omega
        have hm1 : (i : Int) < (n : Int) := by omega
        clear hy hab
        have Hcall1 := Lib.hid (fun wx => Hcall.out ⟨yk, yv, yg⟩ wx)
        have Hc3 := Lib.hid (cmpB_of (a := (⟨yk, yv, yg⟩ : Chg).kb) (key := key.data.toList))
        obtain ⟨z, hz⟩ : ∃ z, compareBytes (⟨yk, yv, yg⟩ : Chg).kb key.data.toList = z := ⟨_, rfl⟩
        rw [hz] at Hc3
        simp only [hz] at Hcall1
        clear hz
        by_cases hz : z = 0
        · subst hz
          have HE : Hid (PlaceIs l key.data.toList i true) := Lib.hid ⟨by have := Hl.out; omega, Hp.out.1, Hp.out.2, fun _ => ⟨_, Hy.out, by
              rcases Hc3.out with ⟨_, h⟩ | ⟨h, _⟩ | ⟨_, h⟩
              · exact absurd h (by decide)
              · exact h
              · exact absurd h (by decide)⟩, by simp⟩
          go_wp2_with fail
          refine (Hcall1.out _).mono ?_
          rintro e w2 ⟨rfl, hb2⟩
          have Hb2 := Lib.hid (Hb.out.trans (hb2.mono hsz))
          clear hb2
          go_wp2
          go_ret2
          exact ⟨i, true, rfl, Hb2.out, HE.out⟩
        · have hzb : (z == 0) = false := by simpa using hz
          have HE : Hid (PlaceIs l key.data.toList i false) := Lib.hid ⟨by have := Hl.out; omega, Hp.out.1, Hp.out.2, by simp, fun _ c hc => by
            rw [Hy.out] at hc
            injection hc with hc
            subst hc
            rcases Hc3.out with ⟨h, _⟩ | ⟨_, h⟩ | ⟨h, _⟩
            · intro e; rw [e] at h; exact lt_irr _ h
            · exact absurd h hz
            · intro e; rw [e] at h; exact lt_irr _ h⟩
          clear hz
          go_wp2_with fail
          refine (Hcall1.out _).mono ?_
          rintro e w2 ⟨rfl, hb2⟩
          have Hb2 := Lib.hid (Hb.out.trans (hb2.mono hsz))
          clear hb2
          go_wp2
          go_ret2
          exact ⟨i, false, rfl, Hb2.out, HE.out⟩
      · have HE : Hid (PlaceIs l key.data.toList i false) := Lib.hid ⟨by have := Hl.out; omega, Hp.out.1, Hp.out.2, by simp, fun _ c hc => by
          have := (List.getElem?_eq_some_iff.1 hc).1
          have := Hl.out
          omega⟩
        obtain rfl : i = n := by omega
        go_wp2
        go_ret2
        exact ⟨i, false, rfl, Hb.out, HE.out⟩
set_option maxRecDepth 100000 in
theorem place_any (A : Option Addr) (n ca C : Nat) (l : List Chg) (key : ByteArray) (w : World) (h : HasChs w C A n l) (hC : C ≤ w.heap.size) (hn : n ≤ 1000000) (hr : Run l) :
    Calls Try.prog 70 #[.slice A n ca, .string key] w (PlacePost l key.data.toList w) := by
  have Hc := Lib.hid (bsearch_any A n ca C l key w h hC hn hr)
  clear h hC hn hr
  go_enter Try.func70, Try.ntmps70
  go_wp2_with fail
  refine Hc.out.mono ?_
  rintro e w2 ⟨i, f, rfl, hb2, hp⟩
  have HE := Lib.hid (And.intro hb2 hp)
  clear hb2 hp
  go_wp2
  go_ret2
  exact ⟨i, f, rfl, HE.out.1, HE.out.2⟩
end Go.Proofs.Yteioopcacpihpaa
