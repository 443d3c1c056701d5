/- A cursor over a range of an engine: over. Condition: the engine is in memory. -/
import Derived.Test.YteioopcacpihpaaMBchB
import Derived.Test.YteioopcacpihpaaMBchC
import Derived.Test.YteioopcacpihpaaMBchA
import Derived.BigQuiet
namespace Go.Proofs.Yteioopcacpihpaa

/-- a run without the change of a key that stands ahead in it -/
def dropK (k : List UInt8) : List Chg → List Chg
  | [] => []
  | d :: t => if d.kb = k then t else d :: t
theorem dropK_cons (k : List UInt8) (d : Chg) (t : List Chg) : dropK k (d :: t) = if d.kb = k then t else d :: t := rfl
/-- the newest list that begins with the least key -/
def LeastAt (Ls : List (List Chg)) (i : Nat) (c : Chg) : Prop :=
  (∃ t, Ls[i]? = some (c :: t)) ∧ ∀ (j : Nat) d t, Ls[j]? = some (d :: t) → ¬ d.kb < c.kb ∧ (j < i → c.kb < d.kb)
theorem run_dropK {k : List UInt8} {l : List Chg} (h : Run l) : Run (dropK k l) := by
  cases l with
  | nil => exact h
  | cons d t =>
    rw [dropK_cons]
    split
    · exact ⟨fun c hc => h.1 c (List.mem_cons_of_mem _ hc), (List.pairwise_cons.1 h.2).2⟩
    · exact h
theorem look_dropK {k q : List UInt8} {l : List Chg} (hq : k ≠ q) : look q (dropK k l) = look q l := by
  cases l with
  | nil => rfl
  | cons d t =>
    rw [dropK_cons]
    split
    · rename_i e
      rw [look_cons, if_neg (fun h => hq (e.symm.trans h))]
    · rfl
theorem above_dropK {k : List UInt8} {l : List Chg} (h : Run l) (hk : ∀ d t, l = d :: t → ¬ d.kb < k) : ∀ x ∈ dropK k l, k < x.kb := by
  cases l with
  | nil => intro x hx; simp [dropK] at hx
  | cons d t =>
    have h1 := (List.pairwise_cons.1 h.2).1
    have h2 := hk d t rfl
    rw [dropK_cons]
    split
    · rename_i e
      exact fun x hx => e ▸ h1 x hx
    · rename_i e
      have h3 : k < d.kb := by
        rcases lt_tri k d.kb with h | h | h
        · exact h
        · exact absurd h.symm e
        · exact absurd h h2
      intro x hx
      rcases List.mem_cons.1 hx with rfl | hx
      · exact h3
      · exact List.lt_trans h3 (h1 x hx)
theorem mlook_dropK {k q : List UInt8} (hq : k ≠ q) : ∀ Ls : List (List Chg), mlook q (Ls.map (dropK k)) = mlook q Ls
  | [] => rfl
  | r :: Ls => by rw [List.map_cons, mlook_cons, mlook_cons, look_dropK hq, mlook_dropK hq Ls]
theorem look_above {k : List UInt8} {l : List Chg} (h : Run l) (hk : ∀ d t, l = d :: t → k < d.kb) : look k l = none := by
  refine look_none.2 fun c hc e => ?_
  cases l with
  | nil => simp at hc
  | cons d t =>
    have h1 := hk d t rfl
    have h2 := (List.pairwise_cons.1 h.2).1
    rcases List.mem_cons.1 hc with rfl | hc
    · rw [e] at h1
      exact lt_irr _ h1
    · have := List.lt_trans h1 (h2 c hc)
      rw [e] at this
      exact lt_irr _ this
theorem mlook_least {c : Chg} : ∀ {Ls : List (List Chg)} {i : Nat}, (∀ r ∈ Ls, Run r) → LeastAt Ls i c → mlook c.kb Ls = some c
  | [], i, _, h => by obtain ⟨⟨t, h1⟩, -⟩ := h; simp at h1
  | r :: Ls, 0, hr, h => by
    obtain ⟨⟨t, h1⟩, -⟩ := h
    simp at h1
    rw [mlook_cons, h1, look_cons, if_pos rfl]
    rfl
  | r :: Ls, i + 1, hr, h => by
    obtain ⟨⟨t, h1⟩, h2⟩ := h
    rw [mlook_cons, look_above (hr r (by simp)) (fun d t' e => (h2 0 d t' (by simp [e])).2 (by omega)), Option.none_or]
    exact mlook_least (fun r hr' => hr r (by simp [hr'])) ⟨⟨t, by simpa using h1⟩, fun j d t' e => by
      obtain ⟨g1, g2⟩ := h2 (j + 1) d t' (by simpa using e)
      exact ⟨g1, fun hj => g2 (by omega)⟩⟩
/-- a step: the least change, and the merge of what is left -/
theorem merge_step {Ls : List (List Chg)} {i : Nat} {c : Chg} (hr : ∀ r ∈ Ls, Run r) (h : LeastAt Ls i c) : mergeL Ls = c :: mergeL (Ls.map (dropK c.kb)) := by
  have hr2 : ∀ r ∈ Ls.map (dropK c.kb), Run r := fun r hx => by
    obtain ⟨r0, h0, rfl⟩ := List.mem_map.1 hx
    exact run_dropK (hr r0 h0)
  have hab : ∀ x ∈ mergeL (Ls.map (dropK c.kb)), c.kb < x.kb := fun x hx => by
    obtain ⟨r, hr', hx2⟩ := merge_mem hr2 hx
    obtain ⟨r0, h0, rfl⟩ := List.mem_map.1 hr'
    refine above_dropK (hr r0 h0) (fun d t e => ?_) x hx2
    obtain ⟨j, hj⟩ := List.mem_iff_getElem?.1 h0
    exact (h.2 j d t (by rw [hj, e])).1
  have hs : Srt (c :: mergeL (Ls.map (dropK c.kb))) := List.pairwise_cons.2 ⟨hab, srt_merge _⟩
  refine srt_ext (srt_merge _) hs fun k => ?_
  rw [look_merge k hr, look_cons]
  by_cases hk : c.kb = k
  · subst hk
    rw [if_pos rfl, mlook_least hr h]
  · rw [if_neg hk, look_merge k hr2, mlook_dropK hk]
theorem merge_none {Ls : List (List Chg)} (h : ∀ r ∈ Ls, r = []) : mergeL Ls = [] := by
  induction Ls with
  | nil => rfl
  | cons r Ls ih =>
    have h1 := h r (by simp)
    have h2 := ih fun x hx => h x (by simp [hx])
    subst h1
    show overL (mergeL Ls) [] = []
    rw [h2]
    rfl
/-- what a cursor over these lists tells, one behind another -/
theorem abs_step {Ls : List (List Chg)} {i : Nat} {c : Chg} (hr : ∀ r ∈ Ls, Run r) (h : LeastAt Ls i c) : absL Ls = if c.g then absL (Ls.map (dropK c.kb)) else c :: absL (Ls.map (dropK c.kb)) := by
  unfold absL
  rw [merge_step hr h]
  unfold liveL
  rw [List.filter_cons]
  cases c.g <;> simp
theorem abs_none {Ls : List (List Chg)} (h : ∀ r ∈ Ls, r = []) : absL Ls = [] := by
  unfold absL
  rw [merge_none h]
  rfl
/-- the least among the first k lists -/
def LeastTo (Ls : List (List Chg)) (k i : Nat) (c : Chg) : Prop :=
  i < k ∧ (∃ t, Ls[i]? = some (c :: t)) ∧ ∀ (j : Nat) d t, j < k → Ls[j]? = some (d :: t) → ¬ d.kb < c.kb ∧ (j < i → c.kb < d.kb)
theorem LeastTo.at_ {Ls : List (List Chg)} {i : Nat} {c : Chg} (h : LeastTo Ls Ls.length i c) : LeastAt Ls i c :=
  ⟨h.2.1, fun j d t e => h.2.2 j d t (List.getElem?_eq_some_iff.1 e).1 e⟩
theorem LeastTo.skip {Ls : List (List Chg)} {k i : Nat} {c : Chg} (h : LeastTo Ls k i c) (e : Ls[k]? = some []) : LeastTo Ls (k + 1) i c :=
  ⟨Nat.lt_succ_of_lt h.1, h.2.1, fun j d t hj e2 => by
    rcases Nat.lt_or_ge j k with h1 | h1
    · exact h.2.2 j d t h1 e2
    · obtain rfl : j = k := by omega
      rw [e] at e2
      cases e2⟩
theorem LeastTo.first {Ls : List (List Chg)} {k : Nat} {d : Chg} {t : List Chg} (h : ∀ j, j < k → Ls[j]? = some []) (e : Ls[k]? = some (d :: t)) : LeastTo Ls (k + 1) k d :=
  ⟨Nat.lt_succ_self k, ⟨t, e⟩, fun j d' t' hj e2 => by
    rcases Nat.lt_or_ge j k with h1 | h1
    · rw [h j h1] at e2
      cases e2
    · obtain rfl : j = k := by omega
      rw [e] at e2
      injection e2 with e2
      injection e2 with e2
      subst e2
      exact ⟨lt_irr _, fun h2 => by omega⟩⟩
theorem LeastTo.new {Ls : List (List Chg)} {k i : Nat} {c d : Chg} {t : List Chg} (h : LeastTo Ls k i c) (e : Ls[k]? = some (d :: t)) (hl : d.kb < c.kb) : LeastTo Ls (k + 1) k d :=
  ⟨Nat.lt_succ_self k, ⟨t, e⟩, fun j d' t' hj e2 => by
    rcases Nat.lt_or_ge j k with h1 | h1
    · have h2 := (h.2.2 j d' t' h1 e2).1
      have h3 : d.kb < d'.kb := by
        rcases lt_tri d.kb d'.kb with h | h | h
        · exact h
        · rw [h] at hl
          exact absurd hl h2
        · exact absurd (List.lt_trans h hl) h2
      exact ⟨fun h4 => lt_asymm' h3 h4, fun _ => h3⟩
    · obtain rfl : j = k := by omega
      rw [e] at e2
      injection e2 with e2
      injection e2 with e2
      subst e2
      exact ⟨lt_irr _, fun h2 => by omega⟩⟩
theorem LeastTo.keep {Ls : List (List Chg)} {k i : Nat} {c d : Chg} {t : List Chg} (h : LeastTo Ls k i c) (e : Ls[k]? = some (d :: t)) (hl : ¬ d.kb < c.kb) : LeastTo Ls (k + 1) i c :=
  ⟨Nat.lt_succ_of_lt h.1, h.2.1, fun j d' t' hj e2 => by
    rcases Nat.lt_or_ge j k with h1 | h1
    · exact h.2.2 j d' t' h1 e2
    · obtain rfl : j = k := by omega
      rw [e] at e2
      injection e2 with e2
      injection e2 with e2
      subst e2
      exact ⟨hl, fun h2 => by have := h.1; omega⟩⟩
end Go.Proofs.Yteioopcacpihpaa

namespace Go.Proofs.Yteioopcacpihpaa
open Go.RowKit
open Go.Lib (strCells compareBytes)

/-- what a range has, by the places of its ends -/
theorem slice_from {l : List Chg} {lo : List UInt8} {i : Nat} {f : Bool} (h : PlaceIs l lo i f) : sliceL lo [] l = l.drop i := by
  obtain ⟨-, h1, h2, -⟩ := h
  unfold sliceL
  conv => lhs; rw [← List.take_append_drop i l]
  rw [List.filter_append, List.filter_eq_nil_iff.2, List.filter_eq_self.2, List.nil_append]
  · intro x hx
    simp [inR, h2 x hx]
  · intro x hx
    simp [inR, h1 x hx]
theorem slice_from_to {l : List Chg} {lo hi : List UInt8} {i j : Nat} {f g : Bool} (hne : hi ≠ []) (h : PlaceIs l lo i f) (k : PlaceIs (l.drop i) hi j g) : sliceL lo hi l = (l.drop i).take j := by
  obtain ⟨-, h1, h2, -⟩ := h
  obtain ⟨-, k1, k2, -⟩ := k
  have he : hi.isEmpty = false := by simpa using hne
  unfold sliceL
  conv => lhs; rw [← List.take_append_drop i l]
  rw [List.filter_append, List.filter_eq_nil_iff.2, List.nil_append]
  · conv => lhs; rw [← List.take_append_drop j (l.drop i)]
    rw [List.filter_append, List.filter_eq_self.2, List.filter_eq_nil_iff.2, List.append_nil]
    · intro x hx
      simp [inR, he, k2 x hx]
    · intro x hx
      simp [inR, he, k1 x hx, h2 x (List.mem_of_mem_take hx)]
  · intro x hx
    simp [inR, h1 x hx]
theorem bytes_nil {s : ByteArray} (h : s.data.toList = []) : s = ⟨#[]⟩ := by
  cases s with
  | mk d => simpa using h
/-- a part of a row: it lies in the row's block -/
def WithinPost (A : Option Addr) (C : Nat) (l : List Chg) (w : World) (e : Ending) (w' : World) : Prop :=
  Below w.heap.size w w' ∧ ∃ A' c', e = .returned (.slice A' l.length c') ∧ l.length ≤ c' ∧ c' ≤ maxLen ∧ HasChs w' C A' l.length l ∧ ∀ a, A' = some a → ∃ b, A = some b ∧ a.block = b.block
theorem part_block {A : Option Addr} {c k j : Nat} : ∀ a, (if c = k then A else A.map (·.add (k * j))) = some a → ∃ b, A = some b ∧ a.block = b.block := by
  intro a ha
  split at ha
  · exact ⟨a, ha, rfl⟩
  · cases A with
    | none => cases ha
    | some b =>
      injection ha with ha
      refine ⟨b, rfl, ?_⟩
      rw [← ha]
      unfold Addr.add
      split <;> rfl
set_option maxRecDepth 100000 in
set_option maxHeartbeats 3200000 in
theorem within_any (A : Option Addr) (n ca C : Nat) (l : List Chg) (lo hi : ByteArray) (w : World) (h : HasChs w C A n l) (hC : C ≤ w.heap.size) (hn : n ≤ 1000000) (hnc : n ≤ ca) (hcm : ca ≤ maxLen) (hr : Run l) :
    Calls Try.prog 86 #[.slice A n ca, .agg #[.string lo, .string hi]] w (WithinPost A C (sliceL lo.data.toList hi.data.toList l) w) := by
  have H := Lib.hid h
  have HC := Lib.hid hC
  have Hl := Lib.hid h.1
  have Hr := Lib.hid hr
  have HT := Lib.hid (And.intro hnc hcm)
  have hb0 := below_box (w := w) (Obj.cells #[.string lo, .string hi] 35)
  have Hp := Lib.hid (place_any A n ca C l lo _ (h.belowOf hb0 hC) (Nat.le_trans hC hb0.size) hn hr)
  unfold maxLen at hcm
  obtain ⟨R, hR⟩ : ∃ R, sliceL lo.data.toList hi.data.toList l = R := ⟨_, rfl⟩
  have HR := Lib.hid hR
  rw [hR]
  clear h hC hr hb0 hR
  go_enter Try.func86, Try.ntmps86
  go_wp2_with fail
  refine Hp.out.mono ?_
  rintro e w1 ⟨i, f, rfl, hb1, hi1⟩
  have Hb1 : Hid (Below (w.heap.size + 1) (w.alloc (.cells #[.string lo, .string hi] 35)) w1) := Lib.hid (by simpa using hb1)
  have hsz : w.heap.size + 1 ≤ w1.heap.size := by have := hb1.size; simpa using this
  have HI := Lib.hid hi1
  have hin : i ≤ n := by have := hi1.1; have := Hl.out; omega
  have hbx := (Box.made w 35 #[.string lo, .string hi]).below Hb1.out (by simp)
  have q1 := hbx.cell 1
  have hpart : HasChs w1 C (if ca = i then A else A.map (·.add (i * 3))) (n - i) (l.drop i) := ⟨by rw [List.length_drop, Hl.out], (H.out.belowOf (below_in Hb1.out HC.out) (Nat.le_refl _)).cut hin HT.out.1⟩
  have hblk := part_block (A := A) (c := ca) (k := i) (j := 3)
  obtain ⟨A', hA⟩ : ∃ A', (if ca = i then A else A.map (·.add (i * 3))) = A' := ⟨_, rfl⟩
  rw [hA] at hpart hblk
  have HP := Lib.hid hpart
  have HB := Lib.hid hblk
  clear hb1 hi1 hbx hpart hblk Hp
  by_cases hh : hi = ⟨#[]⟩
  · subst hh
    obtain rfl : R = l.drop i := HR.out.symm.trans (slice_from HI.out)
    have HL : Hid ((l.drop i).length = n - i) := Lib.hid HP.out.1
    clear HI
    go_wp2
    go_ret
    exact ⟨below_in Hb1.out (Nat.le_refl _), A', ca - i, by rw [HL.out]; rfl, by rw [HL.out]; omega, by unfold maxLen; omega, by rw [HL.out]; exact HP.out, HB.out⟩
  · have hne : hi.data.toList ≠ [] := fun e => hh (bytes_nil e)
    have Hp2 := Lib.hid (place_any A' (n - i) (ca - i) C (l.drop i) hi w1 HP.out (by have := HC.out; omega) (by omega) (Hr.out.drop i))
    have Hne := Lib.hid hne
    have hh2 : hi.toList.isEmpty = false := by rw [ByteArray.toList_eq]; simpa using hne
    clear hne
    go_wp2_with fail
    refine Hp2.out.mono ?_
    rintro e w2 ⟨j, g, rfl, hb2, hj⟩
    obtain rfl : R = (l.drop i).take j := HR.out.symm.trans (slice_from_to Hne.out HI.out hj)
    have hjn : j ≤ n - i := by have := hj.1; have := HP.out.1; omega
    have HL : Hid (((l.drop i).take j).length = j) := Lib.hid (by rw [List.length_take, HP.out.1]; omega)
    have Hb2 := Lib.hid (Hb1.out.trans (hb2.mono hsz))
    have HP2 := Lib.hid ((HP.out.belowOf hb2 (by have := HC.out; omega)).head hjn)
    clear hb2 hj HI Hp2
    go_wp2
    go_ret
    exact ⟨below_in Hb2.out (Nat.le_refl _), A', ca - i, by rw [HL.out]; rfl, by rw [HL.out]; omega, by unfold maxLen; omega, by rw [HL.out]; exact HP2.out, HB.out⟩
end Go.Proofs.Yteioopcacpihpaa

namespace Go.Proofs.Yteioopcacpihpaa
open Go.RowKit
open Go.Lib (strCells compareBytes)

/-- a cursor: its own block c, its own row v of lists, each list somewhere else -/
structure CurAt (w : World) (c : Nat) (v : Value) (rs : Crs) : Prop where
  box : Box w c 92 #[v]
  row : w.ownsRow 0 22 1 v rs.length (crCells rs)
  off : v.ownBlock ≠ some c
  part : ∀ r ∈ rs, ∃ A m k, r.1 = .slice A m k ∧ m ≤ k ∧ k ≤ maxLen ∧ HasChs w w.heap.size A m r.2
  offC : ∀ r ∈ rs, r.1.ownBlock ≠ some c ∧ ∀ g, v.ownBlock = some g → r.1.ownBlock ≠ some g
  old : ∀ r ∈ rs, ∀ g, r.1.ownBlock = some g → g < w.heap.size
theorem CurAt.crs {w : World} {c : Nat} {v : Value} {rs : Crs} (h : CurAt w c v rs) : ∃ A k, v = .slice A rs.length k ∧ rs.length ≤ k ∧ k ≤ maxLen ∧ HasCrs w w.heap.size A rs.length rs := by
  obtain ⟨A, k, e, h1, h2, h3⟩ := own_sliceN h.row
  exact ⟨A, k, e, h1, h2, by simpa using h3, h.part⟩
def LeastPost (Ls : List (List Chg)) (w : World) (e : Ending) (w' : World) : Prop :=
  Below w.heap.size w w' ∧ ((e = .returned (.int .i64 (-1)) ∧ ∀ r ∈ Ls, r = []) ∨ ∃ (i : Nat) (ch : Chg), e = .returned (.int .i64 (i : Int)) ∧ i < Ls.length ∧ LeastAt Ls i ch)
def LeastInv (Ls : List (List Chg)) (k : Nat) (av : Value) : Prop :=
  (av = .int .i64 (-1) ∧ ∀ j, j < k → Ls[j]? = some []) ∨ ∃ (i : Nat) (ch : Chg), av = .int .i64 (i : Int) ∧ LeastTo Ls k i ch
theorem key_less {a b : ByteArray} : Op.bytesLess a.toList b.toList = decide (a.data.toList < b.data.toList) := by
  simp only [ByteArray.toList_eq, bytesLess_lt]
set_option maxRecDepth 100000 in
set_option maxHeartbeats 3200000 in
theorem least_any {w : World} {c : Nat} {v : Value} {rs : Crs} (h : CurAt w c v rs) (hN : rs.length ≤ 100000) :
    Calls Try.prog 87 #[.pointer (some ⟨c, 0, none⟩)] w (LeastPost (crLists rs) w) := by
  obtain ⟨A, k0, rfl, hk0, hk1, hx⟩ := h.crs
  have HX := Lib.hid hx
  have HB := Lib.hid h.box
  have hlen : (crLists rs).length = rs.length := crLists_len rs
  obtain ⟨N, hNN⟩ : ∃ N, rs.length = N := ⟨_, rfl⟩
  obtain ⟨Ls, hLs⟩ : ∃ Ls, crLists rs = Ls := ⟨_, rfl⟩
  rw [hLs, hNN] at hlen
  have HL := Lib.hid hlen
  have HLs := Lib.hid hLs
  have c0 := h.box.cell 0
  rw [hNN] at HX HB hN
  rw [hLs]
  simp only [hNN] at c0
  clear h hx hlen hNN hLs hk0 hk1
  go_enter Try.func87, Try.ntmps87
  go_wp2
  go_loopw [3, 4, 5, 11] (fun av _ _ iv wr => ∃ (k : Nat) (u : Value), u = av ∧ k ≤ N ∧ iv = .int .i64 (k : Int) ∧ Hid (LeastInv Ls k u) ∧ Below w.heap.size w wr) (fun _ _ _ iv _ => N - (intOf iv).toNat)
  case atStart => exact ⟨0, _, rfl, by omega, rfl, Lib.hid (.inl ⟨rfl, fun j hj => by omega⟩), Below.refl _ _⟩
  case round =>
    obtain ⟨k, av, hu, hk, rfl, Hi, hb⟩ := hrel
    subst hu
    have Hb := Lib.hid hb
    have b0 := (HB.out.below hb HB.out.lt).cell 0
    clear hb c0
    by_cases hlt : k < N
    · obtain ⟨a, A1, m1, c1, l, rfl, hab, hg, h1, h2, h3, d0, -⟩ := (HX.out.belowOf Hb.out (Nat.le_refl _)).at_ hlt
      rw [HLs.out] at hg
      have Hg := Lib.hid hg
      have hll := h3.1
      have hk0 : (0 : Int) ≤ (k : Int) := by omega
      have hk1 : (k : Int) < (N : Int) := by omega
      by_cases hm1 : m1 = 0
      · subst hm1
        obtain rfl := List.eq_nil_of_length_eq_zero hll
        have Hn : Hid (LeastInv Ls (k + 1) av) := Lib.hid (by
          rcases Hi.out with ⟨e1, e2⟩ | ⟨i, ch, e1, e2⟩
          · refine .inl ⟨e1, fun j hj => ?_⟩
            rcases Nat.lt_or_ge j k with h4 | h4
            · exact e2 j h4
            · obtain rfl : j = k := by omega
              exact Hg.out
          · exact .inr ⟨i, ch, e1, e2.skip Hg.out⟩)
        clear h1 h2 h3 hg hll Hi
        go_wp2
        go_quiet (fail)
        go_wp2
        go_roundw
        case rel => exact ⟨k + 1, _, rfl, by omega, by go_num, Hn, below_dr Hb.out _⟩
        case measure => simp [intOf]; omega
      · obtain ⟨a1, y, rfl, hab1, hy, e0, -, -⟩ := h3.at_ (i := 0) (by omega)
        have ea : a1.add (0 * 3) = a1 := by simp [Addr.add]
        rw [ea] at e0
        have hlt1 : l = y :: l.tail := by
          cases l with
          | nil => simp at hy
          | cons d t => simp at hy; subst hy; rfl
        have Hy : Hid (Ls[k]? = some (y :: l.tail)) := Lib.hid (by rw [Hg.out, ← hlt1])
        have hm0 : (0 : Int) < (m1 : Int) := by omega
        have hmd : decide (0 < m1) = true := decide_eq_true (by omega)
        clear hll hlt1 h3 hg hy ea
        rcases Hi.out with ⟨rfl, e2⟩ | ⟨i, ch, rfl, e2⟩
        · have Hn : Hid (LeastInv Ls (k + 1) (.int .i64 (k : Int))) := Lib.hid (.inr ⟨k, y, rfl, LeastTo.first e2 Hy.out⟩)
          clear e2 Hi h1 h2
          go_wp2
          go_quiet (fail)
          go_wp2
          go_roundw
          case rel => exact ⟨k + 1, _, rfl, by omega, by go_num, Hn, below_dr Hb.out _⟩
          case measure => simp [intOf]; omega
        · have hi : i < N := by have := e2.1; omega
          obtain ⟨a', A2, m2, c2, l2, ea', -, hg2, -, -, h4, d2, -⟩ := (HX.out.belowOf Hb.out (Nat.le_refl _)).at_ hi
          injection ea' with ea'
          subst ea'
          rw [HLs.out] at hg2
          obtain ⟨t2, ht2⟩ := e2.2.1
          rw [hg2] at ht2
          injection ht2 with ht2
          subst ht2
          have hm2 : 0 < m2 := by rw [← h4.1]; simp
          obtain ⟨a2, z, rfl, hab2, hz, f0, -, -⟩ := h4.at_ (i := 0) hm2
          simp at hz
          subst hz
          have ea : a2.add (0 * 3) = a2 := by simp [Addr.add]
          rw [ea] at f0
          have hm20 : (0 : Int) < (m2 : Int) := by omega
          have hi0 : (0 : Int) ≤ (i : Int) := by omega
          have hid : decide ((i : Int) < 0) = false := decide_eq_false (by omega)
          have hi1 : (i : Int) < (N : Int) := by omega
          have E2 := Lib.hid e2
          clear e2 Hi h1 h2 h4 hg2 ea
          by_cases hl : y.kb < ch.kb
          · have hd : Op.bytesLess y.k.toList ch.k.toList = true := by rw [key_less]; exact decide_eq_true hl
            have Hn : Hid (LeastInv Ls (k + 1) (.int .i64 (k : Int))) := Lib.hid (.inr ⟨k, y, rfl, E2.out.new Hy.out hl⟩)
            clear hl E2
            go_wp2
            go_quiet (fail)
            go_wp2
            go_roundw
            case rel => exact ⟨k + 1, _, rfl, by omega, by go_num, Hn, below_dr Hb.out _⟩
            case measure => simp [intOf]; omega
          · have hd : Op.bytesLess y.k.toList ch.k.toList = false := by rw [key_less]; exact decide_eq_false hl
            have Hn : Hid (LeastInv Ls (k + 1) (.int .i64 (i : Int))) := Lib.hid (.inr ⟨i, ch, rfl, E2.out.keep Hy.out hl⟩)
            clear hl E2
            go_wp2
            go_quiet (fail)
            go_wp2
            go_roundw
            case rel => exact ⟨k + 1, _, rfl, by omega, by go_num, Hn, below_dr Hb.out _⟩
            case measure => simp [intOf]; omega
    · obtain rfl : k = N := by omega
      have He : Hid ((av = .int .i64 (-1) ∧ ∀ r ∈ Ls, r = []) ∨ ∃ (i : Nat) (ch : Chg), av = .int .i64 (i : Int) ∧ i < Ls.length ∧ LeastAt Ls i ch) := Lib.hid (by
        rcases Hi.out with ⟨e1, e2⟩ | ⟨i, ch, e1, e2⟩
        · refine .inl ⟨e1, fun r hr => ?_⟩
          obtain ⟨j, hj⟩ := List.mem_iff_getElem?.1 hr
          have hjl := (List.getElem?_eq_some_iff.1 hj).1
          rw [e2 j (by have := HL.out; omega)] at hj
          injection hj with hj
          exact hj.symm
        · exact .inr ⟨i, ch, e1, by have := e2.1; have := HL.out; omega, LeastTo.at_ (by rw [HL.out]; exact e2)⟩)
      clear Hi b0
      go_wp2
      go_ret
      refine ⟨Hb.out, ?_⟩
      rcases He.out with ⟨e1, e2⟩ | ⟨i, ch, e1, e2⟩
      · exact .inl ⟨by rw [e1]; rfl, e2⟩
      · exact .inr ⟨i, ch, by rw [e1]; rfl, e2⟩
end Go.Proofs.Yteioopcacpihpaa

namespace Go.Proofs.Yteioopcacpihpaa
open Go.RowKit
open Go.Lib (strCells compareBytes)

theorem CurAt.frm {S : Nat → Prop} {w w1 : World} {c : Nat} {v : Value} {rs : Crs} (h : CurAt w c v rs) (hf : Frm S w w1) (hc : ¬ S c) (hv : ∀ g, v.ownBlock = some g → ¬ S g) (hr : ∀ r ∈ rs, ∀ g, r.1.ownBlock = some g → ¬ S g) : CurAt w1 c v rs := by
  refine ⟨h.box.frm hf hc, ?_, h.off, fun r hr' => ?_, h.offC, fun r hr' g hg => Nat.lt_of_lt_of_le (h.old r hr' g hg) hf.size⟩
  · refine ⟨h.row.1, ?_⟩
    rcases h.row.2 with hn | ⟨g, cap, cur, hv', hB, hg, rest⟩
    · exact .inl hn
    · exact .inr ⟨g, cap, cur, hv', hB, (hf.block g (Array.getElem?_eq_some_iff.1 hg).1 (hv g (by rw [hv']; rfl))).trans hg, rest⟩
  · obtain ⟨A, m, k, e, h1, h2, h3⟩ := h.part r hr'
    exact ⟨A, m, k, e, h1, h2, chs_frm h3 hf fun a ea => hr r hr' _ (by rw [e, ea]; rfl)⟩
theorem CurAt.below {w w' : World} {c : Nat} {v : Value} {rs : Crs} (h : CurAt w c v rs) (hb : Below w.heap.size w w') : CurAt w' c v rs :=
  h.frm (S := fun _ => False) (Frm.of hb) (fun h => h) (fun _ _ h => h) fun _ _ _ _ h => h
/-- a store into a row of lists of the call's own -/
theorem crs_store {w : World} {B m c i : Nat} {A : Option Addr} {xs : List Value} (h : w.ownsRow B 22 1 (.slice A m c) m xs) (hi : i < m) (u : Value) :
    ∃ g, A = some ⟨g, 0, none⟩ ∧ B ≤ g ∧ g < w.heap.size ∧ (∃ o, w.cell? ⟨g, i, none⟩ = some o) ∧ w.frozen? ⟨g, i, none⟩ = false ∧ (w.setCell ⟨g, i, none⟩ u).ownsRow B 22 1 (.slice A m c) m (xs.set i u) := by
  obtain ⟨g, rfl, hBg⟩ : ∃ g, A = some ⟨g, 0, none⟩ ∧ B ≤ g := by
    rcases h.2 with ⟨hv, -⟩ | ⟨g, cap, cur, hv, hB, -⟩
    · injection hv with _ hv
      omega
    · injection hv with hv
      exact ⟨g, hv, hB⟩
  have hl := h.1
  exact ⟨g, rfl, hBg, (h.lt g rfl).2, ⟨_, (h.cellAt i (by omega)).trans (List.getElem?_eq_getElem (by omega))⟩, h.frozenAt _, (h.stored i u).1⟩
theorem set_left {f : List Chg → List Chg} {Ls : List (List Chg)} {k : Nat} {l : List Chg} (h : Ls[k]? = some l) : ((Ls.take k).map f ++ Ls.drop k).set k (f l) = (Ls.take (k + 1)).map f ++ Ls.drop (k + 1) := by
  have hk := (List.getElem?_eq_some_iff.1 h).1
  have e : Ls.drop k = l :: Ls.drop (k + 1) := by
    rw [List.drop_eq_getElem_cons hk]
    rw [List.getElem?_eq_getElem hk] at h
    injection h with h
    rw [h]
  have hl : ((Ls.take k).map f).length = k := by rw [List.length_map, List.length_take]; omega
  rw [List.set_append_right _ _ (by omega), hl, Nat.sub_self, e, List.set_cons_zero, List.take_add_one, h, List.map_append]
  simp
theorem set_same {f : List Chg → List Chg} {Ls : List (List Chg)} {k : Nat} {l : List Chg} (h : Ls[k]? = some l) (hf : f l = l) : (Ls.take k).map f ++ Ls.drop k = (Ls.take (k + 1)).map f ++ Ls.drop (k + 1) := by
  have hk := (List.getElem?_eq_some_iff.1 h).1
  have e : Ls.drop k = l :: Ls.drop (k + 1) := by
    rw [List.drop_eq_getElem_cons hk]
    rw [List.getElem?_eq_getElem hk] at h
    injection h with h
    rw [h]
  rw [e, List.take_add_one, h, List.map_append]
  simp [hf]
/-- a list of the cursor's is put in another's place -/
theorem CurAt.set {w : World} {c m m1 k1 i : Nat} {A A1 : Option Addr} {k0 : Nat} {rs : Crs} {l : List Chg} (h : CurAt w c (.slice A m k0) rs) (hm : rs.length = m) (hi : i < m) (h1 : m1 ≤ k1) (h2 : k1 ≤ maxLen) (h3 : HasChs w w.heap.size A1 m1 l)
    (ho : ∀ a, A1 = some a → a.block ≠ c ∧ a.block < w.heap.size ∧ ∀ g, (Value.slice A m k0).ownBlock = some g → g ≠ a.block) :
    ∃ g, A = some ⟨g, 0, none⟩ ∧ (∃ o, w.cell? ⟨g, i, none⟩ = some o) ∧ w.frozen? ⟨g, i, none⟩ = false ∧ CurAt (w.setCell ⟨g, i, none⟩ (.slice A1 m1 k1)) c (.slice A m k0) (rs.set i (.slice A1 m1 k1, l)) ∧ Frm (fun j => j = g) w (w.setCell ⟨g, i, none⟩ (.slice A1 m1 k1)) := by
  subst hm
  obtain ⟨g, rfl, -, hlt, he, hf, hst⟩ := crs_store h.row hi (.slice A1 m1 k1)
  have hF : Frm (fun j => j = g) w (w.setCell ⟨g, i, none⟩ (.slice A1 m1 k1)) := Frm.set (S := fun j => j = g) (Frm.refl _ _) (.inl rfl) _
  have hgc : g ≠ c := fun e => h.off (by rw [e]; rfl)
  have hB := h.box.frm hF (fun e => hgc e.symm)
  refine ⟨g, rfl, he, hf, ⟨hB, ?_, h.off, fun r hr => ?_, fun r hr => ?_, fun r hr q hq => ?_⟩, hF⟩
  · have e1 : crCells (rs.set i (.slice A1 m1 k1, l)) = (crCells rs).set i (.slice A1 m1 k1) := by simp [crCells, List.map_set]
    rw [e1, List.length_set]
    exact hst
  · rcases List.mem_or_eq_of_mem_set hr with hr | rfl
    · obtain ⟨A', m', k', e, g1, g2, g3⟩ := h.part r hr
      exact ⟨A', m', k', e, g1, g2, chs_frm g3 hF fun a ea e2 => (h.offC r hr).2 g rfl (by rw [e, ea, ← e2]; rfl)⟩
    · exact ⟨A1, m1, k1, rfl, h1, h2, chs_frm h3 hF fun a ea e2 => (ho a ea).2.2 g rfl e2.symm⟩
  · rcases List.mem_or_eq_of_mem_set hr with hr | rfl
    · exact h.offC r hr
    · refine ⟨fun e => ?_, fun g' hg e => ?_⟩
      · cases A1 with
        | none => cases e
        | some a => injection e with e; exact (ho a rfl).1 e
      · cases A1 with
        | none => cases e
        | some a => injection e with e; exact (ho a rfl).2.2 g' hg e.symm
  · refine Nat.lt_of_lt_of_le ?_ hF.size
    rcases List.mem_or_eq_of_mem_set hr with hr | rfl
    · exact h.old r hr q hq
    · cases A1 with
      | none => cases hq
      | some a => injection hq with hq; rw [← hq]; exact (ho a rfl).2.1
end Go.Proofs.Yteioopcacpihpaa

namespace Go.Proofs.Yteioopcacpihpaa
open Go.RowKit
open Go.Lib (strCells compareBytes)

/-- a row of lists of the call's own, each list somewhere else -/
structure RowAt (w : World) (B : Nat) (v : Value) (rs : Crs) : Prop where
  row : w.ownsRow B 22 1 v rs.length (crCells rs)
  part : ∀ r ∈ rs, ∃ A m k, r.1 = .slice A m k ∧ m ≤ k ∧ k ≤ maxLen ∧ HasChs w w.heap.size A m r.2
  off : ∀ r ∈ rs, ∀ g, v.ownBlock = some g → r.1.ownBlock ≠ some g
  old : ∀ r ∈ rs, ∀ g, r.1.ownBlock = some g → g < w.heap.size
theorem RowAt.below {w w' : World} {B : Nat} {v : Value} {rs : Crs} (h : RowAt w B v rs) (hb : Below w.heap.size w w') : RowAt w' B v rs :=
  ⟨own_belowN h.row hb, fun r hr => by
    obtain ⟨A, m, k, e, h1, h2, h3⟩ := h.part r hr
    exact ⟨A, m, k, e, h1, h2, (h3.belowOf hb (Nat.le_refl _)).more hb.size⟩, h.off, fun r hr g hg => Nat.lt_of_lt_of_le (h.old r hr g hg) hb.size⟩
theorem RowAt.crs {w : World} {B : Nat} {v : Value} {rs : Crs} (h : RowAt w B v rs) : ∃ A k, v = .slice A rs.length k ∧ rs.length ≤ k ∧ k ≤ maxLen ∧ HasCrs w w.heap.size A rs.length rs := by
  obtain ⟨A, k, e, h1, h2, h3⟩ := own_sliceN h.row
  exact ⟨A, k, e, h1, h2, by simpa using h3, h.part⟩
theorem RowAt.set {w : World} {B m m1 k1 i : Nat} {A A1 : Option Addr} {k0 : Nat} {rs : Crs} {l : List Chg} (h : RowAt w B (.slice A m k0) rs) (hm : rs.length = m) (hi : i < m) (h1 : m1 ≤ k1) (h2 : k1 ≤ maxLen) (h3 : HasChs w w.heap.size A1 m1 l)
    (ho : ∀ a, A1 = some a → a.block < w.heap.size ∧ ∀ g, (Value.slice A m k0).ownBlock = some g → g ≠ a.block) :
    ∃ g, A = some ⟨g, 0, none⟩ ∧ B ≤ g ∧ (∃ o, w.cell? ⟨g, i, none⟩ = some o) ∧ w.frozen? ⟨g, i, none⟩ = false ∧ RowAt (w.setCell ⟨g, i, none⟩ (.slice A1 m1 k1)) B (.slice A m k0) (rs.set i (.slice A1 m1 k1, l)) ∧ Frm (fun j => j = g) w (w.setCell ⟨g, i, none⟩ (.slice A1 m1 k1)) := by
  subst hm
  obtain ⟨g, rfl, hBg, hlt, he, hf, hst⟩ := crs_store h.row hi (.slice A1 m1 k1)
  have hF : Frm (fun j => j = g) w (w.setCell ⟨g, i, none⟩ (.slice A1 m1 k1)) := Frm.set (S := fun j => j = g) (Frm.refl _ _) (.inl rfl) _
  refine ⟨g, rfl, hBg, he, hf, ⟨?_, fun r hr => ?_, fun r hr => ?_, fun r hr q hq => ?_⟩, hF⟩
  · have e1 : crCells (rs.set i (.slice A1 m1 k1, l)) = (crCells rs).set i (.slice A1 m1 k1) := by simp [crCells, List.map_set]
    rw [e1, List.length_set]
    exact hst
  · rcases List.mem_or_eq_of_mem_set hr with hr | rfl
    · obtain ⟨A', m', k', e, g1, g2, g3⟩ := h.part r hr
      exact ⟨A', m', k', e, g1, g2, chs_frm g3 hF fun a ea e2 => h.off r hr g rfl (by rw [e, ea, ← e2]; rfl)⟩
    · exact ⟨A1, m1, k1, rfl, h1, h2, chs_frm h3 hF fun a ea e2 => (ho a ea).2 g rfl e2.symm⟩
  · rcases List.mem_or_eq_of_mem_set hr with hr | rfl
    · exact h.off r hr
    · intro g' hg e
      cases A1 with
      | none => cases e
      | some a => injection e with e; exact (ho a rfl).2 g' hg e.symm
  · refine Nat.lt_of_lt_of_le ?_ hF.size
    rcases List.mem_or_eq_of_mem_set hr with hr | rfl
    · exact h.old r hr q hq
    · cases A1 with
      | none => cases hq
      | some a => injection hq with hq; rw [← hq]; exact (ho a rfl).1
/-- the box is made -/
theorem RowAt.cur {w : World} {B : Nat} {v : Value} {rs : Crs} (h : RowAt w B v rs) : CurAt (w.alloc (.cells #[v] 92)) w.heap.size v rs := by
  have hb := below_box (w := w) (Obj.cells #[v] 92)
  have h' := h.below hb
  exact ⟨Box.made _ _ _, own_baseN h'.row (Nat.zero_le _), fun e => by have := (h.row.lt _ e).2; omega, h'.part, fun r hr => ⟨fun e => by have := h.old r hr _ e; omega, h.off r hr⟩, h'.old⟩
/-- an engine's lists in the row of parts -/
theorem parts_row {w w2 : World} {e N : Nat} {lim pairs : Int} {tv rv v : Value} {T : List Chg} {rs : Crs} (h : EngAt w e lim pairs tv rv T rs) (hb : Below w.heap.size w w2)
    (ho : w2.ownsRow w.heap.size 22 1 v N (tv :: crCells rs)) (hN : rs.length + 1 = N) : RowAt w2 w.heap.size v ((tv, T) :: rs) := by
  obtain ⟨A, k, -, -, -, hx⟩ := parts_crs h hb ho
  subst hN
  refine ⟨ho, hx.2, fun r hr g hg e2 => ?_, fun r hr g hg => ?_⟩
  · have h1 := (ho.lt g hg).1
    rcases List.mem_cons.1 hr with rfl | hr
    · have := (h.tab.lt g e2).2; omega
    · have := h.oldC r hr g e2; omega
  · refine Nat.lt_of_lt_of_le ?_ hb.size
    rcases List.mem_cons.1 hr with rfl | hr
    · exact (h.tab.lt g hg).2
    · exact h.oldC r hr g hg
end Go.Proofs.Yteioopcacpihpaa

namespace Go.Proofs.Yteioopcacpihpaa
open Go.RowKit
open Go.Lib (strCells compareBytes)

/-- list by list: it lies where the engine's list lies -/
def PtB (tv : Value) (rs rk : Crs) : Prop := ∀ (i : Nat) r', rk[i]? = some r' → ∀ g, r'.1.ownBlock = some g → ((tv :: crCells rs)[i]?).bind Value.ownBlock = some g
/-- a cursor over the engine's own lists -/
def OverPost (tv : Value) (rs : Crs) (Ls : List (List Chg)) (w : World) (e : Ending) (w' : World) : Prop :=
  ∃ c v rk, e = .returned (.pointer (some ⟨c, 0, none⟩)) ∧ CurAt w' c v rk ∧ crLists rk = Ls ∧ PtB tv rs rk ∧ w.heap.size ≤ c ∧ (∀ g, v.ownBlock = some g → w.heap.size ≤ g) ∧ Below w.heap.size w w'
def OverInv (lo hi : List UInt8) (Ls : List (List Chg)) (tv : Value) (rs : Crs) (N k : Nat) (rk : Crs) : Prop :=
  crLists rk = (Ls.take k).map (sliceL lo hi) ++ Ls.drop k ∧ rk.length = N ∧ PtB tv rs rk
theorem left_atO {f : List Chg → List Chg} {Ls : List (List Chg)} {k : Nat} (h : k < Ls.length) : ((Ls.take k).map f ++ Ls.drop k)[k]? = Ls[k]? := by
  have hl : ((Ls.take k).map f).length = k := by rw [List.length_map, List.length_take]; omega
  rw [List.getElem?_append_right (by omega), hl, Nat.sub_self, List.getElem?_drop, Nat.add_zero]
theorem add0O (g k : Nat) : (⟨g, 0, none⟩ : Addr).add k = ⟨g, k, none⟩ := by unfold Addr.add; split <;> simp_all
set_option maxRecDepth 100000 in
set_option maxHeartbeats 3200000 in
theorem over_any {w : World} {e H : Nat} {lim pairs : Int} {tv rv : Value} {T : List Chg} {rs : Crs} (h : EngAt w e lim pairs tv rv T rs) (hp : EngP H lim pairs T (crLists rs)) (hH : H ≤ 9000) (lo hi : ByteArray) :
    Calls Try.prog 60 #[.pointer (some ⟨e, 0, none⟩), .agg #[.string lo, .string hi]] w (OverPost tv rs ((T :: crLists rs).map (sliceL lo.data.toList hi.data.toList)) w) := by
  have hcount := hp.count
  rw [crLists_len] at hcount
  have hb0 := below_box (w := w) (Obj.cells #[.string lo, .string hi] 35)
  have H1 := Lib.hid (h.below hb0)
  have Hpt := Lib.hid (parts_any H1.out _ rfl (by omega))
  obtain ⟨N, hN⟩ : ∃ N, rs.length + 1 = N := ⟨_, rfl⟩
  have HN := Lib.hid hN
  obtain ⟨Ls, hLs⟩ : ∃ Ls, T :: crLists rs = Ls := ⟨_, rfl⟩
  have hLn : Ls.length = N := by rw [← hLs, ← hN]; simp [crLists_len]
  have HLs := Lib.hid hLs
  have HLn := Lib.hid hLn
  have Hrun := Lib.hid (fun r (hr : r ∈ Ls) => hp.runs r (by rw [hLs]; exact hr))
  have Hlen := Lib.hid (fun r (hr : r ∈ Ls) => hp.len (r := r) (by rw [hLs]; exact hr))
  rw [hN] at Hpt
  rw [hLs]
  have hN9 : N ≤ 9001 := by omega
  clear h hp hcount hLs hLn hN hb0
  go_enter Try.func60, Try.ntmps60
  go_wp2_with fail
  refine Hpt.out.mono ?_
  rintro e' w2 ⟨v, rfl, ho, hb⟩
  have HR := Lib.hid (parts_row H1.out hb ho HN.out)
  have Hb : Hid (Below (w.heap.size + 1) (w.alloc (.cells #[.string lo, .string hi] 35)) w2) := Lib.hid (by simpa using hb)
  have hsz2 : w.heap.size + 1 ≤ w2.heap.size := by have := hb.size; simpa using this
  obtain ⟨A, k0, rfl, -, -⟩ := own_slice ho
  obtain ⟨g, rfl, hg0⟩ := own_head ho (by have := HN.out; omega)
  have hgw : w.heap.size + 1 ≤ g := by simpa using hg0
  have hrl : ((tv, T) :: rs).length = N := HN.out
  have HI : Hid (OverInv lo.data.toList hi.data.toList Ls tv rs N 0 ((tv, T) :: rs)) := Lib.hid ⟨by rw [← HLs.out]; simp [crLists], hrl, fun i r' hr' q hq => by
    have e1 : (tv :: crCells rs)[i]? = some r'.1 := by
      have h1 : tv :: crCells rs = ((tv, T) :: rs).map (·.1) := rfl
      rw [h1, List.getElem?_map, hr']
      rfl
    rw [e1]
    exact hq⟩
  have hBx : w.heap.size ≤ (w.alloc (.cells #[.string lo, .string hi] 35)).heap.size := by simp
  clear ho hb Hpt hg0
  go_wp2
  go_loopw [6, 7, 12] (fun _ _ iv wr => ∃ (k : Nat) (rk : Crs), k ≤ N ∧ iv = .int .i64 (k : Int) ∧ RowAt wr (w.alloc (.cells #[.string lo, .string hi] 35)).heap.size (.slice (some ⟨g, 0, none⟩) N k0) rk ∧ Hid (OverInv lo.data.toList hi.data.toList Ls tv rs N k rk) ∧ Below (w.heap.size + 1) (w.alloc (.cells #[.string lo, .string hi] 35)) wr) (fun _ _ iv _ => N - (intOf iv).toNat)
  case atStart => exact ⟨0, _, by omega, rfl, HR.out, HI, Hb.out⟩
  case round =>
    obtain ⟨k, rk, hk, rfl, hR, Hi, hb⟩ := hrel
    have HRk := Lib.hid hR
    have Hbk := Lib.hid hb
    have hszk : w.heap.size + 1 ≤ wr.heap.size := by have := hb.size; simpa using this
    have hbx := (Box.made w 35 #[.string lo, .string hi]).below hb (by simp)
    have q0 : wr.cell? ⟨w.heap.size, 0, none⟩ = some (.string lo) := hbx.cell 0
    have q1 : wr.cell? ⟨w.heap.size, 1, none⟩ = some (.string hi) := hbx.cell 1
    clear hR hb hbx HI HR
    by_cases hlt : k < N
    · obtain ⟨A', kk, e1, -, -, hx⟩ := HRk.out.crs
      rw [Hi.out.2.1] at hx e1
      injection e1 with e1 _ e3
      subst e1
      subst e3
      obtain ⟨a'', A1, m1, c1, l, ea', hab, hg, h1, h2, h3, d0, hcell⟩ := hx.at_ hlt
      injection ea' with ea'
      subst ea'
      rw [add0O] at d0
      have hgl : Ls[k]? = some l := by rw [Hi.out.1, left_atO (by rw [HLn.out]; exact hlt)] at hg; exact hg
      have Hg := Lib.hid hgl
      have hlm := List.mem_of_getElem? hgl
      have hm9 : m1 ≤ 9000 := by have := Hlen.out l hlm; have := h3.1; omega
      have Hw := Lib.hid (within_any A1 m1 c1 wr.heap.size l lo hi wr h3 (Nat.le_refl _) (by omega) h1 h2 (Hrun.out l hlm))
      obtain ⟨r0, hr0, hr1, hr2⟩ : ∃ r ∈ rk, r.1 = .slice A1 m1 c1 ∧ rk[k]? = some r := by
        simp only [crCells, List.getElem?_map] at hcell
        cases e : rk[k]? with
        | none => rw [e] at hcell; cases hcell
        | some r =>
          rw [e] at hcell
          injection hcell with hcell
          exact ⟨r, List.mem_of_getElem? e, hcell, rfl⟩
      have Hr0 := Lib.hid (And.intro hr0 (And.intro hr1 hr2))
      have hk0 : (0 : Int) ≤ (k : Int) := by omega
      have hk1 : (k : Int) < (N : Int) := by omega
      clear hg hgl hlm h1 h2 h3 hcell hx hr0 hr1 hr2
      go_wp2_with fail
      refine Hw.out.mono ?_
      rintro e' w5 ⟨hb5, A5, c5, rfl, g1, g2, g3, g4⟩
      obtain ⟨m5, hm5⟩ : ∃ m5, (sliceL lo.data.toList hi.data.toList l).length = m5 := ⟨_, rfl⟩
      rw [hm5] at g1 g3 ⊢
      have hblk : ∀ a, A5 = some a → r0.1.ownBlock = some a.block := fun a ha => by
        obtain ⟨b, e2, e3⟩ := g4 a ha
        rw [Hr0.out.2.1, e2, e3]
        rfl
      obtain ⟨g', e', hBg, ⟨o, hst⟩, hfz, hnew, hF⟩ := RowAt.set (HRk.out.below hb5) Hi.out.2.1 hlt g1 g2 (g3.more hb5.size) (fun a ha => ⟨Nat.lt_of_lt_of_le (HRk.out.old r0 Hr0.out.1 _ (hblk a ha)) hb5.size, fun q hq e2 => HRk.out.off r0 Hr0.out.1 q hq (by rw [hblk a ha, e2])⟩)
      injection e' with e'
      injection e' with e'
      subst e'
      have Hn : Hid (OverInv lo.data.toList hi.data.toList Ls tv rs N (k + 1) (rk.set k (.slice A5 m5 c5, sliceL lo.data.toList hi.data.toList l))) := Lib.hid (by
        refine ⟨?_, by rw [List.length_set]; exact Hi.out.2.1, fun i r' hr' q hq => ?_⟩
        · have e1 : crLists (rk.set k (.slice A5 m5 c5, sliceL lo.data.toList hi.data.toList l)) = (crLists rk).set k (sliceL lo.data.toList hi.data.toList l) := by simp [crLists, List.map_set]
          rw [e1, Hi.out.1, set_left Hg.out]
        · rw [List.getElem?_set] at hr'
          split at hr'
          · rename_i e9
            subst e9
            split at hr'
            · injection hr' with hr'
              subst hr'
              cases A5 with
              | none => cases hq
              | some a =>
                injection hq with hq
                exact Hi.out.2.2 k r0 Hr0.out.2.2 q (by rw [← hq]; exact hblk a rfl)
            · cases hr'
          · exact Hi.out.2.2 i r' hr' q hq)
      have HE := Lib.hid (And.intro hnew ((Hbk.out.trans (hb5.mono hszk)).trans (hF.below (fun j hj => by have h8 : j = _ := hj; have h9 := hBg; simp only [World.size_alloc] at h9; omega) (by have := hb5.size; omega))))
      clear hb5 g1 g2 g3 g4 hblk hnew hF Hw q0 q1 d0
      go_wp2
      go_roundw
      case rel => exact ⟨k + 1, _, by omega, by go_num, HE.out.1, Hn, by simpa using HE.out.2⟩
      case measure => simp [intOf]; omega
    · obtain rfl : k = N := by omega
      have HE := Lib.hid HRk.out.cur
      have hE : crLists rk = Ls.map (sliceL lo.data.toList hi.data.toList) := by rw [Hi.out.1, List.take_of_length_le (by rw [HLn.out]; omega), List.drop_of_length_le (by rw [HLn.out]; omega), List.append_nil]
      have HF := Lib.hid hE
      have HgE : Hid (∀ q, (Value.slice (some ⟨g, 0, none⟩) k k0).ownBlock = some q → w.heap.size ≤ q) := Lib.hid (fun q hq => by
        injection hq with hq
        have h8 : g = q := hq
        omega)
      clear hE q0 q1
      go_wp2
      go_ret
      exact ⟨wr.heap.size, _, rk, rfl, HE.out, HF.out, Hi.out.2.2, by omega, HgE.out, (below_in Hbk.out (Nat.le_refl _)).trans ((below_box _).mono (by omega))⟩
end Go.Proofs.Yteioopcacpihpaa
