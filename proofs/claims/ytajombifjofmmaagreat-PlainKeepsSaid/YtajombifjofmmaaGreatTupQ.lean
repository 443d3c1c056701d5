/- Cut gives what the plain text (SpecCut) gives. Condition: the text is short. -/
import Derived.Test.YtajombifjofmmaaGreatTupN
import Derived.Test.YtajombifjofmmaaGreatClone
namespace Go.Proofs.YtajombifjofmmaaGreat
open Go.RowKit
open Go.Lib (strCells compareBytes)

def pre (l : List TVal) : Res (List TVal) → Res (List TVal)
  | .ok m z => .ok (l ++ m) z
  | .err e => .err e
theorem pre_nil (r : Res (List TVal)) : pre [] r = r := by cases r <;> rfl
theorem cutL_stop {j : Nat} {s : List UInt8} (h : more s = false) : cutL j s = .ok [] s := by
  cases j <;> simp [cutL, h]
theorem cutL_many {s : List UInt8} (h : more s = true) : cutL 0 s = .err 4 := by simp [cutL, h]
theorem cutL_err_at {j : Nat} {s : List UInt8} {e : Nat} (h : more s = true) (hv : cutVal s = .err e) : cutL (j + 1) s = .err e := by simp [cutL, h, hv]
theorem cutL_ok_at {j : Nat} {s r : List UInt8} {v : TVal} (l : List TVal) (h : more s = true) (hv : cutVal s = .ok v r) : pre l (cutL (j + 1) s) = pre (l ++ [v]) (cutL j r) := by
  rw [cutL]
  simp only [h, hv, if_true]
  cases cutL j r <;> simp [pre]

/-- what Cut leaves: the values in a row of the call's own and the rest, or an error -/
def CutPost (R : Res (List TVal)) (w : World) (e : Ending) (w' : World) : Prop :=
  match R with
  | .ok l z => ∃ v, e = .returned (.tuple #[v, .string ⟨z.toArray⟩, .int .i64 0]) ∧ w'.ownsRow w.heap.size 55 3 v l.length (valCells l) ∧ Below w.heap.size w w'
  | .err c => e = .returned (.tuple #[.slice none 0 0, .string ⟨#[]⟩, .int .i64 (c : Int)]) ∧ Below w.heap.size w w'
theorem cutPost_ok {R : Res (List TVal)} {l : List TVal} {z : List UInt8} {w w' : World} {v : Value} {x : ByteArray} (hR : R = .ok l z) (hx : x.data.toList = z) (ho : w'.ownsRow w.heap.size 55 3 v l.length (valCells l)) (hb : Below w.heap.size w w') :
    CutPost R w (.returned (.tuple #[v, .string x, .int .i64 0])) w' := by
  subst hR
  subst hx
  exact ⟨v, rfl, ho, hb⟩
theorem cutPost_err {R : Res (List TVal)} {c : Nat} {w w' : World} (hR : R = .err c) (hb : Below w.heap.size w w') : CutPost R w (.returned (.tuple #[.slice none 0 0, .string ⟨#[]⟩, .int .i64 (c : Int)])) w' := by
  subst hR
  exact ⟨rfl, hb⟩
set_option maxHeartbeats 1600000 in
set_option maxRecDepth 100000 in
theorem cut_any (s : ByteArray) (w : World) (hs : s.size ≤ 100000) :
    Calls Tryz.prog 89 #[.string s] w (CutPost (cutL 4 s.data.toList) w) := by
  go_enter Tryz.func89, Tryz.ntmps89
  go_wp2
  go_loopw [2, 3, 4, 5] (fun lv y ev _ wr => ∃ (x : ByteArray) (l : List TVal), y = .string x ∧ ev = .int .i64 0 ∧ x.size ≤ s.size ∧ l.length ≤ 4 ∧ wr.ownsRow w.heap.size 55 3 lv l.length (valCells l) ∧ Below w.heap.size w wr ∧ Hid (cutL 4 s.data.toList = pre l (cutL (4 - l.length) x.data.toList))) (fun _ y _ _ _ => strSize y)
  case atStart => exact ⟨s, [], rfl, rfl, by omega, by simp, World.ownsRow_nil _ _ _ _, Below.refl _ _, Lib.hid (pre_nil _).symm⟩
  case round =>
    obtain ⟨x, l, rfl, rfl, hx, hl, hown, hb, Hc⟩ := hrel
    have hsz := hb.size
    have Hb := Lib.hid hb
    have Hown := Lib.hid hown
    clear hb hown
    have hxl := Lib.hid (Lib.size_eq x)
    by_cases hx0 : x.size = 0
    · have hd : x.data.toList = [] := List.eq_nil_of_length_eq_zero (by rw [← hxl.out]; exact hx0)
      have E : Hid (cutL 4 s.data.toList = .ok l x.data.toList) := Lib.hid (by rw [Hc.out, cutL_stop (by rw [hd]; rfl)]; simp [pre])
      have he1 : x.toList = [] := by rw [Lib.toList_data, hd]
      have he2 : (x.toList.isEmpty) = true := by rw [he1]; rfl
      clear hd hx0
      go_wp2_with fail
      refine (clone_any x _ (by omega)).mono ?_
      rintro e w1 ⟨rfl, hb1⟩
      have Hown1 := Lib.hid (own_belowN Hown.out hb1)
      have Hb1 := Lib.hid (Hb.out.trans (hb1.mono hsz))
      clear hb1
      go_wp2
      go_ret3
      exact cutPost_ok E.out rfl Hown1.out Hb1.out
    · obtain ⟨c, r, hcr⟩ : ∃ c r, x.data.toList = c :: r := by
        cases h : x.data.toList with
        | nil => have := hxl.out; rw [h] at this; simp only [List.length_nil] at this; omega
        | cons c r => exact ⟨c, r, rfl⟩
      have he1 : x.toList.isEmpty = false := by rw [Lib.toList_data, hcr]; rfl
      have hpos : 0 < x.size := by omega
      have hc : x[0] = c := by rw [byte_at x 0 hpos, hcr]; rfl
      have h256 := c.toNat_lt
      clear hx0
      by_cases hc0 : c = 0
      · subst hc0
        have E : Hid (cutL 4 s.data.toList = .ok l x.data.toList) := Lib.hid (by rw [Hc.out, cutL_stop (by rw [hcr]; rfl)]; simp [pre])
        clear hcr
        go_wp2_with fail
        refine (clone_any x _ (by omega)).mono ?_
        rintro e w1 ⟨rfl, hb1⟩
        have Hown1 := Lib.hid (own_belowN Hown.out hb1)
        have Hb1 := Lib.hid (Hb.out.trans (hb1.mono hsz))
        clear hb1
        go_wp2
        go_ret3
        exact cutPost_ok E.out rfl Hown1.out Hb1.out
      · have hm : more x.data.toList = true := by rw [hcr]; simp [more, hc0]
        have hcz : ((c.toNat : Int) == 0) = false := by
          have : c.toNat ≠ 0 := fun e => hc0 (UInt8.toNat_inj.1 (by rw [e]; rfl))
          simp
          omega
        have hcz' : ((c.toNat : Int) != 0) = true := by
          have : c.toNat ≠ 0 := fun e => hc0 (UInt8.toNat_inj.1 (by rw [e]; rfl))
          simp
          omega
        have Hm := Lib.hid hm
        clear hcr hc0 hm
        obtain ⟨A5, c5, rfl, _, _, _⟩ := own_sliceN Hown.out
        by_cases h4 : l.length = 4
        · have E : Hid (cutL 4 s.data.toList = .err 4) := Lib.hid (by rw [Hc.out, h4, cutL_many Hm.out]; rfl)
          have h4i : ((l.length : Int) == 4) = true := by simp; omega
          clear h4
          go_wp2
          go_ret3
          exact cutPost_err E.out Hb.out
        · obtain ⟨j, hj⟩ : ∃ j, 4 - l.length = j + 1 := ⟨3 - l.length, by omega⟩
          have Hj := Lib.hid hj
          have h4i : ((l.length : Int) == 4) = false := by simp; omega
          have Hcall := Lib.hid (fun wx => cutVal_any x wx (by omega) hpos)
          clear hj h4
          cases hR : cutVal x.data.toList with
          | err e =>
            have hepos := (cutVal_err hR).1
            have E : Hid (cutL 4 s.data.toList = .err e) := Lib.hid (by rw [Hc.out, Hj.out, cutL_err_at Hm.out hR]; rfl)
            rw [hR] at Hcall
            clear hR
            have hne : ((e : Int) == 0) = false := by simp; omega
            have hne' : ((e : Int) != 0) = true := by simp; omega
            simp only [resVal] at Hcall
            go_wp2_with fail
            refine (Hcall.out _).mono ?_
            rintro e' w1 ⟨rfl, hb1⟩
            obtain ⟨q0, q1, q2, f0, f1, f2⟩ := box_below hb1
            obtain ⟨W3, hW3⟩ : ∃ W3, ((w1.setCell ⟨wr.heap.size, 0, none⟩ (.int .i64 0)).setCell ⟨wr.heap.size, 1, none⟩ (.int .i64 0)).setCell ⟨wr.heap.size, 2, none⟩ (.string ⟨#[]⟩) = W3 := ⟨_, rfl⟩
            have Hbw : Hid (Below w.heap.size w W3) := Lib.hid (by
              rw [← hW3]
              exact Hb.out.trans (((((((below_box _).trans (hb1.mono (by simp))).setCell (Nat.le_refl _) _).setCell (Nat.le_refl _) _).setCell (Nat.le_refl _) _)).mono hsz))
            clear hb1
            go_wp2
            go_ret3
            exact cutPost_err E.out Hbw.out
          | ok v r =>
            have E : Hid (cutL 4 s.data.toList = pre (l ++ [v]) (cutL (4 - (l ++ [v]).length) r)) := Lib.hid (by
              rw [Hc.out, Hj.out, cutL_ok_at l Hm.out hR, List.length_append, List.length_singleton]
              have := Hj.out
              congr 2
              omega)
            obtain ⟨e1, _, _⟩ := cutVal_ok hR
            have Hlt : Hid ((⟨r.toArray⟩ : ByteArray).size < x.size) := Lib.hid (by
              have h1 := congrArg List.length e1
              obtain ⟨c', r', hk, _⟩ := keyV_pos v
              rw [← hxl.out, hk] at h1
              simp only [List.length_append, List.length_cons] at h1
              rw [Lib.size_eq]
              show r.length < x.size
              omega)
            have hll : l.length < 4 := by have := Hj.out; omega
            rw [hR] at Hcall
            clear hR e1
            obtain ⟨k, n, t⟩ := v
            obtain ⟨y, hy⟩ : ∃ y : ByteArray, ⟨r.toArray⟩ = y := ⟨_, rfl⟩
            have Hy : Hid (y.data.toList = r) := Lib.hid (by rw [← hy])
            rw [hy] at Hlt
            simp only [resVal, vagg] at Hcall
            rw [hy] at Hcall
            clear hy
            go_wp2_with fail
            refine (Hcall.out _).mono ?_
            rintro e' w1 ⟨rfl, hb1⟩
            obtain ⟨q0, q1, q2, f0, f1, f2⟩ := box_below hb1
            obtain ⟨W3, hW3⟩ : ∃ W3, ((w1.setCell ⟨wr.heap.size, 0, none⟩ (.int .i64 k)).setCell ⟨wr.heap.size, 1, none⟩ (.int .i64 n)).setCell ⟨wr.heap.size, 2, none⟩ (.string t) = W3 := ⟨_, rfl⟩
            have hp := box_store (x' := .int .i64 k) (y' := .int .i64 n) (z' := .string t) q0 q1 q2
            have hbw : Below wr.heap.size wr W3 := by
              rw [← hW3]
              exact (((below_box _).trans (hb1.mono (by simp))).setCell (Nat.le_refl _) _).setCell (Nat.le_refl _) _ |>.setCell (Nat.le_refl _) _
            have Hown3 := Lib.hid (own_belowN Hown.out hbw)
            have Hb3 := Lib.hid (Hb.out.trans (hbw.mono hsz))
            have hB3 : w.heap.size ≤ W3.heap.size := Nat.le_trans hsz hbw.size
            rw [hW3] at hp
            obtain ⟨p0, p1, p2⟩ := hp
            clear hb1 hbw
            go_wp2_with (at_builtin; refine wpList_append_hasN rfl (.tmp 26) (.tmp 28) _ rfl 55 val_elem (by omega) Tryz.underlying31 rfl (Hown3.out.alloc _) rfl (vals_lit W3 k n t) (valCells_one _) (by simp only [maxLen]; omega) (by omega) (le_alloc hB3 _) ?_; intro v4 w4 hown4 hg4 hz4; have Hb4 : Hid (Below w.heap.size w w4) := Lib.hid (below_ownN (Hb3.out.alloc hB3 _) (Hown3.out.alloc _) hg4 (le_alloc hB3 _)); clear hg4 hz4)
            go_roundw
            case rel =>
              refine ⟨y, l ++ [⟨k, n, t⟩], rfl, rfl, by have := Hlt.out; omega, by rw [List.length_append, List.length_singleton]; omega, ?_, Hb4.out, Lib.hid (by rw [E.out, Hy.out])⟩
              rw [List.length_append, List.length_singleton, valCells_app]
              exact hown4
            case measure => simp only [strSize]; have := Hlt.out; omega

end Go.Proofs.YtajombifjofmmaaGreat
