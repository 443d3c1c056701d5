/- Check of an operation gives what the plain text (errsT) gives. Condition: the operation is in memory. -/
import Derived.Test.YtfaenejcgmnmdaaGreatPlnB
namespace Go.Proofs.YtfaenejcgmnmdaaGreat
open Go.RowKit
open Go.Lib (strCells compareBytes)

def firstN : List Nat → Nat
  | [] => 0
  | e :: l => if e = 0 then firstN l else e
def checkT (o : TOp) : Nat := firstN (errsT o)
theorem firstN_drop {cs : List Nat} {k x : Nat} (h : cs[k]? = some x) : firstN (cs.drop k) = if x = 0 then firstN (cs.drop (k + 1)) else x := by
  obtain ⟨hk, rfl⟩ := List.getElem?_eq_some_iff.1 h
  rw [List.drop_eq_getElem_cons hk]
  rfl

set_option maxRecDepth 100000 in
set_option maxHeartbeats 1600000 in
theorem plainCheck_any (v : Value) (o : TOp) (B : Nat) (w : World) (hB : B ≤ w.heap.size) (ho : OpIs w B v o) :
    Calls Tryz.prog 11 #[v] w fun e w' => e = .returned (.int .i64 (checkT o : Int)) ∧ Below w.heap.size w w' := by
  have Ho := Lib.hid ho
  obtain ⟨rv, ov, fv, lv, hv, rfl, -⟩ := ho
  have HB := Lib.hid hB
  unfold opCells at Ho ⊢
  generalize hcs : errsT o = cs
  have E : Hid (checkT o = firstN (cs.drop 0)) := Lib.hid (by rw [← hcs]; rfl)
  have Hc : Hid (Calls Tryz.prog 32 #[.agg #[.int .i64 o.k, .string o.key, .string o.to, rv, ov, .int .i64 o.id, fv, lv, hv, .int .i64 o.lim, .int .i64 o.sp, .int .i64 o.nd]] (w.alloc (.cells #[.int .i64 o.k, .string o.key, .string o.to, rv, ov, .int .i64 o.id, fv, lv, hv, .int .i64 o.lim, .int .i64 o.sp, .int .i64 o.nd] 26)) (ChecksPost cs _)) :=
    Lib.hid (hcs ▸ checks_any _ o B _ (Nat.le_trans hB (below_alloc _ _).size) (Ho.out.belowOf (below_alloc _ _) hB))
  clear hcs
  go_enter Tryz.func11, Tryz.ntmps11
  go_wp2_with fail
  refine Hc.out.mono ?_
  rintro e w1 ⟨_, rfl, ⟨A, n, c, fs, rfl, hn, h4, hf, ht⟩, hb⟩
  have Hb := Lib.hid (Below.then (below_alloc _ _) hb)
  have Hf := Lib.hid hf
  have Ht := Lib.hid ht
  have Hn := Lib.hid hn
  clear hb hf ht hn Hc
  go_wp2
  go_loopw [9] (fun i wr => ∃ k : Nat, k ≤ n ∧ i = .int .i64 (k : Int) ∧ Below w1.heap.size w1 wr ∧ Hid (checkT o = firstN (cs.drop k))) (fun i _ => n - (intOf i).toNat)
  case atStart => exact ⟨0, by omega, rfl, Below.refl _ _, E⟩
  case round =>
    obtain ⟨k, hk, rfl, hb1, E1⟩ := hrel
    have Hb1 := Lib.hid hb1
    by_cases hlt : k < n
    · obtain ⟨a, rfl, hab, hc0⟩ := Hf.out.cell hlt
      have hfl : k < fs.length := by have := Hf.out.1; omega
      obtain ⟨x, hx, g, lb, hfg, hen, hcall⟩ := Ht.out k (fs.getD k undef) (by simp [hfl])
      rw [hfg] at hc0
      have hc := hb1.cell (p := a.add k) (by rw [addr_block]; exact hab)
      rw [hc0] at hc
      clear hc0
      have Hcall := Lib.hid hcall
      have Hx := Lib.hid (firstN_drop hx)
      clear hcall hfg hx hb1 hfl hab
      by_cases hx0 : x = 0
      · subst hx0
        have E2 : Hid (checkT o = firstN (cs.drop (k + 1))) := Lib.hid (by rw [E1.out, Hx.out]; rfl)
        go_wp2_with fail
        refine (Hcall.out _ Hb1.out).mono ?_
        rintro e w2 ⟨rfl, hb2⟩
        have Hb2 := Lib.hid (Below.then Hb1.out hb2)
        clear hb2
        go_wp2
        go_roundw
        case rel => exact ⟨k + 1, by omega, by go_num, Hb2.out, E2⟩
        case measure => simp [intOf]; omega
      · have E2 : Hid (checkT o = x) := Lib.hid (by rw [E1.out, Hx.out, if_neg hx0])
        have hxb : ((x : Int) != 0) = true := by simp; omega
        clear hx0
        go_wp2_with fail
        refine (Hcall.out _ Hb1.out).mono ?_
        rintro e w2 ⟨rfl, hb2⟩
        have Hb2 := Lib.hid (Below.then Hb1.out hb2)
        clear hb2
        go_wp2
        go_ret
        exact ⟨by rw [E2.out]; rfl, Below.then Hb.out Hb2.out⟩
    · have E2 : Hid (checkT o = 0) := Lib.hid (by rw [E1.out, List.drop_of_length_le (by have := Hn.out; omega)]; rfl)
      go_wp2
      go_ret
      exact ⟨by rw [E2.out]; rfl, Below.then Hb.out Hb1.out⟩
end Go.Proofs.YtfaenejcgmnmdaaGreat
