/- SpanGrows: ranges that come one by one, in any order and twice, come to the same form. No condition. -/
import Derived.Test.YtoifhpeohbbekaaRngQ
import Derived.Test.YtoifhpeohbbekaaOpenRng
import Derived.Test.YtoifhpeohbbekaaRow
namespace Go.Proofs.Ytoifhpeohbbekaa
open Go.RowKit
open Go.Lib (strCells compareBytes)

theorem own_one (w : World) (x : Rg) (B : Nat) (hB : B ≤ w.heap.size) : (w.alloc (.cells #[.string x.lo, .string x.hi] 25)).ownsRow B 25 2 (.slice (some ⟨w.heap.size, 0, none⟩) 1 1) 1 (rgCells [x]) :=
  ⟨rfl, .inr ⟨w.heap.size, 1, #[.string x.lo, .string x.hi], rfl, hB, heap_alloc_new w _, Nat.le_refl _, by simp [maxLen], rfl, rfl⟩⟩
theorem own_has {w : World} {B m c : Nat} {A : Option Addr} {l : List Rg} (h : w.ownsRow B 25 2 (.slice A m c) m (rgCells l)) (hl : l.length = m) : HasRgs w w.heap.size A m l := ⟨hl, Has.of_ownN h⟩
/-- what is known of the form as it grows -/
structure Grown (l m : List Rg) (most : Nat) : Prop where
  form : Form m
  small : Small 200 m
  len : m.length ≤ most
  sub : ∀ s, inS m s → inS l s
theorem Grown.next {l m m' : List Rg} {most : Nat} {x : Rg} {L : List Rg} (h : Grown l m most) (hx : x ∈ l) (hL : ∀ s, inS L s ↔ inS m s ∨ hasR x s) (fm : IsForm m' (inS L)) (hs : Small 200 m') (hl : m'.length ≤ most + 1) : Grown l m' (most + 1) :=
  ⟨fm.1, hs, hl, fun s hs => by
    rcases (hL s).1 ((fm.2 s).1 hs) with h1 | h1
    · exact h.sub s h1
    · exact ⟨x, hx, h1⟩⟩
theorem small_mem {K : Nat} {l m : List Rg} (h : Small K m) {x : Rg} (hx : x ∈ l) (hl : Small K l) : Small K (m ++ [x]) ∧ Small K (x :: m) :=
  ⟨fun y hy => by
    rcases List.mem_append.1 hy with hy | hy
    · exact h y hy
    · simp at hy; subst hy; exact hl _ hx, fun y hy => by
    rcases List.mem_cons.1 hy with rfl | hy
    · exact hl _ hx
    · exact h y hy⟩
set_option maxRecDepth 100000 in
set_option maxHeartbeats 6400000 in
theorem grows_walk (A D : Option Addr) (n ca n' c' : Nat) (l : List Rg) (zs : List Int) (w : World) (h : HasRgs w w.heap.size A n l) (hnc : n ≤ ca) (hm : ca ≤ maxLen) (hs : ∀ u ∈ l, u.lo.size ≤ maxLen ∧ u.hi.size ≤ maxLen)
    (h' : Has w w.heap.size D n' (zs.map (Value.int .i64))) (hn' : n' ≤ maxLen) :
    Calls Try.prog 10 #[.slice A n ca, .slice D n' c'] w fun e w' => e = .returned (.bool true) ∧ Below w.heap.size w w' := by
  have H := Lib.hid h
  have H' := Lib.hid h'
  have Hl := Lib.hid h.1
  have Hz : Hid (zs.length = n') := Lib.hid (by have := h'.1; simpa using this)
  have Hl1 : Hid (∀ wx, Below w.heap.size w wx → Calls Try.prog 36 #[.slice A n ca, .int .i64 20] wx (LightPost l 20 wx)) := Lib.hid (fun wx hx => lightR_any A n ca w.heap.size 20 l wx (h.belowOf hx (Nat.le_refl _)) (by omega) hs)
  have HLe := Lib.hid (fun (hn : n ≤ 20) (hK : Small 200 l) wx (hx : Below w.heap.size w wx) => least_any A n ca w.heap.size 200 l wx (h.belowOf hx (Nat.le_refl _)) hx.size (by omega) hK (by omega))
  have HL2 := Lib.hid (fun A' N c L wx (hx : HasRgs wx wx.heap.size A' N L) (hN : N ≤ 1000) (hK : Small 200 L) => least_any A' N c wx.heap.size 200 L wx hx (Nat.le_refl _) (by omega) hK (by omega))
  have HCo := Lib.hid (fun A' N c L r C wx (hx : HasRgs wx C A' N L) (hC : C ≤ wx.heap.size) (hN : N ≤ 1000) (hK : Small 200 L) (hr : r.lo.size ≤ 200 ∧ r.hi.size ≤ 200) => covers_any A' N c C 200 L r wx hx hC (by omega) hK (by omega) hr)
  unfold maxLen at hn'
  unfold ragg at *
  clear h h' hs hm hnc
  go_enter Try.func10, Try.ntmps10
  go_wp2_with fail
  refine (awakeR_any _).mono ?_
  rintro e w1 ⟨rfl, hb1⟩
  have Hb1 := Lib.hid hb1
  have Hl1' := Lib.hid (Hl1.out w1 hb1)
  clear hb1 Hl1
  go_wp2_with fail
  refine Hl1'.out.mono ?_
  rintro e w1' ⟨t, rfl, ht, rfl⟩
  have Ht := Lib.hid ht
  clear ht Hl1'
  cases t with
  | false =>
    go_wp2
    go_ret
    exact ⟨rfl, Hb1.out⟩
  | true =>
    have HtA := Lib.hid (Ht.out rfl)
    clear Ht
    by_cases h100 : 100 < n'
    · have hd : decide ((100 : Int) < (n' : Int)) = true := decide_eq_true (by omega)
      go_wp2
      go_ret
      exact ⟨rfl, Hb1.out⟩
    · have hd : decide ((100 : Int) < (n' : Int)) = false := decide_eq_false (by omega)
      have hn20 : n ≤ 20 := by have := HtA.out.1; have := Hl.out; omega
      have HLe1 := Lib.hid (HLe.out hn20 HtA.out.2 w1' Hb1.out)
      clear HLe
      go_wp2_with fail
      refine HLe1.out.mono ?_
      rintro e w3 ⟨m0, v0, rfl, o0, f0, k0, s0, b0⟩
      obtain ⟨A0, c0, rfl, -, -, x0⟩ := o0.slice
      obtain ⟨N0, hN0⟩ : ∃ N, m0.length = N := ⟨_, rfl⟩
      rw [hN0] at x0 k0 ⊢
      have X0 := Lib.hid x0
      have HF0 := Lib.hid (And.intro f0 (And.intro s0 hN0))
      have Hb3 := Lib.hid (Hb1.out.trans (b0.mono Hb1.out.size))
      have hsz3 := Hb3.out.size
      have hN0b : N0 ≤ 20 := by omega
      clear o0 f0 s0 b0 x0 hN0 HLe1
      go_wp2
      go_loopw [6, 7] (fun o iv wr => ∃ k : Nat, k ≤ n' ∧ iv = .int .i64 (k : Int) ∧ (∃ m, OwnRgs wr w3.heap.size o m ∧ Hid (Grown l m k)) ∧ Below w3.heap.size w3 wr) (fun _ iv _ => n' - (intOf iv).toNat)
      case atStart => exact ⟨0, by omega, rfl, ⟨[], OwnRgs.nil _ _, Lib.hid ⟨Form.nil, by intro r hr; simp at hr, by simp, fun s hs => absurd hs (in_nil s)⟩⟩, Below.refl _ _⟩
      case round =>
        obtain ⟨k, hk, rfl, ⟨m, ho, Hg⟩, hb⟩ := hrel
        have Hb := Lib.hid hb
        have hsz := hb.size
        obtain ⟨Ao, co, rfl, -, -, -⟩ := ho.slice
        unfold OwnRgs at ho
        obtain ⟨M, hM⟩ : ∃ M, m.length = M := ⟨_, rfl⟩
        rw [hM] at ho ⊢
        have hMk : M ≤ k := by have := Hg.out.len; omega
        have Ho := Lib.hid ho
        have HM := Lib.hid hM
        clear ho hM
        by_cases hlt : k < n'
        · obtain ⟨dA, rfl, hdb, hdc⟩ := Has.all (H'.out.belowOf (Hb3.out.trans (hb.mono hsz3)) (Nat.le_refl _)) (by omega)
          obtain ⟨z, hz⟩ : ∃ z, zs[k]? = some z := ⟨_, List.getElem?_eq_getElem (by have := Hz.out; omega)⟩
          have e0 : wr.cell? (dA.add k) = some (.int .i64 z) := hdc k _ (by rw [List.getElem?_map, hz]; rfl)
          have hk0 : (0 : Int) ≤ (k : Int) := by omega
          have hk1 : (k : Int) < (n' : Int) := by omega
          clear hz hdc hb
          by_cases hin : 0 ≤ z ∧ z < (n : Int)
          · obtain ⟨q, rfl⟩ : ∃ q : Nat, z = (q : Int) := ⟨z.toNat, by omega⟩
            have hqn : q < n := by omega
            obtain ⟨a, y, rfl, hab, hy, c0', c1'⟩ := (H.out.belowOf (Hb3.out.trans (Hb.out.mono hsz3)) (Nat.le_refl _)).at_ hqn
            have Hym := Lib.hid (List.mem_of_getElem? hy)
            have Hsm := Lib.hid (small_mem Hg.out.small Hym.out HtA.out.2)
            have hz0 : (0 : Int) ≤ (q : Int) := by omega
            have hz1 : (q : Int) < (n : Int) := by omega
            have hzd : decide ((q : Int) < (n : Int)) = true := decide_eq_true hz1
            have hzd0 : decide ((0 : Int) ≤ (q : Int)) = true := decide_eq_true hz0
            obtain ⟨yl, yh⟩ := y
            simp only at c0' c1'
            clear hy hin hab
            go_wp2_with (first
              | (at_builtin; refine wpList_append_hasN rfl (.tmp 42) (.tmp 50) _ rfl 25 rg_elem (by omega) Try.underlying67 rfl (own_belowN Ho.out (below_box _)) rfl (rg_lit wr ⟨yl, yh⟩) (rgCells_one _) (by simp only [maxLen]; omega) (by omega) (by simp only [World.size_alloc]; omega) ?_; intro v5 w5 o5 g5 z5; obtain ⟨A5, c5, rfl, -, -, -⟩ := own_sliceN o5; have HX5 : Hid (HasRgs w5 w5.heap.size A5 (M + 1) (m ++ [⟨yl, yh⟩])) := Lib.hid (own_has (by rw [rgCells_app]; exact o5) (by rw [List.length_append, HM.out]; rfl)); have Hb5 : Hid (Below w3.heap.size w3 w5) := Lib.hid ((Hb.out.alloc hsz _).grown g5 (by simp only [World.size_alloc]; omega) fun q hq => (Ho.out.lt q hq).1); clear o5 g5 z5)
              | (go_at_call 44; refine (HL2.out _ _ _ _ _ HX5.out (by omega) Hsm.out.1).mono ?_; rintro e w6 ⟨m6, v6, rfl, o6, f6, k6, s6, b6⟩; have HE6 : Hid (OwnRgs w6 w3.heap.size v6 m6 ∧ Below w3.heap.size w3 w6 ∧ Grown l m6 (k + 1)) := Lib.hid ⟨own_baseN o6 Hb5.out.size, Hb5.out.trans (b6.mono Hb5.out.size), Hg.out.next Hym.out (fun s => by rw [in_app, in_one]) f6 s6 (by omega)⟩; clear o6 f6 k6 s6 b6))
            go_roundw
            case rel => exact ⟨k + 1, by omega, by go_num, ⟨m6, HE6.out.1, Lib.hid HE6.out.2.2⟩, HE6.out.2.1⟩
            case measure => simp [intOf]; omega
          · have Hg1 : Hid (Grown l m (k + 1)) := Lib.hid ⟨Hg.out.form, Hg.out.small, by have := Hg.out.len; omega, Hg.out.sub⟩
            by_cases hz0 : 0 ≤ z
            · have hzd : decide (z < (n : Int)) = false := decide_eq_false (by omega)
              have hzd0 : decide ((0 : Int) ≤ z) = true := decide_eq_true hz0
              clear hin
              go_wp2
              go_roundw
              case rel => exact ⟨k + 1, by omega, by go_num, ⟨m, by unfold OwnRgs; rw [HM.out]; exact Ho.out, Hg1⟩, Hb.out⟩
              case measure => simp [intOf]; omega
            · have hzd0 : decide ((0 : Int) ≤ z) = false := decide_eq_false hz0
              clear hin
              go_wp2
              try any_goals (exfalso; omega)
              go_roundw
              case rel => exact ⟨k + 1, by omega, by go_num, ⟨m, by unfold OwnRgs; rw [HM.out]; exact Ho.out, Hg1⟩, Hb.out⟩
              case measure => simp [intOf]; omega
        · have Hg1 : Hid (Grown l m 100) := Lib.hid ⟨Hg.out.form, Hg.out.small, by have := Hg.out.len; omega, Hg.out.sub⟩
          have Hst : Hid (OwnRgs wr w3.heap.size (.slice Ao M co) m) := Lib.hid (by unfold OwnRgs; rw [HM.out]; exact Ho.out)
          obtain rfl : k = n' := by omega
          have hM100 : M ≤ 100 := by omega
          clear hb Hg Ho
          generalize wr = wo at *
          go_wp2
          go_loopw [6, 8] (fun o iv wr => ∃ j : Nat, j ≤ n ∧ iv = .int .i64 (j : Int) ∧ (∃ m, OwnRgs wr w3.heap.size o m ∧ Hid (Grown l m (100 + j) ∧ ∀ s, inS (l.take j) s → inS m s)) ∧ Below w3.heap.size w3 wr) (fun _ iv _ => n - (intOf iv).toNat)
          case atStart => exact ⟨0, by omega, rfl, ⟨m, Hst.out, Lib.hid ⟨Hg1.out, fun s hs => absurd hs (in_nil s)⟩⟩, Hb.out⟩
          case round =>
            obtain ⟨j, hj, rfl, ⟨m, ho, Hg⟩, hb⟩ := hrel
            have Hbj := Lib.hid hb
            have hszj := hb.size
            obtain ⟨Aj, cj, rfl, -, -, hxj⟩ := ho.slice
            obtain ⟨M2, hM2⟩ : ∃ M, m.length = M := ⟨_, rfl⟩
            rw [hM2] at hxj ⊢
            have hMk : M2 ≤ 100 + j := by have := Hg.out.1.len; omega
            have Xj := Lib.hid hxj
            have HM2 := Lib.hid hM2
            clear ho hM2 hxj Hst
            by_cases hlt : j < n
            · obtain ⟨a, y, rfl, hab, hy, c0', c1'⟩ := (H.out.belowOf (Hb3.out.trans (hb.mono hsz3)) (Nat.le_refl _)).at_ hlt
              have Hym := Lib.hid (List.mem_of_getElem? hy)
              have Hyt := Lib.hid (fun s => take_in hy s)
              have Hsm := Lib.hid (small_mem Hg.out.1.small Hym.out HtA.out.2)
              have Hys := Lib.hid (HtA.out.2 y Hym.out)
              have hk0 : (0 : Int) ≤ (j : Int) := by omega
              have hk1 : (j : Int) < (n : Int) := by omega
              have Hc0 := Lib.hid (And.intro c0' c1')
              have hab2 : a.block < w.heap.size := hab
              obtain ⟨yl, yh⟩ := y
              simp only at c0' c1' Hc0
              clear hy hb hab
              have hab3 : a.block < wr.heap.size := by omega
              go_wp2_with (first
                | (at_builtin; refine wpList_append_hasN rfl (.tmp 63) (.tmp 64) _ rfl 25 rg_elem (by omega) Try.underlying67 rfl (own_one wr ⟨yl, yh⟩ wr.heap.size (Nat.le_refl _)) rfl (Xj.out.2.alloc (Nat.le_refl _) _) (rgCells_one _) (by simp only [maxLen]; omega) (by omega) (by simp only [World.size_alloc]; omega) ?_; intro v5 w5 o5 g5 z5; obtain ⟨A5, c5, rfl, -, -, -⟩ := own_sliceN o5; have HX5 : Hid (HasRgs w5 w5.heap.size A5 (1 + M2) (⟨yl, yh⟩ :: m)) := Lib.hid (own_has o5 (by rw [List.length_cons, HM2.out]; omega)); have Hb5 : Hid (Below wr.heap.size wr w5) := Lib.hid ((below_box _).grown g5 (by simp only [World.size_alloc]; omega) fun q hq => ((own_one wr ⟨yl, yh⟩ wr.heap.size (Nat.le_refl _)).lt q hq).1); clear o5 g5 z5)
                | (go_at_call 44; refine (HL2.out _ _ _ _ _ HX5.out (by omega) Hsm.out.2).mono ?_; rintro e w6 ⟨m6, v6, rfl, o6, f6, k6, s6, b6⟩; obtain ⟨A6, c6, rfl, -, -, x6⟩ := o6.slice; have hb6 := Hb5.out.trans (b6.mono Hb5.out.size); have hab6 : a.block < w6.heap.size := Nat.lt_of_lt_of_le hab3 hb6.size; have d0 : w6.cell? (a.add (j * 2)) = some (.string yl) := below_cell hb6 (by rw [addr_block]; exact hab3) c0'; have d1 : w6.cell? ⟨(a.add (j * 2)).block, (a.add (j * 2)).off + 1, none⟩ = some (.string yh) := below_cell hb6 (by show (a.add (j * 2)).block < _; rw [addr_block]; exact hab3) c1'; have HR6 := Lib.hid (And.intro o6 (And.intro f6 (And.intro k6 (And.intro s6 (And.intro b6 (And.intro hb6 x6)))))); clear o6 f6 k6 s6 b6 x6 hb6))
              obtain ⟨o6, f6, k6, s6, b6, hb6, x6⟩ := HR6.out
              have HE6 : Hid (OwnRgs w6 w3.heap.size (.slice A6 m6.length c6) m6 ∧ Below w3.heap.size w3 w6 ∧ Grown l m6 (100 + (j + 1)) ∧ ∀ s, inS m6 s ↔ hasR ⟨yl, yh⟩ s ∨ inS m s) := Lib.hid ⟨own_baseN o6 (Nat.le_trans hszj Hb5.out.size), Hbj.out.trans (hb6.mono hszj), Hg.out.1.next Hym.out (fun s => by rw [in_cons]; exact or_comm) f6 s6 (by omega), fun s => (f6.2 s).trans in_cons⟩
              have X6 := Lib.hid x6
              have hk6 : m6.length ≤ 200 := by omega
              clear o6 f6 k6 s6 b6 x6 hb6 HR6
              have Hcov : Hid (coversB m6 ⟨yl, yh⟩ = true ∧ coversB m0 ⟨yl, yh⟩ = true) := Lib.hid ⟨coversB_true fun s hs => (HE6.out.2.2.2 s).2 (.inl hs), coversB_true fun s hs => (HF0.out.1.2 s).2 ⟨_, Hym.out, hs⟩⟩
              have HC1 := Lib.hid (HCo.out A6 m6.length c6 m6 ⟨yl, yh⟩ w6.heap.size w6 X6.out (Nat.le_refl _) (by omega) HE6.out.2.2.1.small Hys.out)
              rw [Hcov.out.1] at HC1
              refine HC1.out.mono ?_
              rintro e w7 ⟨rfl, b7⟩
              have e0 : w7.cell? (a.add (j * 2)) = some (.string yl) := below_cell b7 (by rw [addr_block]; exact hab6) d0
              have e1 : w7.cell? ⟨(a.add (j * 2)).block, (a.add (j * 2)).off + 1, none⟩ = some (.string yh) := below_cell b7 (by show (a.add (j * 2)).block < _; rw [addr_block]; exact hab6) d1
              have Hb7 : Hid (Below w3.heap.size w3 w7) := Lib.hid (HE6.out.2.1.trans (b7.mono HE6.out.2.1.size))
              have Ho7 : Hid (OwnRgs w7 w3.heap.size (.slice A6 m6.length c6) m6) := Lib.hid (HE6.out.1.below b7)
              have HC2 := Lib.hid (HCo.out A0 N0 c0 m0 ⟨yl, yh⟩ w3.heap.size w7 (X0.out.belowOf Hb7.out (Nat.le_refl _)) Hb7.out.size (by omega) HF0.out.2.1 Hys.out)
              rw [Hcov.out.2] at HC2
              have hsz7 := Hb7.out.size
              clear b7 d0 d1 c0' c1'
              go_wp2_with fail
              refine HC2.out.mono ?_
              rintro e w8 ⟨rfl, b8⟩
              have Hb8 : Hid (Below w3.heap.size w3 w8) := Lib.hid (Hb7.out.trans (b8.mono hsz7))
              have Ho8 : Hid (OwnRgs w8 w3.heap.size (.slice A6 m6.length c6) m6) := Lib.hid (Ho7.out.below b8)
              have Hg8 : Hid (Grown l m6 (100 + (j + 1)) ∧ ∀ s, inS (l.take (j + 1)) s → inS m6 s) := Lib.hid ⟨HE6.out.2.2.1, fun s hs => by
                rcases (Hyt.out s).1 hs with h1 | h1
                · exact (HE6.out.2.2.2 s).2 (.inr (Hg.out.2 s h1))
                · exact (HE6.out.2.2.2 s).2 (.inl h1)⟩
              clear b8 e0 e1
              go_wp2
              go_roundw
              case rel => exact ⟨j + 1, by omega, by go_num, ⟨m6, Ho8.out, Hg8⟩, Hb8.out⟩
              case measure => simp [intOf]; omega
            · obtain rfl : j = n := by omega
              have Heq : Hid (m = m0) := Lib.hid (isForm_uniq ⟨Hg.out.1.form, fun s => ⟨Hg.out.1.sub s, fun hs => Hg.out.2 s (by rw [List.take_of_length_le (by have := Hl.out; omega)]; exact hs)⟩⟩ HF0.out.1 (fun _ => Iff.rfl))
              have hM2b : M2 ≤ 200 := by omega
              have Y0 := Lib.hid ((X0.out.belowOf hb (Nat.le_refl _)).more hszj)
              have Hbw := Lib.hid (Hb3.out.trans (hb.mono hsz3))
              clear hb Hbj
              generalize wr = w4 at *
              go_wp2
              go_loopw [9] (fun iv wr => ∃ i : Nat, iv = .int .i64 ((i + 1 : Nat) : Int) ∧ i ≤ N0 ∧ Below w4.heap.size w4 wr) (fun iv _ => N0 - (intOf iv).toNat)
              case atStart => exact ⟨0, rfl, by omega, Below.refl _ _⟩
              case round =>
                obtain ⟨i, rfl, hi, hb⟩ := hrel
                have Hbi := Lib.hid hb
                have hszi := hb.size
                by_cases hlt2 : i + 1 < N0
                · obtain ⟨a, x, rfl, hab, hx, c0', c1'⟩ := (Y0.out.belowOf hb (Nat.le_refl _)).at_ (i := i) (by omega)
                  obtain ⟨a', y, ea, hab', hy, d0, d1⟩ := (Y0.out.belowOf hb (Nat.le_refl _)).at_ (i := i + 1) (by omega)
                  injection ea with ea
                  subst ea
                  obtain ⟨hil, exi⟩ := List.getElem?_eq_some_iff.1 hx
                  obtain ⟨hjl, eyi⟩ := List.getElem?_eq_some_iff.1 hy
                  have hgap := List.pairwise_iff_getElem.1 HF0.out.1.1.2 i (i + 1) hil hjl (by omega)
                  rw [exi, eyi] at hgap
                  obtain ⟨xl, xh⟩ := x
                  obtain ⟨yl, yh⟩ := y
                  have h1 : xh.toList.isEmpty = false := text_nil fun e => hgap.1 (by unfold Rg.hb; rw [e])
                  have h2 : Op.bytesLess xh.toList yl.toList = true := by rw [text_less]; exact decide_eq_true hgap.2
                  have h3 : (xh.toList == yl.toList) = false := by rw [text_eq]; exact decide_eq_false fun e => by have h4 := hgap.2; unfold Rg.hb Rg.lb at h4; rw [e] at h4; exact lt_irr _ h4
                  simp only at c1' d0
                  have hi0 : (0 : Int) ≤ (i : Int) := by omega
                  have hi1 : (i : Int) < (N0 : Int) := by omega
                  have hi2 : (0 : Int) ≤ (i : Int) + 1 := by omega
                  have hi3 : (i : Int) + 1 < (N0 : Int) := by omega
                  have d0' : wr.cell? ⟨a.block, a.off + (i + 1) * 2, none⟩ = some (.string yl) := by
                    have e : a.add ((i + 1) * 2) = ⟨a.block, a.off + (i + 1) * 2, none⟩ := by unfold Addr.add; rw [if_neg (by omega)]
                    rw [← e]; exact d0
                  have Hbq : Hid (∀ q, Below w4.heap.size w4 (wr.drewN q)) := Lib.hid fun q => below_drR hb q
                  clear c0' d1 hx hy hil hjl exi eyi hgap hb
                  go_wp2
                  go_quiet (fail)
                  have HbE := Lib.hid (Hbq.out nq)
                  go_wp2
                  go_roundw
                  case rel => exact ⟨i + 1, by go_num, by omega, HbE.out⟩
                  case measure => simp [intOf]; omega
                · have hii : (N0 : Int) ≤ (i : Int) + 1 := by omega
                  have Hsame := Lib.hid (same_true (c := cj) (c' := c0) ((Xj.out.belowOf hb (Nat.le_refl _)).more hszi) (by rw [Heq.out]; exact (Y0.out.belowOf hb (Nat.le_refl _)).more hszi) (by omega) (by omega))
                  clear hb
                  go_wp2_with fail
                  refine Hsame.out.mono ?_
                  rintro e w9 ⟨rfl, b9⟩
                  have HE := Lib.hid (Hbw.out.trans ((Hbi.out.trans (b9.mono hszi)).mono Hbw.out.size))
                  clear b9
                  go_wp2
                  go_ret
                  exact ⟨rfl, HE.out⟩

namespace lawSpanGrows
open Go.ChangeShapes Go.WideShapes Go.ChangeAt

theorem own : ownKnob Try.prog.godebug = none := by kernel_rfl
theorem kids : Kids Try.prog (· < Try.prog.types.size) := kids_rows (by kernel_rfl) (by kernel_rfl)
theorem full : ∀ t e, t < Try.prog.types.size → Try.prog.underlying t = some (.slice e) → 0 < Try.prog.cellsOf e := slices_full_of Try.prog (by kernel_rfl)

set_option maxRecDepth 100000 in
theorem lifted (os : Os) (started : os.Started) (H : Type) (enc : TypeId × Value → H) :
    ReturnsInHanded {} Try.checked os 10 .any (Rows.spanGrowsSpec.pre6 enc Try.prog Try.f10 Rows.spanGrowsRow.domain false) (Rows.spanGrowsSpec.post enc Try.prog Try.f10 false true false false) := by
  refine returnsInHanded_of_change (C := Try.checked) own started (by kernel_rfl) Try.func10
    (ChangeSpec.witness6 (enc := enc) (C := Try.checked) false ⟨#[], #[.slice none 0 0, .slice none 0 0], []⟩ 8 (by kernel_rfl) (by kernel_rfl) (by kernel_rfl) (by kernel_rfl)) ?_
  intro W base args ds gs before hval0 hW _ _
  have hval : ∀ (j : Nat) t v, Try.f10.params[j]? = some t → args[j]? = some v → Value.okWide Try.prog W .any base t v := hval0
  have hW' := hW
  obtain ⟨p, q, hA0, hV, rfl, _, _⟩ := hW
  obtain ⟨rfl, rfl⟩ := trodVars_none hV
  have hA : DataW.TrodAll enc Try.prog W 0 (fun _ => true) true Try.f10.params.toList args.toList ds p := hA0
  rw [Try.params10] at hA hval
  obtain ⟨v0, vs0, d0, ds0, p0, q0, hargs, rfl, rfl, h0, r0⟩ := trodAll_cons hA
  obtain ⟨v1, vs1, d1, ds1, p1, q1, rfl, rfl, rfl, h1, r1⟩ := trodAll_cons r0
  obtain ⟨rfl, rfl, rfl⟩ := trodAll_nil r1
  obtain rfl : args = #[v0, v1] := by cases args; simp_all
  have hlt := hW'.lt
  obtain ⟨A0, n0, c0, l0, rfl, hnc0, hm0, hb0, hs0⟩ := open_rgs Try.underlying67 Try.underlying25 (by kernel_rfl) ⟨rfl, rfl⟩ ⟨by kernel_rfl, by kernel_rfl⟩ ⟨by kernel_rfl, by kernel_rfl⟩ (hval 0 67 v0 rfl rfl) h0 (fun x hx => hlt x (by simp [hx]))
  obtain ⟨A1, n1, c1, zs1, rfl, hn1, hnc1, hb1, hw1⟩ := open_nums Try.underlying78 Try.underlying3 (by kernel_rfl) (hval 1 78 v1 rfl rfl) h1 (fun x hx => hlt x (by simp [hx]))
  refine (grows_walk A0 A1 n0 c0 n1 c1 l0 zs1 W hb0 hnc0 hm0 hs0 hb1 hn1).mono fun e W' ⟨he, hbel⟩ => ?_
  subst he
  exact ⟨_, rfl, law_post kids full (of_decide_eq_true (by kernel_rfl)) Try.underlying4 rfl rfl rfl hW' hbel⟩

theorem proved : Rows.SpanGrowsSaid :=
  OpenClaim.holds_of_wide 10 Try.f10 rfl rfl rfl rfl rfl rfl rfl ⟨rfl, rfl, rfl, rfl, rfl⟩ rfl rfl rfl rfl rfl (by kernel_rfl) Try.func10 (by kernel_rfl)
    (of_decide_eq_true (by kernel_rfl)) (by unfold Func.isWrapper; first | (rw [if_pos (by decide +kernel)]; kernel_rfl) | (rw [if_neg (by decide +kernel)]; exact ⟨rfl, rfl⟩))
    (fun os started H enc _ => lifted os started H enc)
end lawSpanGrows

end Go.Proofs.Ytoifhpeohbbekaa
