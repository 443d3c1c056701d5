/- The law DiskMemory: for every input it returns true and leaves what it was given. No condition. -/
import Derived.Test.YtbiifmcfamgmfaaDskK
import Derived.Test.YtbiifmcfamgmfaaOpenRs
namespace Go.Proofs.Ytbiifmcfamgmfaa
open Go.RowKit
open Go.Lib (strCells)

theorem up_ge {D : Nat → Prop} {b : Nat} {w w' : World} (hD : ∀ g, D g → b ≤ g) (hb : b ≤ w.heap.size) : ∀ g, Up D w w' g → b ≤ g := fun g e => by
  rcases e with e | e
  · exact hD g e
  · omega
theorem mem_app (a : List UInt8) : ([] ++ byteCells a) ++ [.int .u8 1] = byteCells (a ++ [1]) := by rw [List.nil_append, byteCells_app]; rfl
theorem own_eqM {w : World} {B m m' : Nat} {v : Value} {xs xs' : List Value} (h : w.ownsRow B 5 1 v m xs) (hm : m = m') (hx : xs = xs') : w.ownsRow B 5 1 v m' xs' := by
  subst hm
  subst hx
  exact h
theorem OwnRs.grown {w w' : World} {B m : Nat} {v : Value} {rs : Brs} {r : Option Nat} (h : OwnRs w B v rs) (hg : w.grownBy w' r) (hr : ∀ g, r = some g → m ≤ g) (hv : ∀ g, v.ownBlock = some g → g < m) (hrs : ∀ x ∈ rs, ∀ g, x.1.ownBlock = some g → g < m) : OwnRs w' B v rs :=
  ⟨own_keep1 h.own fun g hgx => hg.block g (h.own.lt g hgx).2 fun e => by have := hr g e.symm; have := hv g hgx; omega, fun x hx => own_keep1 (h.rows x hx) fun g hgx => hg.block g ((h.rows x hx).lt g hgx).2 fun e => by have := hr g e.symm; have := hrs x hx g hgx; omega, h.apart⟩

set_option maxRecDepth 100000 in
set_option maxHeartbeats 12800000 in
theorem diskMemory_walk (A : Option Addr) (n c : Nat) (rs : Brs) (As : Option Addr) (ns cs : Nat) (st : List UInt8) (w : World) (h : HasRs w w.heap.size A n rs) (hn : n ≤ maxLen) (hs : HasBytes w w.heap.size As ns st) :
    Calls Try.prog 6 #[.slice A n c, .slice As ns cs] w fun e w' => e = .returned (.bool true) ∧ Below w.heap.size w w' := by
  have H := Lib.hid h
  have Hn := Lib.hid hn
  have Hs := Lib.hid hs
  have Hsl := Lib.hid hs.len
  have HL := Lib.hid (brLists_at h)
  obtain ⟨L, hL⟩ : ∃ L, brLists rs = L := ⟨_, rfl⟩
  have HLe := Lib.hid hL
  rw [hL] at HL
  clear h hn hL hs
  go_enter Try.func6, Try.ntmps6
  go_wp2_with fail
  refine (awake_any _).mono ?_
  rintro e w1 ⟨rfl, hb1⟩
  have Hb1 := Lib.hid hb1
  have H1 := Lib.hid (H.out.belowOf hb1 (Nat.le_refl _))
  clear hb1
  go_wp2_with fail
  refine (bulk_any 4000 A n c w.heap.size rs w1 H1.out (by omega) Hn.out).mono ?_
  rintro e w2 ⟨⟨m, rfl, hm⟩, rfl⟩
  rw [HLe.out] at hm
  have Hm := Lib.hid hm
  clear hm
  by_cases hmm : 4000 < m
  · go_wp2
    go_ret
    exact ⟨rfl, Hb1.out⟩
  by_cases hn6 : 60 < n
  · go_wp2
    go_ret
    exact ⟨rfl, Hb1.out⟩
  by_cases hns : 4000 < ns
  · go_wp2
    go_ret
    exact ⟨rfl, Hb1.out⟩
  have hbulk := Hm.out (by omega)
  have hLn := bulk_len L
  rw [HL.out] at hLn
  have Hsz : Hid (∀ k, begD L k ≤ 36000) := Lib.hid fun k => by have := begD_le L k; rw [HL.out] at this; omega
  have Hmem : Hid (∀ l ∈ L, l.length ≤ 4000) := Lib.hid fun l hl => by have := bulk_mem hl; omega
  clear hbulk hLn Hm
  go_wp2_with fail
  refine (new_law 4194304 w.heap.size w w1 (by omega) Hb1.out (Nat.le_refl _)).mono ?_
  rintro e w2 ⟨sb, rfl, hz, hb2⟩
  have Hz := Lib.hid hz
  have Hb2 := Lib.hid hb2
  clear hz hb2
  go_wp2_with fail
  refine (start0_law Hz.out Hb2.out (Nat.le_refl _)).mono ?_
  rintro e w3 ⟨s3, v3, rfl, h3⟩
  have H3 := Lib.hid h3
  have Hs3 := Lib.hid (Hs.out.belowOf h3.below (Nat.le_refl _))
  have Hz3 := Lib.hid h3.below.size
  clear h3
  go_wp2_with (at_builtin; refine wpList_append_has rfl (.tmp 44) (.tmp 45) _ rfl 5 u8_elem Try.underlying29 rfl (bempty_own w3 w3.heap.size rfl _ w3.heap.size (Nat.le_refl _)) rfl (Has.alloc Hs3.out Hz3.out _) (byteCells_one _) (by simp only [maxLen]; omega) (by omega) (by simp) ?_; intro v4 w4 hown4 hg4 hz4; have Hb4 : Hid (Below w3.heap.size w3 w4) := Lib.hid (below_own (dsk_alloc _ _) (bempty_own w3 w3.heap.size rfl _ w3.heap.size (Nat.le_refl _)) hg4 (by simp)); have hown4' := own_eqM hown4 (Nat.zero_add _) (List.nil_append _); obtain ⟨A4, c4, rfl, -, -, hh4⟩ := own_slice hown4'; have Hown4 := Lib.hid hown4'; have Hh4 := Lib.hid hh4; clear hown4 hg4 hz4 hown4' hh4)
  have hTT := takenN_le st
  rw [Hsl.out] at hTT
  have HT := Lib.hid hTT
  have Hbb : Hid (Below w.heap.size w w4) := Lib.hid (H3.out.below.trans (Hb4.out.mono Hz3.out))
  have hcp := checkpoint_ok (H3.out.disk.now.below Hb4.out) rfl rfl A4 c4 w4.heap.size st (by rw [Hsl.out]; exact Hh4.out) (Nat.le_refl _) (by rw [Hsl.out]; omega) (show takenN st ≤ 4194304 by omega)
  rw [Hsl.out] at hcp
  have Hcp := Lib.hid hcp
  clear hcp hTT
  go_wp2_with fail
  refine Hcp.out.mono ?_
  rintro e w5 ⟨rfl, hd5, k5⟩
  have Hd5 := Lib.hid hd5.disk
  have Hb5 : Hid (Below w.heap.size w w5) := Lib.hid (Hbb.out.trans (k5.below (fun _ hg => hg.1) Hbb.out.size))
  have Own5 : Hid (w5.ownsRow w3.heap.size 5 1 (.slice A4 ns c4) ns (byteCells st)) := Lib.hid (own_keep1 Hown4.out fun g hg => k5.block g (Hown4.out.lt g hg).2 fun e => by have := (Hown4.out.lt g hg).1; omega)
  clear hd5 k5
  go_wp2
  go_loopw [8] (fun i wq => ∃ (q : Nat) (ys : List UInt8), q ≤ ns ∧ i = .int .i64 (q : Int) ∧ wq.ownsRow w3.heap.size 5 1 (.slice A4 ns c4) ns (byteCells ys) ∧ w5.grownBy wq (Value.slice A4 ns c4).ownBlock) (fun i _ => ns - (intOf i).toNat)
  case atStart => exact ⟨0, _, by omega, rfl, Own5.out, World.grownBy.refl _ _⟩
  case round =>
    obtain ⟨q, ys, hq, rfl, hoq, hgq⟩ := hrel
    have Hgq := Lib.hid hgq
    clear hgq
    by_cases hqz : q < ns
    · have hoq0 := hoq
      obtain ⟨g, hA, hgB⟩ := own_at hoq (by omega)
      rw [hA] at hoq
      obtain ⟨y, hcq⟩ : ∃ y : UInt8, wr.cell? ⟨g, q, none⟩ = some (.int .u8 (y.toNat : Int)) := by
        have hyl : ys.length = ns := by have := hoq.1; rw [byteCells_length] at this; omega
        rw [hoq.cellAt q (by omega)]
        exact ⟨ys[q], by simp [byteCells, show q < ys.length by omega]⟩
      have hfq := hoq.frozenAt q
      have hfl := u8_all y
      have hst := hoq.stored q (.int .u8 ((y ^^^ 255).toNat : Int))
      rw [byteCells_set] at hst
      have Hst := Lib.hid hst
      have q0 : (0 : Int) ≤ (q : Int) := by omega
      have q1 : (q : Int) < (ns : Int) := by omega
      subst hA
      clear hoq hoq0 hst
      go_wp2
      go_roundw
      case rel => exact ⟨q + 1, _, by omega, by go_num, Hst.out.1, grownBy_more Hgq.out Hst.out.2⟩
      case measure => simp [intOf]; omega
    · have hqi : (ns : Int) ≤ (q : Int) := by omega
      clear hoq
      have hq5 : After w.heap.size sb w ⟨4194304, true, st, [], [], true⟩ wr := (after_row Hd5.out Hb5.out (Nat.le_refl _) (up_ge (fun _ hg => hg.1) Hbb.out.size) Hgq.out (fun g e => by
        have h1 := Hown4.out.lt g e
        have h2 := Hz3.out
        refine ⟨fun e' => ?_, by omega⟩
        rcases e' with e' | e' <;> omega)).eq rfl
      have HQ5 := Lib.hid (hq5.eq (appSt_zero 4194304 st [] L).symm)
      clear hq5 Hgq
      generalize wr = wa at *
      go_wp2_with fail
      go_loopw [9, 10, 11] (fun i _ _ wr => ∃ k : Nat, k ≤ n ∧ i = .int .i64 (k : Int) ∧ After w.heap.size sb w (appSt 4194304 st [] L k) wr) (fun i _ _ _ => n - (intOf i).toNat)
      case atStart => exact ⟨0, by omega, rfl, HQ5.out⟩
      case round =>
        obtain ⟨k, hk, rfl, ha⟩ := hrel
        have Ha := Lib.hid ha
        have Hza := Lib.hid ha.below.size
        clear ha
        by_cases hlt : k < n
        · obtain ⟨a, Az, z, cz, l, rfl, hab, hlk, hzc, hcm, hbl, hc⟩ := H.out.at_ hlt
          rw [HLe.out] at hlk
          have hzl : l.length = z := hbl.len
          have hz4 : z ≤ 4000 := by rw [← hzl]; exact Hmem.out l (List.mem_of_getElem? hlk)
          have k0 : (0 : Int) ≤ (k : Int) := by omega
          have k1 : (k : Int) < (n : Int) := by omega
          have Hcell : Hid (∀ wx, Below w.heap.size w wx → wx.cell? (a.add k) = some (.slice Az z cz)) := Lib.hid fun wx hx => (hx.cell (p := a.add k) (by rw [addr_block]; exact hab)).trans hc
          have Hbl := Lib.hid hbl
          have Hzl := Lib.hid hzl
          have Hlk := Lib.hid hlk
          have Hba := Lib.hid (Hbl.out.belowOf Ha.out.below (Nat.le_refl _))
          have ca : (wr.alloc (.cells #[] 5)).cell? (a.add k) = some (.slice Az z cz) := Hcell.out _ (Ha.out.below.trans ((dsk_alloc wr _).mono Hza.out))
          clear hlk hzl hzc hcm hbl hc hab
          go_wp2_with (first
            | (at_builtin; refine wpList_append_has rfl (.tmp 70) (.tmp 74) _ rfl 5 u8_elem Try.underlying29 rfl (bempty_own wr wr.heap.size rfl _ wr.heap.size (Nat.le_refl _)) rfl (Has.alloc Hba.out Hza.out _) (byteCells_one _) (by simp only [maxLen]; omega) (by omega) (by simp) ?_; intro v6 w6 hown6 hg6 hz6; have Hb6 : Hid (Below wr.heap.size wr w6) := Lib.hid (below_own (dsk_alloc _ _) (bempty_own wr wr.heap.size rfl _ wr.heap.size (Nat.le_refl _)) hg6 (by simp)); have Hown6 := Lib.hid hown6; clear hown6 hg6 hz6 ca)
            | (at_builtin; refine wpList_append_has rfl (.tmp 75) (.tmp 76) _ rfl 5 u8_elem Try.underlying29 rfl (own_below Hown6.out (dsk_alloc w6 _)) rfl (Has.one w6 (.int .u8 1) _ _ rfl) (one_int _ _) (by simp only [maxLen]; omega) (by omega) (le_alloc Hb6.out.size _) ?_; intro v7 w7 hown7 hg7 hz7; have Hb7 : Hid (Below wr.heap.size wr w7) := Lib.hid (below_own (Hb6.out.alloc Hb6.out.size _) (own_below Hown6.out (dsk_alloc w6 _)) hg7 (le_alloc Hb6.out.size _)); have hown7' := own_eqM hown7 (show 0 + z + 1 = z + 1 by omega) (mem_app l); obtain ⟨A7, c7, rfl, hc7, -, hh7⟩ := own_slice hown7'; obtain ⟨g7, rfl, -⟩ := own_at hown7' (by omega); have Hown7 := Lib.hid hown7'; have Hh7 := Lib.hid hh7; have Hbb7 : Hid (Below w.heap.size w w7) := Lib.hid (Ha.out.below.trans (Hb7.out.mono Hza.out)); have cell7 := Hcell.out w7 Hbb7.out; have z0 : (0 : Int) ≤ (z : Int) := (by omega); have z1 : (z : Int) ≤ (c7 : Int) := (by omega); clear hown7 hg7 hz7 hown7' hh7 hc7))
          have hh7 := HasBytes.head Hh7.out (k := z) (by omega)
          rw [List.take_left' Hzl.out] at hh7
          have hbk := Hsz.out k
          have hTT := HT.out
          have Hap := Lib.hid (append_ok (Ha.out.disk.now.below Hb7.out) rfl rfl _ z c7 w7.heap.size l hh7 (Nat.le_refl _) (by omega) (by show st.length ≤ _; rw [Hsl.out]; omega) (by rw [appSt_len]; simp only [List.length_nil]; omega) (by rw [appSt_waits]; omega) (by rw [appSt_used]; simp only [List.length_nil]; show _ ≤ 4194304; omega))
          have Hss := Lib.hid (appSt_succ (room := 4194304) (C := st) (F := []) Hlk.out)
          clear hh7 hbk hTT cell7
          go_wp2_with fail
          refine Hap.out.mono ?_
          rintro e w8 ⟨rfl, hd8, k8⟩
          have Hd8 := Lib.hid (hd8.eq Hss.out)
          have Hb8 : Hid (Below w.heap.size w w8) := Lib.hid (Hbb7.out.trans (k8.below (fun _ hg => hg.1) Hbb7.out.size))
          have own8 : w8.ownsRow wr.heap.size 5 1 (.slice (some ⟨g7, 0, none⟩) (z + 1) c7) (z + 1) (byteCells (l ++ [1])) := own_keep1 Hown7.out fun g hg => k8.block g (Hown7.out.lt g hg).2 fun e => by have := (Hown7.out.lt g hg).1; omega
          have Own8 := Lib.hid own8
          have cell8 := Hcell.out w8 Hb8.out
          have one8 : w8.cell? ⟨g7, z, none⟩ = some (.int .u8 1) := by
            rw [own8.cellAt z (by omega)]
            have := Hzl.out
            subst this
            simp [byteCells]
          have zz : (z : Int) < (z : Int) + 1 := by omega
          clear hd8 k8 own8
          generalize wr = wa1 at *
          go_wp2
          go_loopw [11] (fun i wq => ∃ (q : Nat) (ys : List UInt8), q ≤ (z + 1) ∧ i = .int .i64 (q : Int) ∧ wq.ownsRow wa1.heap.size 5 1 (.slice (some ⟨g7, 0, none⟩) (z + 1) c7) (z + 1) (byteCells ys) ∧ w8.grownBy wq (Value.slice (some ⟨g7, 0, none⟩) (z + 1) c7).ownBlock) (fun i _ => (z + 1) - (intOf i).toNat)
          case atStart => exact ⟨0, _, by omega, rfl, Own8.out, World.grownBy.refl _ _⟩
          case round =>
            obtain ⟨q, ys, hq, rfl, hoq, hgq⟩ := hrel
            have Hgq := Lib.hid hgq
            clear hgq
            by_cases hqz : q < (z + 1)
            · have hoq0 := hoq
              obtain ⟨g, hA, hgB⟩ := own_at hoq (by omega)
              rw [hA] at hoq
              obtain ⟨y, hcq⟩ : ∃ y : UInt8, wr.cell? ⟨g, q, none⟩ = some (.int .u8 (y.toNat : Int)) := by
                have hyl : ys.length = (z + 1) := by have := hoq.1; rw [byteCells_length] at this; omega
                rw [hoq.cellAt q (by omega)]
                exact ⟨ys[q], by simp [byteCells, show q < ys.length by omega]⟩
              have hfq := hoq.frozenAt q
              have hfl := u8_all y
              have hst := hoq.stored q (.int .u8 ((y ^^^ 255).toNat : Int))
              rw [byteCells_set] at hst
              have Hst := Lib.hid hst
              have q0 : (0 : Int) ≤ (q : Int) := by omega
              have q1 : (q : Int) < (z : Int) + 1 := by omega
              obtain rfl : g7 = g := by
                injection hA with hA
                injection hA
              clear hoq hoq0 hst
              go_wp2
              go_roundw
              case rel => exact ⟨q + 1, _, by omega, by go_num, Hst.out.1, grownBy_more Hgq.out Hst.out.2⟩
              case measure => simp [intOf]; omega
            · have hqi : (z : Int) + 1 ≤ (q : Int) := by omega
              clear hoq
              have hq8 : After w.heap.size sb w (appSt 4194304 st [] L (k + 1)) wr := after_row Hd8.out Hb8.out (Nat.le_refl _) (up_ge (fun _ hg => hg.1) Hbb7.out.size) Hgq.out (fun g e => by
                have h1 := Hown7.out.lt g e
                have h2 := Hza.out
                refine ⟨fun e' => ?_, by omega⟩
                rcases e' with e' | e' <;> omega)
              have HQ8 := Lib.hid hq8
              clear hq8 Hgq
              go_wp2
              go_roundw
              case rel => exact ⟨k + 1, by omega, by go_num, HQ8.out⟩
              case measure => simp [intOf]; omega
        · obtain rfl : k = n := by omega
          have hF : (frames L).length ≤ 36000 := by
            have := Hsz.out L.length
            unfold begD at this
            rwa [List.take_length] at this
          obtain ⟨f, hf⟩ : ∃ f, (frames L).length = f := ⟨_, rfl⟩
          rw [hf] at hF
          have Hf := Lib.hid hf
          clear hf
          go_wp2_with fail
          refine (sync_law Ha.out rfl).mono ?_
          rintro e w9 ⟨rfl, h9⟩
          have H9 := Lib.hid (h9.eq (S' := ⟨4194304, true, st, frames L, [], true⟩) (by simp only [appSt, List.nil_append]; rw [List.take_of_length_le (by rw [HL.out]; exact Nat.le_refl _)]))
          clear h9
          have hlog := log_any H9.out.disk.now (by show (frames L).length ≤ _; rw [Hf.out]; omega)
          simp only [Hf.out] at hlog
          have Hlog := Lib.hid hlog
          clear hlog
          go_wp2_with fail
          refine Hlog.out.mono ?_
          rintro e w10 ⟨v10, rfl, ho10, hb10⟩
          obtain ⟨A10, c10, rfl, -, -, -⟩ := own_slice ho10
          have Own10 := Lib.hid ho10
          have Hd10 := Lib.hid (H9.out.disk.now.below hb10)
          have Hb10 : Hid (Below w.heap.size w w10) := Lib.hid (H9.out.below.trans (hb10.mono H9.out.below.size))
          have Hz9 := Lib.hid H9.out.below.size
          clear ho10 hb10
          generalize wr = wa2 at *
          go_wp2
          go_loopw [13] (fun i wq => ∃ (q : Nat) (ys : List UInt8), q ≤ f ∧ i = .int .i64 (q : Int) ∧ wq.ownsRow w9.heap.size 5 1 (.slice A10 f c10) f (byteCells ys) ∧ w10.grownBy wq (Value.slice A10 f c10).ownBlock) (fun i _ => f - (intOf i).toNat)
          case atStart => exact ⟨0, _, by omega, rfl, Own10.out, World.grownBy.refl _ _⟩
          case round =>
            obtain ⟨q, ys, hq, rfl, hoq, hgq⟩ := hrel
            have Hgq := Lib.hid hgq
            clear hgq
            by_cases hqz : q < f
            · have hoq0 := hoq
              obtain ⟨g, hA, hgB⟩ := own_at hoq (by omega)
              rw [hA] at hoq
              obtain ⟨y, hcq⟩ : ∃ y : UInt8, wr.cell? ⟨g, q, none⟩ = some (.int .u8 (y.toNat : Int)) := by
                have hyl : ys.length = f := by have := hoq.1; rw [byteCells_length] at this; omega
                rw [hoq.cellAt q (by omega)]
                exact ⟨ys[q], by simp [byteCells, show q < ys.length by omega]⟩
              have hfq := hoq.frozenAt q
              have hfl := u8_all y
              have hst := hoq.stored q (.int .u8 ((y ^^^ 255).toNat : Int))
              rw [byteCells_set] at hst
              have Hst := Lib.hid hst
              have q0 : (0 : Int) ≤ (q : Int) := by omega
              have q1 : (q : Int) < (f : Int) := by omega
              subst hA
              clear hoq hoq0 hst
              go_wp2
              go_roundw
              case rel => exact ⟨q + 1, _, by omega, by go_num, Hst.out.1, grownBy_more Hgq.out Hst.out.2⟩
              case measure => simp [intOf]; omega
            · have hqi : (f : Int) ≤ (q : Int) := by omega
              clear hoq
              have hq10 : After w.heap.size sb w ⟨4194304, true, st, frames L, [], true⟩ wr := after_row Hd10.out Hb10.out (Nat.le_refl _) (fun _ e => e.1) Hgq.out (fun g e => by
                have h1 := Own10.out.lt g e
                have h2 := Hz9.out
                exact ⟨fun e' => absurd e'.2 (by omega), by omega⟩)
              have HQ10 := Lib.hid hq10
              clear hq10 Hgq
              generalize wr = wa3 at *
              go_wp2_with fail
              go_loopw [14, 15, 16, 17, 18, 19, 20] (fun i _ _ _ _ _ _ wr => ∃ t : Nat, t ≤ 2 ∧ i = .int .i64 (t : Int) ∧ ∃ kk : Bool, After w.heap.size sb w ⟨4194304, true, st, frames L, [], kk⟩ wr) (fun i _ _ _ _ _ _ _ => 2 - (intOf i).toNat)
              case atStart => exact ⟨0, by omega, rfl, true, HQ10.out⟩
              case round =>
                obtain ⟨t, ht, rfl, kk, ha⟩ := hrel
                have Ha := Lib.hid ha
                clear ha
                by_cases ht2 : t < 2
                · have t1 : (t : Int) < 2 := by omega
                  go_wp2_with fail
                  refine (crashAll_law Ha.out rfl 0 0 0 rfl (by simp)).mono ?_
                  rintro e w11 ⟨rfl, h11⟩
                  have H11 := Lib.hid h11
                  have hst := start_any h11.disk.now.z rfl (by show (frames L).length ≤ _; rw [Hf.out]; omega) (by show st.length ≤ _; rw [Hsl.out]; omega)
                  have Hst := Lib.hid hst
                  clear h11 hst
                  go_wp2_with fail
                  refine Hst.out.mono ?_
                  rintro e w12 ⟨s, v, rs12, m12, rfl, hd12, hown, hl, hos, hk12, hm12, hvm, hrm⟩
                  have hscan : scanT (frames L) = (L, (frames L).length) := scan_all L fun p hp => by have := Hmem.out p hp; omega
                  simp only [hscan, List.take_length] at hl hd12
                  obtain ⟨Av, cv, rfl, -, -, hrs⟩ := hown.has
                  have hlr : rs12.length = k := by
                    have := congrArg List.length hl
                    rw [HL.out] at this
                    simpa [brLists] using this
                  rw [hlr] at hrs hvm hown ⊢
                  have hos' := own_eqM hos Hsl.out rfl
                  obtain ⟨A12, c12, rfl, -, -, hhs⟩ := own_slice hos'
                  have Hb12 : Hid (Below w.heap.size w w12) := Lib.hid (H11.out.below.trans (hk12.below (fun _ hg => hg.1) H11.out.below.size))
                  have hcv1 := string_run hhs c12
                  have hcv2 := string_run (Hs.out.belowOf Hb12.out (Nat.le_refl _)) cs
                  have hsame := rsame_q Av A k k cv c _ _ _ _ w12 hrs (H.out.belowOf Hb12.out (Nat.le_refl _)) (Nat.le_refl _) Hb12.out.size Hn.out
                  rw [decide_eq_true (by rw [hl, HLe.out])] at hsame
                  have Hsame := Lib.hid hsame
                  have Hd12 := Lib.hid hd12
                  have Hown := Lib.hid hown
                  have Hos := Lib.hid hos'
                  have Hms := Lib.hid (And.intro hm12 (And.intro hvm hrm))
                  have Hlr := Lib.hid hlr
                  have Hz11 := Lib.hid H11.out.below.size
                  clear hsame hd12 hown hos hos' hm12 hvm hrm hlr hl hrs hhs hk12 hscan
                  go_wp2_with fail
                  refine Hsame.out.mono ?_
                  rintro e w13 ⟨rfl, md, h13⟩
                  have Hos13 : Hid (w13.ownsRow m12 5 1 (.slice A12 ns c12) ns (byteCells st)) := Lib.hid (by rw [h13]; exact own_below Hos.out (below_drews (Below.refl _ _) md))
                  have Hown13 : Hid (OwnRs w13 w11.heap.size (.slice Av k cv) rs12) := Lib.hid (by rw [h13]; exact Hown.out.below (below_drews (Below.refl _ _) md))
                  have Hd13 : Hid (Disk w13 w.heap.size sb (fun g => w.heap.size ≤ g ∧ g < w11.heap.size) ⟨4194304, true, st, frames L, [], false⟩) := Lib.hid (by rw [h13]; exact Hd12.out.below (below_drews (Below.refl _ _) md))
                  have Hb13 : Hid (Below w.heap.size w w13) := Lib.hid (by rw [h13]; exact below_drews Hb12.out md)
                  clear hcv1 hcv2 h13
                  generalize wr = wa4 at *
                  go_wp2
                  go_loopw [18] (fun i wq => ∃ (q : Nat) (ys : List UInt8), q ≤ ns ∧ i = .int .i64 (q : Int) ∧ wq.ownsRow m12 5 1 (.slice A12 ns c12) ns (byteCells ys) ∧ w13.grownBy wq (Value.slice A12 ns c12).ownBlock) (fun i _ => ns - (intOf i).toNat)
                  case atStart => exact ⟨0, _, by omega, rfl, Hos13.out, World.grownBy.refl _ _⟩
                  case round =>
                    obtain ⟨q, ys, hq, rfl, hoq, hgq⟩ := hrel
                    have Hgq := Lib.hid hgq
                    clear hgq
                    by_cases hqz : q < ns
                    · have hoq0 := hoq
                      obtain ⟨g, hA, hgB⟩ := own_at hoq (by omega)
                      rw [hA] at hoq
                      obtain ⟨y, hcq⟩ : ∃ y : UInt8, wr.cell? ⟨g, q, none⟩ = some (.int .u8 (y.toNat : Int)) := by
                        have hyl : ys.length = ns := by have := hoq.1; rw [byteCells_length] at this; omega
                        rw [hoq.cellAt q (by omega)]
                        exact ⟨ys[q], by simp [byteCells, show q < ys.length by omega]⟩
                      have hfq := hoq.frozenAt q
                      have hfl := u8_all y
                      have hst := hoq.stored q (.int .u8 ((y ^^^ 255).toNat : Int))
                      rw [byteCells_set] at hst
                      have Hst := Lib.hid hst
                      have q0 : (0 : Int) ≤ (q : Int) := by omega
                      have q1 : (q : Int) < (ns : Int) := by omega
                      subst hA
                      clear hoq hoq0 hst
                      go_wp2
                      go_roundw
                      case rel => exact ⟨q + 1, _, by omega, by go_num, Hst.out.1, grownBy_more Hgq.out Hst.out.2⟩
                      case measure => simp [intOf]; omega
                    · have hqi : (ns : Int) ≤ (q : Int) := by omega
                      clear hoq
                      have Hgs := Lib.hid Hgq.out
                      have Hown14 : Hid (OwnRs wr w11.heap.size (.slice Av k cv) rs12) := Lib.hid (Hown13.out.grown Hgq.out (fun g e => (Hos13.out.lt g e).1) Hms.out.2.1 Hms.out.2.2)
                      have Hk14 : Hid (Keeps (fun g => w11.heap.size ≤ g) w13 wr) := Lib.hid ((Keeps.refl _ _).grown Hgq.out fun g e => by have := (Hos13.out.lt g e).1; have := Hms.out.1; omega)
                      clear Hgs Hgq
                      generalize wr = wa5 at *
                      go_wp2_with fail
                      go_loopw [19, 20] (fun i _ wr => ∃ (i' : Nat) (rsq : Brs), i' ≤ k ∧ i = .int .i64 (i' : Int) ∧ rsq.length = k ∧ OwnRs wr w11.heap.size (.slice Av k cv) rsq ∧ Keeps (fun g => w11.heap.size ≤ g) w13 wr) (fun i _ _ => k - (intOf i).toNat)
                      case atStart => exact ⟨0, rs12, by omega, rfl, Hlr.out, Hown14.out, Hk14.out⟩
                      case round =>
                        obtain ⟨i', rsq, hi, rfl, hlq, hoq, hkq⟩ := hrel
                        by_cases hik : i' < k
                        · obtain ⟨Av', cv', hve, -, -, hrq⟩ := hoq.has
                          rw [hlq] at hve hrq
                          injection hve with hv1 hv2 hv3
                          subst hv1
                          subst hv3
                          obtain ⟨av, Ai, zi, ci, li, rfl, -, hli, hzi, hci, hbi, hcelli⟩ := hrq.at_ hik
                          have Hoq := Lib.hid hoq
                          have Hkq := Lib.hid hkq
                          have Hlq := Lib.hid hlq
                          have hget : rsq[i']? = some (.slice Ai zi ci, li) := by
                            have hil : i' < rsq.length := by omega
                            obtain ⟨x, hx⟩ : ∃ x, rsq[i']? = some x := ⟨_, List.getElem?_eq_getElem hil⟩
                            have h2 : (brLists rsq)[i']? = some x.2 := by simp [brLists, hx]
                            rw [hli] at h2
                            injection h2 with h2
                            obtain ⟨a3, e3, hc3⟩ := hrq.1.2 i' x.1 (by simp [brCells, hx])
                            injection e3 with e3
                            subst e3
                            rw [hcelli] at hc3
                            have hc4 := hc3.2
                            injection hc4 with hc4
                            rw [hx, h2, hc4]
                          have Hget := Lib.hid hget
                          have i0 : (0 : Int) ≤ (i' : Int) := by omega
                          have i1 : (i' : Int) < (k : Int) := by omega
                          have Hzci := Lib.hid (And.intro hzi hci)
                          clear hoq hkq hlq hli hbi hrq hget hcelli hzi hci
                          have hzib : zi ≤ 9223372036854775807 := by
                            have h1 := Hzci.out
                            simp only [maxLen] at h1
                            omega
                          generalize wr = wa6 at *
                          go_wp2_with fail
                          go_loopw [20] (fun j wr => ∃ (j' : Nat) (rsj : Brs) (lj : List UInt8), j' ≤ zi ∧ j = .int .i64 (j' : Int) ∧ rsj.length = k ∧ rsj[i']? = some (.slice Ai zi ci, lj) ∧ OwnRs wr w11.heap.size (.slice (some av) k cv) rsj ∧ Keeps (fun g => w11.heap.size ≤ g) w13 wr) (fun j _ => zi - (intOf j).toNat)
                          case atStart => exact ⟨0, rsq, li, by omega, rfl, Hlq.out, Hget.out, Hoq.out, Hkq.out⟩
                          case round =>
                            obtain ⟨j', rsj, lj, hj, rfl, hlj, hgj, hoj, hkj⟩ := hrel
                            obtain ⟨Av', cv', hve, -, -, hrj⟩ := hoj.has
                            rw [hlj] at hve hrj
                            injection hve with hv1 hv2 hv3
                            subst hv1
                            subst hv3
                            have hcj : wr.cell? (av.add i') = some (.slice Ai zi ci) := by
                              obtain ⟨a3, e3, hc3⟩ := hrj.1.2 i' (.slice Ai zi ci) (by simp [brCells, hgj])
                              injection e3 with e3
                              subst e3
                              exact hc3.2
                            by_cases hjz : j' < zi
                            · have hrow := hoj.rows _ (List.mem_of_getElem? hgj)
                              have hljz : lj.length = zi := by
                                obtain ⟨_, _, e, _⟩ := own_slice hrow
                                injection e with _ e
                                exact e.symm
                              obtain ⟨gj, hA, hgB⟩ := own_at (m := zi) (by rw [← hljz] at hrow ⊢; exact hrow) (by omega)
                              rw [hA] at hrow
                              have hcc : ∃ y, wr.cell? ⟨gj, j', none⟩ = some y := by
                                rw [← hljz] at hrow
                                rw [hrow.cellAt j' (by rw [hljz]; omega)]
                                exact ⟨_, List.getElem?_eq_getElem (by rw [byteCells_length, hljz]; omega)⟩
                              obtain ⟨y, hcy⟩ := hcc
                              have hfj : wr.frozen? ⟨gj, j', none⟩ = false := by
                                rw [← hljz] at hrow
                                exact hrow.frozenAt j'
                              have hput := hoj.put (j := j') hgj hA 0
                              have Hput := Lib.hid hput
                              have Hkj := Lib.hid hkj
                              have Hlj := Lib.hid hlj
                              have Hgj := Lib.hid hgj
                              have j0 : (0 : Int) ≤ (j' : Int) := by omega
                              have j1 : (j' : Int) < (zi : Int) := by omega
                              subst hA
                              clear hrow hoj hkj hlj hgj hput hrj hljz
                              go_wp2
                              go_roundw
                              case rel => exact ⟨j' + 1, _, lj.set j' 0, by omega, by go_num, by rw [List.length_set]; exact Hlj.out, by rw [List.getElem?_set_self (by rw [Hlj.out]; exact hik)], Hput.out.1, Hkj.out.grown Hput.out.2.1 fun g e => by injection e with e; rw [← e]; exact Hput.out.2.2⟩
                              case measure => simp [intOf]; omega
                            · have j1 : (zi : Int) ≤ (j' : Int) := by omega
                              have Hoj := Lib.hid hoj
                              have Hkj := Lib.hid hkj
                              have Hlj := Lib.hid hlj
                              clear hoj hkj hlj hgj hrj
                              go_wp2
                              go_roundw
                              case rel => exact ⟨i' + 1, rsj, by omega, by go_num, Hlj.out, Hoj.out, Hkj.out⟩
                              case measure => simp [intOf]; omega
                        · have i1 : (k : Int) ≤ (i' : Int) := by omega
                          have hend : After w.heap.size sb w ⟨4194304, true, st, frames L, [], false⟩ wr := after_keeps Hd13.out Hb13.out (Nat.le_refl _) (fun _ e => e.1) hkq (fun _ e => ⟨fun e' => Nat.lt_irrefl _ (Nat.lt_of_lt_of_le e'.2 e), Nat.le_trans Hz11.out e⟩)
                          have Hend := Lib.hid hend
                          clear hoq hkq hlq hend
                          go_wp2
                          go_roundw
                          case rel => exact ⟨t + 1, by omega, by go_num, false, Hend.out⟩
                          case measure => simp [intOf]; omega
                · have t1 : (2 : Int) ≤ (t : Int) := by omega
                  go_wp2
                  go_ret
                  exact ⟨rfl, Ha.out.below⟩

namespace lawDiskMemory
open Go.ChangeShapes Go.WideShapes Go.ChangeAt

theorem own : ownKnob Try.prog.godebug = none := by kernel_rfl
theorem kids : Kids Try.prog (· < Try.prog.types.size) := kids_rows (by kernel_rfl) (by kernel_rfl)
theorem full : ∀ t e, t < Try.prog.types.size → Try.prog.underlying t = some (.slice e) → 0 < Try.prog.cellsOf e := slices_full_of Try.prog (by kernel_rfl)

set_option maxRecDepth 100000 in
theorem lifted (os : Os) (started : os.Started) (H : Type) (enc : TypeId × Value → H) :
    ReturnsInHanded {} Try.checked os 6 .any (Rows.diskMemorySpec.pre6 enc Try.prog Try.f6 Rows.diskMemoryRow.domain false) (Rows.diskMemorySpec.post enc Try.prog Try.f6 false true false false) := by
  refine returnsInHanded_of_change (C := Try.checked) own started (by kernel_rfl) Try.func6
    (ChangeSpec.witness6 (enc := enc) (C := Try.checked) false ⟨#[], #[.slice none 0 0, .slice none 0 0], []⟩ 8 (by kernel_rfl) (by kernel_rfl) (by kernel_rfl) (by kernel_rfl)) ?_
  intro W base args ds gs before hval0 hW _ _
  have hval : ∀ (j : Nat) t v, Try.f6.params[j]? = some t → args[j]? = some v → Value.okWide Try.prog W .any base t v := hval0
  have hW' := hW
  obtain ⟨p, q, hA0, hV, rfl, _, _⟩ := hW
  obtain ⟨rfl, rfl⟩ := trodVars_none hV
  have hA : DataW.TrodAll enc Try.prog W 0 (fun _ => true) true Try.f6.params.toList args.toList ds p := hA0
  rw [Try.params6] at hA hval
  obtain ⟨v0, vs0, d0, ds0, p0, q0, hargs, rfl, rfl, h0, r0⟩ := trodAll_cons hA
  obtain ⟨v1, vs1, d1, ds1, p1, q1, rfl, rfl, rfl, h1, r1⟩ := trodAll_cons r0
  obtain ⟨rfl, rfl, rfl⟩ := trodAll_nil r1
  obtain rfl : args = #[v0, v1] := by cases args; simp_all
  have hlt := hW'.lt
  obtain ⟨A0, n0, c0, rs0, rfl, hn0, hnc0, hb0⟩ := open_rs Try.underlying22 (by kernel_rfl) Try.underlying29 Try.underlying5 (by kernel_rfl) (hval 0 22 v0 rfl rfl) h0 (fun x hx => hlt x (by simp [hx]))
  obtain ⟨A1, n1, c1, l1, rfl, hn1, hnc1, hb1⟩ := open_bytes Try.underlying29 Try.underlying5 (by kernel_rfl) (hval 1 29 v1 rfl rfl) h1 (fun x hx => hlt x (by simp [hx]))
  refine (diskMemory_walk A0 n0 c0 rs0 A1 n1 c1 l1 W hb0 hn0 hb1).mono fun e W' ⟨he, hbel⟩ => ?_
  subst he
  exact ⟨_, rfl, law_post kids full (of_decide_eq_true (by kernel_rfl)) Try.underlying4 rfl rfl rfl hW' hbel⟩

theorem proved : Rows.DiskMemorySaid :=
  OpenClaim.holds_of_wide 6 Try.f6 rfl rfl rfl rfl rfl rfl rfl ⟨rfl, rfl, rfl, rfl, rfl⟩ rfl rfl rfl rfl rfl (by kernel_rfl) Try.func6 (by kernel_rfl)
    (of_decide_eq_true (by kernel_rfl)) (by unfold Func.isWrapper; first | (rw [if_pos (by decide +kernel)]; kernel_rfl) | (rw [if_neg (by decide +kernel)]; exact ⟨rfl, rfl⟩))
    (fun os started H enc _ => lifted os started H enc)
end lawDiskMemory

end Go.Proofs.Ytbiifmcfamgmfaa
