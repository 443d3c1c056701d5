/- VaultPlays: whatever is done, with crashes in between, the machine is in the state behind the first commands: those that were sure, and those that the crash kept. No condition. -/
import Derived.Test.YtghcmlipbmmfjaaVltH
import Derived.Test.YtghcmlipbmmfjaaOpen
import Derived.Deep.RegionHeld3
namespace Go.Proofs.Ytghcmlipbmmfjaa
open Go.RowKit
open Go.Lib (strCells)

theorem str_elem : Elem Try.prog 9 16 (.string ⟨#[]⟩) := ⟨by kernel_rfl, rfl⟩
theorem text_one (l : List (List UInt8)) : ∀ u ∈ textCells l, u.oneCell' = true := by
  intro u hu
  simp only [textCells, List.mem_map] at hu
  obtain ⟨_, _, rfl⟩ := hu
  rfl
theorem sure_eq (pre F : List (List UInt8)) (k n : Nat) (h : k ≤ F.length) (hn : (pre ++ F).length = n) : (((F.length - k : Nat) : Int) == 0) = (((pre.length + k : Nat) : Int) == (n : Int)) := by
  subst hn
  rw [List.length_append]
  by_cases e : k = F.length
  · subst e; simp
  · have h1 : ¬ ((F.length - k : Nat) : Int) = 0 := by omega
    have h2 : ¬ ((pre.length + k : Nat) : Int) = ((pre.length + F.length : Nat) : Int) := by omega
    simp only [beq_eq_false_iff_ne.2 h1, beq_eq_false_iff_ne.2 h2]

/-- what the loop keeps -/
structure PlayRel (w wr : World) (sb vb tb : Nat) (E : Nat → Prop) (pre F : List (List UInt8)) (k c i m p f : Nat) (v : Value) (l : List TAct) : Prop where
  hv : VB wr w.heap.size vb sb tb E 4194304 pre F k c
  own : wr.ownsRow w.heap.size 9 1 v m (textCells (pre ++ F))
  far : ∀ g, v.ownBlock = some g → ¬ E g
  below : Below w.heap.size w wr
  blk : bulk (pre ++ F) ≤ actBulk (l.take i) + i
  cle : c ≤ i
  hp : pre.length + k = p
  hf : F.length = f
  hm : (pre ++ F).length = m
  mi : m ≤ i
section
variable {w wr : World} {sb vb tb : Nat} {E : Nat → Prop} {pre F : List (List UInt8)} {k c i m p f : Nat} {v : Value} {l : List TAct}
theorem PlayRel.drew (h : PlayRel w wr sb vb tb E pre F k c i m p f v l) (j : Nat) : PlayRel w (wr.drewN j) sb vb tb E pre F k c i m p f v l :=
  ⟨h.hv.kept (D := fun _ => False) (Keeps.of (below_drews (Below.refl _ _) j)) fun _ _ e => e, own_keep1 h.own fun g hg => (below_drews (Below.refl wr.heap.size wr) j).block g (h.own.lt g hg).2, h.far, below_drews h.below j, h.blk, h.cle, h.hp, h.hf, h.hm, h.mi⟩
theorem PlayRel.old (h : PlayRel w wr sb vb tb E pre F k c i m p f v l) : w.heap.size ≤ wr.heap.size := h.below.size
theorem actBulk_take (l : List TAct) (i : Nat) : actBulk (l.take i) ≤ actBulk l := by
  have := actBulk_app (l.take i) (l.drop i)
  rw [List.take_append_drop] at this
  omega
theorem PlayRel.light (h : PlayRel w wr sb vb tb E pre F k c i m p f v l) (hl : actBulk l ≤ 4000) (hi : i ≤ 60) : bulk (pre ++ F) ≤ 4060 := by
  have h1 := h.blk
  have h2 := actBulk_take l i
  omega
theorem PlayRel.next (h : PlayRel w wr sb vb tb E pre F k c i m p f v l) : PlayRel w wr sb vb tb E pre F k c (i + 1) m p f v l :=
  ⟨h.hv, h.own, h.far, h.below, by
    have h1 := h.blk
    have h2 : actBulk (l.take i) ≤ actBulk (l.take (i + 1)) := by
      rw [List.take_add_one, actBulk_app]
      exact Nat.le_add_right _ _
    omega, by have := h.cle; omega, h.hp, h.hf, h.hm, by have := h.mi; omega⟩
/-- a call of the vault that leaves the commands as they are -/
theorem PlayRel.op {w' : World} {pre' F' : List (List UInt8)} {k' c' p' f' : Nat} (h : PlayRel w wr sb vb tb E pre F k c i m p f v l) (hv : VB w' w.heap.size vb sb tb (Up E wr w') 4194304 pre' F' k' c') (hk : Keeps E wr w') (he : pre' ++ F' = pre ++ F) (hc : c' ≤ c) (hp : pre'.length + k' = p') (hf : F'.length = f') : PlayRel w w' sb vb tb (Up E wr w') pre' F' k' c' i m p' f' v l := by
  refine ⟨hv, ?_, fun g hg e => ?_, h.below.trans (hk.below (fun g hg => (h.hv.lt g hg).1) h.old), ?_, by have := h.cle; omega, hp, hf, ?_, h.mi⟩
  · rw [he]
    exact own_keep1 h.own fun g hg => hk.block g (h.own.lt g hg).2 (h.far g hg)
  · rcases e with e | e
    · exact h.far g hg e
    · have := (h.own.lt g hg).2
      omega
  · rw [he]
    exact h.blk
  · rw [he]
    exact h.hm
theorem PlayRel.room (h : PlayRel w wr sb vb tb E pre F k c i m p f v l) {o : TAct} (ho : l[i]? = some o) (hl : actBulk l ≤ 4000) (hi : i < 60) : bulk (pre ++ F) + o.s.size + 1 ≤ 4061 ∧ bulk (pre ++ (F ++ [o.s.data.toList])) ≤ actBulk (l.take (i + 1)) + (i + 1) := by
  have h1 := h.blk
  have h2 := actBulk_take l (i + 1)
  have e : l.take (i + 1) = l.take i ++ [o] := by rw [List.take_add_one, ho]; rfl
  have h3 : actBulk (l.take (i + 1)) = actBulk (l.take i) + (o.s.size + 0) := by rw [e, actBulk_app]; rfl
  refine ⟨by omega, ?_⟩
  rw [← List.append_assoc, bulk_app, bulk, bulk, ← Lib.size_eq]
  omega
theorem PlayRel.app {w4 w5 : World} {o : TAct} {v5 : Value} {t : TypeId} (h : PlayRel w wr sb vb tb E pre F k c i m p f v l) (ho : l[i]? = some o) (hl : actBulk l ≤ 4000) (hi : i < 60) (hv : VB w4 w.heap.size vb sb tb (Up E wr w4) 4194304 pre (F ++ [o.s.data.toList]) k (c + 1)) (hk : Keeps E wr w4)
    (o5 : w5.ownsRow w.heap.size 9 1 v5 (m + 1) (textCells (pre ++ F) ++ [.string o.s])) (g5 : (w4.alloc (.cells #[.string o.s] t)).grownBy w5 v.ownBlock) (z5 : v5.ownBlock = v.ownBlock ∨ v5.ownBlock = some (w4.alloc (.cells #[.string o.s] t)).heap.size) :
    PlayRel w w5 sb vb tb (Up E wr w4) pre (F ++ [o.s.data.toList]) k (c + 1) (i + 1) (m + 1) p (f + 1) v5 l := by
  have hsz := hk.size
  have vlt : ∀ g, v.ownBlock = some g → g < wr.heap.size := fun g hg => (h.own.lt g hg).2
  have hK : Keeps (fun g => v.ownBlock = some g ∨ w4.heap.size ≤ g) w4 w5 := ⟨g5.os, g5.tape, g5.output, by have := g5.size; simp at this; omega, fun g hg hn => (g5.block g (by simp; omega) fun e => hn (.inl e.symm)).trans (Below.heap_alloc w4 _ g hg)⟩
  refine ⟨hv.kept hK fun g hg e => ?_, ?_, fun g hg e => ?_, ?_, (h.room ho hl hi).2, by have := h.cle; omega, h.hp, by simp [h.hf], ?_, by have := h.mi; omega⟩
  · have := (hv.lt g hg).2
    rcases e with e | e
    · rcases hg with hg | hg
      · exact h.far g e hg
      · have := vlt g e
        omega
    · omega
  · have e1 : textCells (pre ++ (F ++ [o.s.data.toList])) = textCells (pre ++ F) ++ [.string o.s] := by rw [← List.append_assoc, textCells_app]; rfl
    rw [e1]
    exact o5
  · have := (hv.lt g e).2
    rcases z5 with z | z
    · rw [z] at hg
      rcases e with e | e
      · exact h.far g hg e
      · have := vlt g hg
        omega
    · rw [z] at hg
      simp at hg
      omega
  · have hb4 : Below w.heap.size w w4 := h.below.trans (hk.below (fun g hg => (h.hv.lt g hg).1) h.old)
    exact hb4.trans (hK.below (fun g e => e.elim (fun e => (h.own.lt g e).1) fun e => Nat.le_trans hb4.size e) hb4.size)
  · rw [← List.append_assoc, List.length_append, h.hm]
    rfl
theorem PlayRel.under {w5 : World} (h : PlayRel w wr sb vb tb E pre F k c i m p f v l) (hb : Below wr.heap.size wr w5) : PlayRel w w5 sb vb tb E pre F k c i m p f v l :=
  ⟨h.hv.kept (D := fun g => wr.heap.size ≤ g) ⟨hb.os, hb.tape, hb.output, hb.size, fun g hg _ => hb.block g hg⟩ fun g hg e => by have := (h.hv.lt g hg).2; omega, own_keep1 h.own fun g hg => hb.block g (h.own.lt g hg).2, h.far, h.below.trans (hb.mono h.old), h.blk, h.cle, h.hp, h.hf, h.hm, h.mi⟩
theorem PlayRel.reopen {w6 w7 : World} {vb' tb' kk q : Nat} {v5 : Value} (h : PlayRel w wr sb vb tb E pre F k c i m p f v l) (hkk : kk ≤ F.length) (hq : pre.length + kk = q) (o5 : wr.ownsRow w.heap.size 9 1 v5 q ((textCells (pre ++ F)).take q)) (f5 : ∀ g, v5.ownBlock = some g → ¬ E g)
    (hk6 : Keeps E wr w6) (hv : VB w7 w.heap.size vb' sb tb' (Up E w6 w7) 4194304 pre (F.take kk) (F.take kk).length (F.take kk).length) (hk7 : Keeps E w6 w7) : PlayRel w w7 sb vb' tb' (Up E w6 w7) pre (F.take kk) (F.take kk).length (F.take kk).length i q q kk v5 l := by
  have hl : (F.take kk).length = kk := by rw [List.length_take]; omega
  have hs6 := hk6.size
  have e : (textCells (pre ++ F)).take q = textCells (pre ++ F.take kk) := by
    unfold textCells
    rw [← List.map_take, List.take_append, List.take_of_length_le (by omega), show q - pre.length = kk from by omega]
  rw [e] at o5
  have b6 : Below w.heap.size w w6 := h.below.trans (hk6.below (fun g hg => (h.hv.lt g hg).1) h.old)
  refine ⟨hv, own_keep1 o5 fun g hg => (hk7.block g (Nat.lt_of_lt_of_le (o5.lt g hg).2 hs6) (f5 g hg)).trans (hk6.block g (o5.lt g hg).2 (f5 g hg)), fun g hg e' => ?_, b6.trans (hk7.below (fun g hg => (h.hv.lt g hg).1) b6.size), ?_, ?_, ?_, hl, ?_, ?_⟩
  · rcases e' with e' | e'
    · exact f5 g hg e'
    · have := (o5.lt g hg).2
      omega
  · have h1 := h.blk
    have h2 := bulk_take F kk
    rw [bulk_app] at h1 ⊢
    omega
  · have h1 := h.hm
    have h2 := h.mi
    rw [List.length_append] at h1
    omega
  · rw [hl, hq]
  · rw [List.length_append, hl, hq]
  · have h1 := h.hm
    have h2 := h.mi
    rw [List.length_append] at h1
    omega
theorem PlayRel.tail (h : PlayRel w wr sb vb tb E pre F k c i m p f v l) (hl : actBulk l ≤ 4000) (hi : i ≤ 60) {A : Option Addr} {cd : Nat} (hv : v = .slice A m cd) :
    (∀ j, Calls Try.prog 17 #[.slice A m cd] (wr.drewN j) fun e w' => e = .returned (.string (allF emptyB (pre ++ F))) ∧ wr.drewN j = w') ∧
    (∀ j, Calls Try.prog 18 #[.pointer (some ⟨vb, 0, none⟩)] (wr.drewN j) fun e w' => e = .returned (.bool ((p : Int) == (m : Int))) ∧ wr.drewN j = w') ∧
    wr.cell? ⟨tb, 0, none⟩ = some (.string (allF emptyB (pre ++ F))) := by
  have hb := h.light hl hi
  refine ⟨fun j => ?_, fun j => ?_, ?_⟩
  · have ho := (h.drew j).own
    rw [hv] at ho
    exact all_any A m cd _ (pre ++ F) _ (Has.of_own ho) (by omega)
  · have hs := vb_sure (h.drew j).hv
    rwa [sure_eq pre F k m h.hv.kF h.hm, h.hp] at hs
  · obtain ⟨S, hlx, -⟩ := h.hv.ex
    obtain ⟨x, hx⟩ := hlx.tape
    exact hx.cell 0
end

set_option maxRecDepth 100000 in
set_option maxHeartbeats 1600000 in
theorem plays_walk (A : Option Addr) (n ca : Nat) (l : List TAct) (w : World) (h : HasActs w w.heap.size A n l) (hn : n ≤ maxLen) (hs : ∀ u ∈ l, u.s.size ≤ maxLen) (hm : ∀ u ∈ l, (-9223372036854775808 ≤ u.m ∧ u.m ≤ 9223372036854775807) ∧ (-9223372036854775808 ≤ u.n ∧ u.n ≤ 9223372036854775807)) :
    Calls Try.prog 3 #[.slice A n ca] w fun e w' => e = .returned (.bool true) ∧ Below w.heap.size w w' := by
  have H := Lib.hid h
  have Hs := Lib.hid hs
  have Hm := Lib.hid hm
  have Hn := Lib.hid hn
  clear h hs hm hn
  go_enter Try.func3, Try.ntmps3
  go_wp2_with fail
  refine (awake_any w).mono ?_
  rintro e w1 ⟨rfl, hb1⟩
  have Hb1 := Lib.hid hb1
  have H1 := Lib.hid (H.out.belowOf hb1 (Nat.le_refl _))
  clear hb1
  go_wp2_with fail
  refine (light_any A n ca w.heap.size l w1 H1.out Hn.out Hs.out).mono ?_
  rintro e w' ⟨⟨bl, rfl, hbl⟩, rfl⟩
  cases bl with
  | false =>
    go_wp2
    go_ret
    exact ⟨rfl, Hb1.out⟩
  | true =>
    obtain ⟨hn60, hbk⟩ := hbl rfl
    have Hbk := Lib.hid hbk
    clear hbl hbk
    go_wp2_with fail
    refine (db_new 4194304 w.heap.size w1 (by omega) Hb1.out.size).mono ?_
    rintro e w2 ⟨sb, rfl, hd2, hb2⟩
    have s2 : w.heap.size ≤ w2.heap.size := Nat.le_trans Hb1.out.size hb2.size
    have Hd2 := Lib.hid hd2
    have Hb2 := Lib.hid (Hb1.out.trans (hb2.mono Hb1.out.size))
    clear hd2 hb2
    go_wp2_with fail
    refine (db_open Hd2.out s2 (by simp [bulk])).mono ?_
    rintro e w3 ⟨vb, tb, rfl, hv3, hk3⟩
    have Hv3 := Lib.hid hv3
    have Hb3 : Hid (Below w.heap.size w w3) := Lib.hid (Hb2.out.trans (hk3.below (fun g hg => (Hd2.out.lt g hg).1) s2))
    clear hv3 hk3 s2
    go_wp2
    go_loopw [5, 6, 7, 8, 9, 10] (fun v t d sr sn i wr => ∃ (vb tb : Nat) (E : Nat → Prop) (pre F : List (List UInt8)) (k c j m p f : Nat), j ≤ n ∧ p ≤ m ∧ f ≤ m ∧ m ≤ j ∧ v = .pointer (some ⟨vb, 0, none⟩) ∧ t = .pointer (some ⟨tb, 0, none⟩) ∧ sr = .int .i64 (p : Int) ∧ sn = .int .i64 (f : Int) ∧ i = .int .i64 (j : Int) ∧ Hid (PlayRel w wr sb vb tb E pre F k c j m p f d l)) (fun _ _ _ _ _ i _ => n - (intOf i).toNat)
    case atStart => exact ⟨vb, tb, _, [], [], 0, 0, 0, 0, 0, 0, by omega, by omega, by omega, by omega, rfl, rfl, rfl, rfl, rfl, Lib.hid ⟨Hv3.out, World.ownsRow_nil _ _ _ _, (fun g hg => by cases hg), Hb3.out, by simp [bulk], Nat.le_refl _, rfl, rfl, rfl, Nat.le_refl _⟩⟩
    case round =>
      obtain ⟨vb, tb, E, pre, F, k, c, j, m, p, f, hj, hpm, hfm, hmj, rfl, rfl, rfl, rfl, rfl, Hr⟩ := hrel
      by_cases hlt : j < n
      · have H2 := Lib.hid (H.out.belowOf Hr.out.below (Nat.le_refl _))
        obtain ⟨a, o, rfl, hab, ho, c0, c1, c2, c3⟩ := H2.out.at_ hlt
        have j0 : (0 : Int) ≤ (j : Int) := by omega
        have j1 : (j : Int) < (n : Int) := by omega
        have Ho := Lib.hid ho
        have Hab := Lib.hid hab
        clear ho hab
        obtain ⟨kd, hkd⟩ : ∃ kd, o.k = kd := ⟨_, rfl⟩
        rw [hkd] at c0
        clear hkd
        obtain ⟨Ad, cd, rfl, hcd, hcm, -⟩ := own_slice Hr.out.own
        by_cases h1 : kd = 1
        · subst h1
          have hrm := Hr.out.room Ho.out Hbk.out (by omega)
          have Hdo := vb_do Hr.out.hv Hr.out.old o.s (by have := hrm.1; rw [bulk_app] at this; omega) (by have := hrm.1; omega) (by have := Hr.out.cle; omega)
          have q0 := (Hr.out.tail Hbk.out (by omega) rfl).2.2
          have hT0 : (allF emptyB (pre ++ F)).size ≤ 5000 := by
            have e0 : emptyB.size = 0 := rfl
            have := hrm.1
            rw [allF_size]
            omega
          obtain ⟨T, hT⟩ : ∃ T, allF emptyB (pre ++ F) = T := ⟨_, rfl⟩
          rw [hT] at Hdo q0 hT0
          have Hdo := Lib.hid Hdo
          clear hT hrm c2 c3
          go_wp2_with fail
          refine Hdo.out.mono ?_
          rintro e w4 ⟨rfl, hv4, hk4⟩
          have hb4 : Below w.heap.size wr w4 := hk4.below (fun g hg => (Hr.out.hv.lt g hg).1) Hr.out.old
          have c1' : w4.cell? ⟨(a.add (j * 4)).block, (a.add (j * 4)).off + 1, none⟩ = some (.string o.s) := (hb4.cell (by rw [addr_block]; exact Hab.out)).trans c1
          have Hown : Hid ((w4.alloc (.cells #[.string o.s] 9)).ownsRow w.heap.size 9 1 (.slice Ad m cd) m (textCells (pre ++ F))) := Lib.hid ((own_keep1 Hr.out.own fun g hg => hk4.block g (Hr.out.own.lt g hg).2 (Hr.out.far g hg)).alloc _)
          have Hlit := Lib.hid (Has.one w4 (.string o.s) 9 _ rfl)
          have HB4 : Hid (w.heap.size ≤ (w4.alloc (.cells #[.string o.s] 9)).heap.size) := Lib.hid (le_alloc (Nat.le_trans Hr.out.old hk4.size) _)
          have Hv4 := Lib.hid hv4
          have Hk4 := Lib.hid hk4
          clear hv4 hk4 hb4 c1 q0
          go_wp2_with fail
          refine (digits_any T.size w4 (by omega)).mono ?_
          rintro e w' ⟨rfl, rfl⟩
          go_wp2_with (at_builtin; refine wpList_append_has rfl (.tmp 67) (.tmp 73) _ rfl 9 str_elem Try.underlying33 rfl Hown.out rfl Hlit.out (one_string _) (by simp only [maxLen]; omega) (by omega) HB4.out ?_; intro v5 w5 o5 g5 z5; have Hr5 := Lib.hid (Hr.out.app Ho.out Hbk.out (by omega) Hv4.out Hk4.out o5 g5 z5); clear o5 g5 z5; obtain ⟨Ae, ce, rfl, hce, hcf, -⟩ := own_slice Hr5.out.own; have htl := Hr5.out.tail Hbk.out (by omega) rfl; have Hall := Lib.hid htl.1; have Hsure := Lib.hid htl.2.1; have qt := htl.2.2; clear htl)
          go_quiet (first | (go_at_call 17; refine quietS (Hall.out _)) | (go_at_call 18; refine quietS (Hsure.out _)))
          go_wp2
          go_round
          case rel => exact ⟨vb, tb, _, pre, F ++ [o.s.data.toList], k, c + 1, j + 1, m + 1, p, f + 1, by omega, by omega, by omega, by omega, rfl, rfl, rfl, rfl, by go_num, Lib.hid (Hr5.out.drew _)⟩
          case measure => simp [intOf]; omega
        · by_cases h2 : kd = 2
          · subst h2
            have Hsy := Lib.hid (vb_sync Hr.out.hv Hr.out.old)
            clear c1 c2 c3
            go_wp2_with fail
            refine Hsy.out.mono ?_
            rintro e w4 ⟨rfl, hv4, hk4⟩
            have Hr4 := Lib.hid (Hr.out.op (p' := m) hv4 hk4 rfl (Nat.le_refl _) (by rw [← Hr.out.hm, List.length_append]) Hr.out.hf).next
            clear hv4 hk4
            have htl := Hr4.out.tail Hbk.out (by omega) rfl
            have Hall := Lib.hid htl.1
            have Hsure := Lib.hid htl.2.1
            have qt := htl.2.2
            clear htl
            go_wp2
            go_quiet (first | (go_at_call 17; refine quietS (Hall.out _)) | (go_at_call 18; refine quietS (Hsure.out _)))
            go_wp2
            go_round
            case rel => exact ⟨vb, tb, _, pre, F, F.length, c, j + 1, m, m, f, by omega, by omega, by omega, by omega, rfl, rfl, rfl, rfl, by go_num, Lib.hid (Hr4.out.drew _)⟩
            case measure => simp [intOf]; omega
          · by_cases h3 : kd = 3
            · subst h3
              have Hsy := Lib.hid (vb_settle Hr.out.hv Hr.out.old (by have := Hr.out.light Hbk.out (by omega); omega) (by have := Hr.out.light Hbk.out (by omega); omega))
              clear c1 c2 c3
              go_wp2_with fail
              refine Hsy.out.mono ?_
              rintro e w4 ⟨rfl, hv4, hk4⟩
              have Hr4 := Lib.hid (Hr.out.op (p' := m) (f' := 0) hv4 hk4 (by simp) (Nat.le_refl _) (by rw [Hr.out.hm]; omega) rfl).next
              clear hv4 hk4
              have htl := Hr4.out.tail Hbk.out (by omega) rfl
              have Hall := Lib.hid htl.1
              have Hsure := Lib.hid htl.2.1
              have qt := htl.2.2
              clear htl
              go_wp2
              go_quiet (first | (go_at_call 17; refine quietS (Hall.out _)) | (go_at_call 18; refine quietS (Hsure.out _)))
              go_wp2
              go_round
              case rel => exact ⟨vb, tb, _, pre ++ F, [], 0, c, j + 1, m, m, 0, by omega, by omega, by omega, by omega, rfl, rfl, rfl, rfl, by go_num, Lib.hid (Hr4.out.drew _)⟩
              case measure => simp [intOf]; omega
            · by_cases h4 : kd = 4
              · subst h4
                have hkF := Hr.out.hv.kF
                have hhp := Hr.out.hp
                have hhf := Hr.out.hf
                have hhm := Hr.out.hm
                rw [List.length_append] at hhm
                have hom := Hm.out o (List.mem_of_getElem? Ho.out)
                obtain ⟨M, hM⟩ : ∃ M, o.m.toNat = M := ⟨_, rfl⟩
                have hmax : (if o.m < 0 then 0 else o.m) = (M : Int) := by split <;> omega
                obtain ⟨x, hx⟩ : ∃ x, min M (m - p) = x := ⟨_, rfl⟩
                have hmin : (if (m : Int) - (p : Int) < (M : Int) then (m : Int) - (p : Int) else (M : Int)) = (x : Int) := by split <;> omega
                obtain ⟨q, hq⟩ : ∃ q, p + x = q := ⟨_, rfl⟩
                have hqi : (p : Int) + (x : Int) = (q : Int) := by omega
                obtain ⟨s, hs⟩ : ∃ s, k + x = s := ⟨_, rfl⟩
                have hsi : (f : Int) - ((m : Int) - (q : Int)) = (s : Int) := by omega
                have hsF : s ≤ F.length := by omega
                have hps : pre.length + s = q := by omega
                have hse : k + min o.m.toNat (F.length - k) = s := by omega
                have hqm : q ≤ m := by omega
                have hsq : s ≤ q := by omega
                have HsF := Lib.hid hsF
                have Hps := Lib.hid hps
                have Hse := Lib.hid hse
                have Hom := Lib.hid hom
                have q0 : (0 : Int) ≤ (q : Int) := by omega
                have q1 : (q : Int) ≤ (cd : Int) := by omega
                clear hM hx hq hs hsF hps hse hhp hhf hhm hom hkF c1
                have Hemp := Lib.hid (bempty_own wr wr.heap.size rfl 9 w.heap.size Hr.out.old)
                have Hsrc : Hid (Has (wr.alloc (.cells #[] 9)) wr.heap.size Ad q ((textCells (pre ++ F)).take q)) := Lib.hid (Has.alloc (Has.take (Has.of_own Hr.out.own) hqm) (Nat.le_refl _) _)
                have HB4 : Hid (w.heap.size ≤ (wr.alloc (.cells #[] 9)).heap.size) := Lib.hid (le_alloc Hr.out.old _)
                have Hone : Hid (∀ u ∈ (textCells (pre ++ F)).take q, u.oneCell' = true) := Lib.hid fun u hu => text_one _ u (List.mem_of_mem_take hu)
                have Hc2 := Lib.hid c2
                have Hc3 := Lib.hid c3
                clear c3
                go_wp2_with (at_builtin; refine wpList_append_has rfl (.tmp 112) (.tmp 115) _ rfl 9 str_elem Try.underlying33 rfl Hemp.out rfl Hsrc.out Hone.out (by simp only [maxLen]; omega) (by omega) HB4.out ?_; intro v5 w5 o5 g5 z5; have Ho5 := Lib.hid o5; have Hg5 := Lib.hid g5; have Hz5 := Lib.hid z5; clear o5 g5 z5)
                have ho5' : w5.ownsRow w.heap.size 9 1 v5 q ((textCells (pre ++ F)).take q) := by
                  have := Ho5.out
                  rwa [Nat.zero_add, List.nil_append] at this
                have hb5 : Below wr.heap.size wr w5 := (dsk_alloc wr _).grown Hg5.out (by simp) fun g hg => by have hg' : some wr.heap.size = some g := hg; injection hg' with hg'; omega
                have hf5 : ∀ g, v5.ownBlock = some g → ¬ E g := fun g hg e => by
                  have h1 := (Hr.out.hv.lt g e).2
                  rcases Hz5.out with z | z
                  · rw [z] at hg
                    have hg' : some wr.heap.size = some g := hg
                    injection hg' with hg'
                    omega
                  · rw [z] at hg
                    simp at hg
                    omega
                obtain ⟨Ae, ce, rfl, hce, hcf, -⟩ := own_slice ho5'
                have Hr5 := Lib.hid (Hr.out.under hb5.drew)
                have Ho5' : Hid (w5.drew.ownsRow w.heap.size 9 1 (.slice Ae q ce) q ((textCells (pre ++ F)).take q)) := Lib.hid ho5'
                have Hf5 := Lib.hid hf5
                have hcr := vb_crash Hr5.out.hv (by have := Hr5.out.light Hbk.out (by omega); omega) o.m o.n (by have := Hom.out; omega) (by have := Hom.out; omega)
                rw [Hse.out] at hcr
                have Hcr := Lib.hid hcr
                have hcc2 : w5.drew.cell? ⟨(a.add (j * 4)).block, (a.add (j * 4)).off + 2, none⟩ = some (.int .i64 o.m) := (hb5.drew.cell (by rw [addr_block]; exact Nat.lt_of_lt_of_le Hab.out Hr.out.old)).trans Hc2.out
                have hcc3 : w5.drew.cell? ⟨(a.add (j * 4)).block, (a.add (j * 4)).off + 3, none⟩ = some (.int .i64 o.n) := (hb5.drew.cell (by rw [addr_block]; exact Nat.lt_of_lt_of_le Hab.out Hr.out.old)).trans Hc3.out
                have hcc : w5.drew.cell? ⟨(a.add (j * 4)).block, (a.add (j * 4)).off + 2, none⟩ = some (.int .i64 o.m) ∧ w5.drew.cell? ⟨(a.add (j * 4)).block, (a.add (j * 4)).off + 3, none⟩ = some (.int .i64 o.n) := ⟨hcc2, hcc3⟩
                have Hcc := Lib.hid hcc
                clear ho5' hb5 hf5 hcr hcc2 hcc3 hcc c2
                go_region_held3 (fun wx => wx.cell? ⟨(a.add (j * 4)).block, (a.add (j * 4)).off + 2, none⟩ = some (.int .i64 o.m) ∧ wx.cell? ⟨(a.add (j * 4)).block, (a.add (j * 4)).off + 3, none⟩ = some (.int .i64 o.n))
                  (first | exact Hcc.out | exact Hcc6.out)
                  (first | (go_at_call 15; refine Hcr.out.mono ?_; rintro e w6 ⟨rfl, hd6, hk6⟩; have Hd6 := Lib.hid hd6; have Hk6 := Lib.hid hk6; have Hcc6 : Hid (w6.cell? ⟨(a.add (j * 4)).block, (a.add (j * 4)).off + 2, none⟩ = some (.int .i64 o.m) ∧ w6.cell? ⟨(a.add (j * 4)).block, (a.add (j * 4)).off + 3, none⟩ = some (.int .i64 o.n)) := Lib.hid ⟨((hk6.below (fun g hg => (Hr5.out.hv.lt g hg).1) Hr5.out.old).cell (by rw [addr_block]; exact Hab.out)).trans Hcc.out.1, ((hk6.below (fun g hg => (Hr5.out.hv.lt g hg).1) Hr5.out.old).cell (by rw [addr_block]; exact Hab.out)).trans Hcc.out.2⟩; clear hd6 hk6))
                have Hop := Lib.hid (db_open Hd6.out (Nat.le_trans Hr5.out.old Hk6.out.size) (by have h1 := Hr5.out.light Hbk.out (by omega); have h2 := bulk_take F s; rw [bulk_app] at h1 ⊢; omega))
                go_wp2_with fail
                refine Hop.out.mono ?_
                rintro e w7 ⟨vb', tb', rfl, hv7, hk7⟩
                have Hr7 := Lib.hid (Hr5.out.reopen HsF.out Hps.out Ho5'.out Hf5.out Hk6.out hv7 hk7).next
                have hct := vb_count hv7
                rw [show (F.take s).length = s from by rw [List.length_take]; have := HsF.out; omega] at hct
                have Hct := Lib.hid hct
                clear hv7 hk7 hct
                go_wp2_with fail
                refine Hct.out.mono ?_
                rintro e w8 ⟨rfl, rfl⟩
                have htl := Hr7.out.tail Hbk.out (by omega) rfl
                have Hall := Lib.hid htl.1
                have Hsure := Lib.hid htl.2.1
                have qt := htl.2.2
                clear htl
                go_wp2
                go_quiet (first | (go_at_call 17; refine quietS (Hall.out _)) | (go_at_call 18; refine quietS (Hsure.out _)))
                go_wp2
                go_round
                case rel => exact ⟨vb', tb', _, pre, F.take s, _, _, j + 1, q, q, s, by omega, by omega, by omega, by omega, rfl, rfl, rfl, rfl, by go_num, Lib.hid (Hr7.out.drew _)⟩
                case measure => simp [intOf]; omega
              · have Hr5 := Lib.hid Hr.out.next
                clear c1 c2 c3
                have htl := Hr5.out.tail Hbk.out (by omega) rfl
                have Hall := Lib.hid htl.1
                have Hsure := Lib.hid htl.2.1
                have qt := htl.2.2
                clear htl
                go_wp2
                go_quiet (first | (go_at_call 17; refine quietS (Hall.out _)) | (go_at_call 18; refine quietS (Hsure.out _)))
                go_wp2
                go_round
                case rel => exact ⟨vb, tb, E, pre, F, k, c, j + 1, m, p, f, by omega, by omega, by omega, by omega, rfl, rfl, rfl, rfl, by go_num, Lib.hid (Hr5.out.drew _)⟩
                case measure => simp [intOf]; omega
      · go_wp2
        go_ret
        exact ⟨rfl, Hr.out.below⟩

namespace lawVaultPlays
open Go.ChangeShapes Go.WideShapes Go.ChangeAt

theorem own : ownKnob Try.prog.godebug = none := by kernel_rfl
theorem kids : Kids Try.prog (· < Try.prog.types.size) := kids_rows (by kernel_rfl) (by kernel_rfl)
theorem full : ∀ t e, t < Try.prog.types.size → Try.prog.underlying t = some (.slice e) → 0 < Try.prog.cellsOf e := slices_full_of Try.prog (by kernel_rfl)

set_option maxRecDepth 100000 in
theorem lifted (os : Os) (started : os.Started) (H : Type) (enc : TypeId × Value → H) :
    ReturnsInHanded {} Try.checked os 3 .any (Rows.vaultPlaysSpec.pre6 enc Try.prog Try.f3 Rows.vaultPlaysRow.domain false) (Rows.vaultPlaysSpec.post enc Try.prog Try.f3 false true false false) := by
  refine returnsInHanded_of_change (C := Try.checked) own started (by kernel_rfl) Try.func3
    (ChangeSpec.witness6 (enc := enc) (C := Try.checked) false ⟨#[], #[.slice none 0 0], []⟩ 8 (by kernel_rfl) (by kernel_rfl) (by kernel_rfl) (by kernel_rfl)) ?_
  intro W base args ds gs before hval0 hW _ _
  have hval : ∀ (j : Nat) t v, Try.f3.params[j]? = some t → args[j]? = some v → Value.okWide Try.prog W .any base t v := hval0
  have hW' := hW
  obtain ⟨p, q, hA0, hV, rfl, _, _⟩ := hW
  obtain ⟨rfl, rfl⟩ := trodVars_none hV
  have hA : DataW.TrodAll enc Try.prog W 0 (fun _ => true) true Try.f3.params.toList args.toList ds p := hA0
  rw [Try.params3] at hA hval
  obtain ⟨v0, vs0, d0, ds0, p0, q0, hargs, rfl, rfl, h0, r0⟩ := trodAll_cons hA
  obtain ⟨rfl, rfl, rfl⟩ := trodAll_nil r0
  obtain rfl : args = #[v0] := by cases args; simp_all
  have hlt := hW'.lt
  obtain ⟨A0, n0, c0, l0, rfl, hn0, hnc0, hb0, hw0, hi0⟩ := open_acts Try.underlying22 Try.underlying35 (by kernel_rfl) ⟨rfl, rfl, rfl, rfl⟩ ⟨by kernel_rfl, by kernel_rfl, by kernel_rfl, by kernel_rfl⟩ ⟨by kernel_rfl, by kernel_rfl, by kernel_rfl, by kernel_rfl⟩ (hval 0 22 v0 rfl rfl) h0 (fun x hx => hlt x (by simp [hx]))
  refine (plays_walk A0 n0 c0 l0 W hb0 hn0 hw0 hi0).mono fun e W' ⟨he, hbel⟩ => ?_
  subst he
  exact ⟨_, rfl, law_post kids full (of_decide_eq_true (by kernel_rfl)) Try.underlying4 rfl rfl rfl hW' hbel⟩

theorem proved : Rows.VaultPlaysSaid :=
  OpenClaim.holds_of_wide 3 Try.f3 rfl rfl rfl rfl rfl rfl rfl ⟨rfl, rfl, rfl, rfl, rfl⟩ rfl rfl rfl rfl rfl (by kernel_rfl) Try.func3 (by kernel_rfl)
    (of_decide_eq_true (by kernel_rfl)) (by unfold Func.isWrapper; first | (rw [if_pos (by decide +kernel)]; kernel_rfl) | (rw [if_neg (by decide +kernel)]; exact ⟨rfl, rfl⟩))
    (fun os started H enc _ => lifted os started H enc)
end lawVaultPlays

end Go.Proofs.Ytghcmlipbmmfjaa
