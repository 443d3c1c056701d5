/- The law FrameKeeps: for every input it returns true and leaves what it was given. No condition. -/
import Derived.Test.YteegnohfmonakaaFrmJ
import Derived.Test.YteegnohfmonakaaOpenRs
import Derived.StillTailTactics
import Derived.Laws.BitsAllLaws
namespace Go.Proofs.Yteegnohfmonakaa
open Go.RowKit
open Go.Lib (strCells)

def endK (L : List (List UInt8)) (k : Nat) : Nat := (frames (L.take k)).length
theorem endK_succ {L : List (List UInt8)} {k : Nat} {l : List UInt8} (h : L[k]? = some l) : endK L (k + 1) = endK L k + (8 + l.length) ∧ frames (L.take (k + 1)) = frames (L.take k) ++ frameOf l := by
  have e : frames (L.take (k + 1)) = frames (L.take k) ++ frameOf l := by rw [List.take_add_one, h, Option.toList_some, frames_app, frames_one]
  refine ⟨?_, e⟩
  unfold endK
  rw [e, List.length_append, frameOf_len]
theorem endK_le (L : List (List UInt8)) (k : Nat) : endK L k ≤ 8 * L.length + bulk L := by
  have h1 := frames_len (L.take k)
  have h2 : bulk (L.take k) ≤ bulk L := by
    have := bulk_app (L.take k) (L.drop k)
    rw [List.take_append_drop] at this
    omega
  have h3 : (L.take k).length ≤ L.length := List.length_take_le' _ _
  unfold endK
  omega
theorem nil_ownK (w : World) (B : Nat) (e : TypeId) : w.ownsRow B e 1 (.slice none 0 0) 0 [] := ⟨rfl, .inl ⟨rfl, rfl⟩⟩
theorem two_lit (w : World) (g : Nat) (hg : w.heap.size = g) (x y : Value) (t : TypeId) : Has (w.alloc (.cells #[x, y] t)) (g + 1) (some ⟨g, 0, none⟩) 2 [x, y] := by
  subst hg
  exact Has.lit w #[x, y] t

/-- blocks below lo, and those from m1 to m2, have not turned -/
structure KeepM (lo m1 m2 : Nat) (w w' : World) : Prop where
  os : w'.os = w.os
  tape : w'.tape = w.tape
  output : w'.output = w.output
  size : w.heap.size ≤ w'.heap.size
  block : ∀ i, i < w.heap.size → (i < lo ∨ (m1 ≤ i ∧ i < m2)) → w'.heap[i]? = w.heap[i]?
theorem KeepM.refl (lo m1 m2 : Nat) (w : World) : KeepM lo m1 m2 w w := ⟨rfl, rfl, rfl, Nat.le_refl _, fun _ _ _ => rfl⟩
theorem KeepM.grown {lo m1 m2 : Nat} {w w1 w2 : World} {r : Option Nat} (h : KeepM lo m1 m2 w w1) (hg : w1.grownBy w2 r) (hr : ∀ g, r = some g → lo ≤ g ∧ (g < m1 ∨ m2 ≤ g)) : KeepM lo m1 m2 w w2 :=
  ⟨hg.os.trans h.os, hg.tape.trans h.tape, hg.output.trans h.output, Nat.le_trans h.size hg.size, fun i hi hc => (hg.block i (Nat.lt_of_lt_of_le hi h.size) fun e => by
    have := hr i e.symm
    omega).trans (h.block i hi hc)⟩
theorem KeepM.alloc {lo m1 m2 : Nat} {w w1 : World} (h : KeepM lo m1 m2 w w1) (o : Obj) : KeepM lo m1 m2 w (w1.alloc o) := h.grown (World.grownBy_alloc w1 o none) fun _ e => by cases e
theorem KeepM.drew {lo m1 m2 : Nat} {w w1 : World} (h : KeepM lo m1 m2 w w1) : KeepM lo m1 m2 w w1.drew := ⟨h.os, h.tape, h.output, h.size, h.block⟩
theorem u8_flip (b : UInt8) : bits .xor .u8 (b.toNat : Int) 255 = ((UInt8.ofNat (b.toNat ^^^ 255)).toNat : Int) := by
  have hb := b.toNat_lt
  have h1 : b.toNat ^^^ 255 < 256 := Nat.xor_lt_two_pow (n := 8) (by omega) (by omega)
  have h2 : bits .xor .u8 (b.toNat : Int) ((255 : Nat) : Int) = ((b.toNat ^^^ 255 : Nat) : Int) := u8_xor_nat b.toNat 255 (by omega) (by omega)
  rw [UInt8.toNat_ofNat', Nat.mod_eq_of_lt h1]
  exact h2
theorem grownBy_drew {w w' : World} {r : Option Nat} (h : w.grownBy w' r) : w.grownBy w'.drew r := ⟨h.os, h.tape, h.output, h.size, h.block⟩
theorem keep_row {w w' : World} {row : Option Nat} {B m size : Nat} {e : TypeId} {v : Value} {xs : List Value} (hg : w.grownBy w' row) (h : w.ownsRow B e size v m xs) (hne : ∀ g, v.ownBlock = some g → row ≠ some g) : w'.ownsRow B e size v m xs :=
  own_keep1 h fun g hgx => hg.block g (h.lt g hgx).2 fun e => hne g hgx e.symm
theorem cell_mid {pre rest : List Value} {x : Value} {j : Nat} (h : pre.length = j) : (pre ++ x :: rest)[j]? = some x := by
  subst h
  simp
theorem set_mid {pre rest : List Value} {x y : Value} {j : Nat} (h : pre.length = j) : (pre ++ x :: rest).set j y = (pre ++ [y]) ++ rest := by
  subst h
  simp
theorem bytes_app (a b : List UInt8) : ((⟨a.toArray⟩ : ByteArray) ++ ⟨b.toArray⟩) = ⟨(a ++ b).toArray⟩ := by
  apply ByteArray.ext
  simp
theorem keepcell {w w' : World} {B k : Nat} {a : Addr} {u : Value} (hb : Below B w w') (ha : a.block < B) (h : w.cell? (a.add k) = some u) : w'.cell? (a.add k) = some u := by
  rw [hb.cell (by rw [addr_block]; exact ha), h]
set_option maxHeartbeats 6400000 in
theorem frameKeeps_walk (A : Option Addr) (n c : Nat) (rs : Brs) (w : World) (h : HasRs w w.heap.size A n rs) (hn : n ≤ maxLen) :
    Calls Try.prog 6 #[.slice A n c] w fun e w' => e = .returned (.bool true) ∧ Below w.heap.size w w' := by
  have H := Lib.hid h
  have Hn := Lib.hid hn
  have HL := Lib.hid (brLists_at h)
  obtain ⟨L, hL⟩ : ∃ L, brLists rs = L := ⟨_, rfl⟩
  have HLe := Lib.hid hL
  rw [hL] at HL
  clear h hn hL
  go_enter Try.func6, Try.ntmps6
  go_wp2_with fail
  refine (awake_any _).mono ?_
  rintro e w1 ⟨rfl, hb1⟩
  have Hb1 := Lib.hid hb1
  clear hb1
  go_wp2_with fail
  refine (bulk_any 2000 A n c w.heap.size rs w1 (H.out.belowOf Hb1.out (Nat.le_refl _)) (by omega) Hn.out).mono ?_
  rintro e w2 ⟨⟨m, rfl, hm⟩, rfl⟩
  rw [HLe.out] at hm
  have Hm := Lib.hid hm
  clear hm
  by_cases hmm : 2000 < m
  · go_wp2
    go_ret
    exact ⟨rfl, Hb1.out⟩
  have hbulk := Hm.out (by omega)
  have hLn := bulk_len L
  rw [HL.out] at hLn
  have Hsz : Hid (∀ k, endK L k ≤ 18000) := Lib.hid fun k => by have := endK_le L k; rw [HL.out] at this; omega
  have Hmem : Hid (∀ l ∈ L, l.length ≤ 2000) := Lib.hid fun l hl => by have := bulk_mem hl; omega
  have hn4 : n ≤ 2000 := by omega
  clear hbulk hLn Hm
  go_wp2_with fail
  go_loopw [3, 4, 5, 6, 7, 8] (fun bv i _ _ _ _ wr => ∃ k : Nat, k ≤ n ∧ i = .int .i64 (k : Int) ∧ wr.ownsRow w.heap.size 5 1 bv (endK L k) (byteCells (frames (L.take k))) ∧ Below w.heap.size w wr) (fun _ i _ _ _ _ _ => n - (intOf i).toNat)
  case atStart => exact ⟨0, by omega, rfl, nil_ownK _ _ _, Hb1.out⟩
  case round =>
    obtain ⟨k, hk, rfl, hownx, hb⟩ := hrel
    have Hb := Lib.hid hb
    have Hownx := Lib.hid hownx
    clear hb hownx
    by_cases hlt : k < n
    · obtain ⟨a, Al, zl, cl, l, rfl, hab, hlk, hzc, hcm, hbl, hc⟩ := (H.out.belowOf Hb.out (Nat.le_refl _)).at_ hlt
      rw [HLe.out] at hlk
      have hzl : l.length = zl := hbl.len
      have hz4 : zl ≤ 2000 := by rw [← hzl]; exact Hmem.out l (List.mem_of_getElem? hlk)
      have k0 : (0 : Int) ≤ (k : Int) := by omega
      have k1 : (k : Int) < (n : Int) := by omega
      have He1 : Hid (endK L (k + 1) = endK L k + (8 + zl)) := Lib.hid (by rw [(endK_succ hlk).1, hzl])
      have Hfr := Lib.hid (endK_succ hlk).2
      have Hsk := Lib.hid (Hsz.out k)
      have Hbl := Lib.hid hbl
      have Hzl := Lib.hid hzl
      have hc' : (wr.alloc (.cells #[] 5)).cell? (a.add k) = some (.slice Al zl cl) := by rw [World.cell?_alloc_lt _ _ _ (by rw [addr_block]; exact Nat.lt_of_lt_of_le hab Hb.out.size)]; exact hc
      have Hc := Lib.hid hc
      have Hab := Lib.hid hab
      have Hem := Lib.hid (empty_own wr wr.heap.size (Nat.le_refl _) 5)
      clear hlk hzl hbl hc hab hzc hcm
      go_wp2_with (first
        | (at_builtin; refine wpList_append_has rfl (.tmp 27) (.tmp 31) _ rfl 5 u8_elem Try.underlying22 rfl Hem.out rfl (Hbl.out.alloc Hb.out.size _) (byteCells_one _) (by simp only [maxLen]; omega) (by omega) (le_alloc (Nat.le_refl _) _) ?_; intro v2 w2 hown2 hg2 hz2; have Hb2 : Hid (Below wr.heap.size wr w2) := Lib.hid (below_own ((Below.refl _ _).alloc (Nat.le_refl _) _) Hem.out hg2 (le_alloc (Nat.le_refl _) _)); have Hown2 := Lib.hid hown2; clear hown2 hg2 hz2 hc')
        | (at_builtin; refine wpList_append_has rfl (.tmp 32) (.tmp 33) _ rfl 5 u8_elem Try.underlying22 rfl (own_below Hown2.out ((Below.refl _ _).alloc (Nat.le_refl _) _)) rfl (two_lit w2 _ rfl _ _ _) (byteCells_one [1, 2]) (by simp only [maxLen]; omega) (by omega) (le_alloc Hb2.out.size _) ?_; intro v3 w3 hown3 hg3 hz3; have Hb3 : Hid (Below wr.heap.size wr w3) := Lib.hid (below_own (Hb2.out.alloc Hb2.out.size _) (own_below Hown2.out ((Below.refl _ _).alloc (Nat.le_refl _) _)) hg3 (le_alloc Hb2.out.size _)); obtain ⟨A3, c3, rfl, hc3, _, hh3⟩ := own_slice hown3; have Hown3 := Lib.hid hown3; have Hh3 := Lib.hid hh3; have hc3' := keepcell Hb3.out (Nat.lt_of_lt_of_le Hab.out Hb.out.size) Hc.out; clear hown3 hg3 hz3 hh3))
      have HO3 : Hid (w3.ownsRow wr.heap.size 5 1 (.slice A3 (zl + 2) c3) (zl + 2) (byteCells (l ++ [1, 2]))) := Lib.hid (by
        have := Hown3.out
        rw [List.nil_append, Nat.zero_add] at this
        rw [byteCells_app]
        exact this)
      have HB3 : Hid (HasBytes w3 w3.heap.size A3 (zl + 2) (l ++ [1, 2])) := Lib.hid (Has.of_own HO3.out)
      have hhead := HasBytes.head HB3.out (k := zl) (by omega)
      rw [List.take_left' Hzl.out] at hhead
      have Hw := Lib.hid (wrap_any A3 zl c3 w3.heap.size l w3 hhead (Nat.le_refl _) (by omega))
      have z0 : (0 : Int) ≤ (zl : Int) := by omega
      have zc : (zl : Int) ≤ (c3 : Int) := by omega
      clear hhead hc3
      go_wp2_with fail
      refine Hw.out.mono ?_
      rintro e w4 ⟨v4, rfl, hown4, hb4⟩
      obtain ⟨A4, c4, rfl, _, _, _⟩ := own_slice hown4
      have Hown4 := Lib.hid hown4
      have Hs3 := Lib.hid Hb3.out.size
      have Hb4 : Hid (Below wr.heap.size wr w4) := Lib.hid (Hb3.out.trans (hb4.mono Hs3.out))
      have HO4 := Lib.hid (own_below HO3.out hb4)
      have hc4 := keepcell Hb4.out (Nat.lt_of_lt_of_le Hab.out Hb.out.size) Hc.out
      have hcv1 := fun j => string_run (w := w4.drewN j) (HB3.out.belowOf (below_drews hb4 j) (Nat.le_refl _)) c3
      have hcv2 := fun j => string_run (w := w4.drewN j) (Hbl.out.belowOf (below_drews Hb4.out j) Hb.out.size) cl
      have hsum : ¬ 9223372036854775807 < l.length + 2 := by rw [Hzl.out]; omega
      have hba : ((⟨l.toArray⟩ : ByteArray) ++ ⟨#[1, 2]⟩) = ⟨(l ++ [1, 2]).toArray⟩ := bytes_app l [1, 2]
      clear hown4 hb4 hc3'
      go_wp2
      go_quiet (fail)
      obtain ⟨g, rfl, hgr⟩ := own_at HO4.out (by omega)
      have hg3 : g < w3.heap.size := (HO3.out.lt g rfl).2
      have Hod : Hid ((w4.drewN nq).ownsRow wr.heap.size 5 1 (.slice (some ⟨g, 0, none⟩) (zl + 2) c3) (zl + 2) (byteCells (l ++ [1, 2]))) := Lib.hid HO4.out
      have H4d : Hid ((w4.drewN nq).ownsRow w3.heap.size 5 1 (.slice A4 (8 + zl) c4) (8 + zl) (byteCells (frameOf l))) := Lib.hid Hown4.out
      have Hbd : Hid (Below wr.heap.size wr (w4.drewN nq)) := Lib.hid (below_drews Hb4.out nq)
      have Hgr := Lib.hid hgr
      have Hg3 := Lib.hid hg3
      clear hcv1 hcv2 hba hsum hc4 hgr hg3
      generalize w4.drewN nq = wd at *
      generalize wr = wa at *
      go_wp2
      go_loopw [8] (fun i wq => ∃ (q : Nat) (xs : List Value), q ≤ zl + 2 ∧ i = .int .i64 (q : Int) ∧ wq.ownsRow wa.heap.size 5 1 (.slice (some ⟨g, 0, none⟩) (zl + 2) c3) (zl + 2) xs ∧ wd.grownBy wq (some g)) (fun i _ => zl + 2 - (intOf i).toNat)
      case atStart => exact ⟨0, _, by omega, rfl, Hod.out, World.grownBy.refl _ _⟩
      case round =>
        obtain ⟨q, xs, hq, rfl, hoq, hgq⟩ := hrel
        have Hgq := Lib.hid hgq
        clear hgq
        by_cases hqz : q < zl + 2
        · obtain ⟨v, hcq⟩ : ∃ v, wr.cell? ⟨g, q, none⟩ = some v := by
            rw [hoq.cellAt q (by omega)]
            exact ⟨_, List.getElem?_eq_getElem (by have := hoq.1; omega)⟩
          have hfq := hoq.frozenAt q
          have Hst := Lib.hid (hoq.stored q (.int .u8 9))
          have q0 : (0 : Int) ≤ (q : Int) := by omega
          have q1 : (q : Int) < (zl : Int) + 2 := by omega
          clear hoq
          go_wp2
          go_roundw
          case rel => exact ⟨q + 1, _, by omega, by go_num, Hst.out.1, grownBy_more Hgq.out Hst.out.2⟩
          case measure => simp [intOf]; omega
        · have hne : ∀ x, x ≠ g → ∀ {o : Obj}, wd.heap[x]? = some o → wr.heap[x]? = wd.heap[x]? := fun x hx _ ho => Hgq.out.block x (Array.getElem?_eq_some_iff.1 ho).1 fun e => hx (by injection e)
          have Hownb : Hid (wr.ownsRow w.heap.size 5 1 u3 (endK L k) (byteCells (frames (L.take k)))) := Lib.hid (own_keep1 (own_below Hownx.out Hbd.out) fun x hx => by
            obtain ⟨cur, hcur⟩ := own_type1 (own_below Hownx.out Hbd.out) hx
            exact hne x (fun e => by have := (Hownx.out.lt x hx).2; have := Hgr.out; omega) hcur)
          have H4q : Hid (wr.ownsRow w3.heap.size 5 1 (.slice A4 (8 + zl) c4) (8 + zl) (byteCells (frameOf l))) := Lib.hid (own_keep1 H4d.out fun x hx => by
            obtain ⟨cur, hcur⟩ := own_type1 H4d.out hx
            exact hne x (fun e => by have := (H4d.out.lt x hx).1; have := Hg3.out; omega) hcur)
          have Hbq : Hid (Below w.heap.size w wr) := Lib.hid (((Hb.out.trans (Hbd.out.mono Hb.out.size))).grown Hgq.out (Nat.le_trans Hb.out.size Hbd.out.size) fun x hx => by injection hx with hx; have := Hgr.out; have := Hb.out.size; omega)
          clear hne hoq
          go_wp2_with (at_builtin; refine wpList_append_has rfl (.tmp 64) (.tmp 65) _ rfl 5 u8_elem Try.underlying22 rfl Hownb.out rfl (Has.of_own H4q.out) (byteCells_one _) (by have := Hsk.out; simp only [maxLen]; omega) (by have := Hsk.out; omega) Hbq.out.size ?_; intro v5 w5 hown5 hg5 hz5; have Hb5 : Hid (Below w.heap.size w w5) := Lib.hid (below_own Hbq.out Hownb.out hg5 Hbq.out.size); have Hown5 := Lib.hid hown5; clear hown5 hg5 hz5)
          go_roundw
          case rel => exact ⟨k + 1, by omega, by go_num, own_row Hown5.out He1.out.symm (by rw [Hfr.out, byteCells_app]), Hb5.out⟩
          case measure => simp [intOf]; omega
    · obtain rfl : k = n := by omega
      have Hall : Hid (frames (L.take k) = frames L) := Lib.hid (by rw [List.take_of_length_le (by rw [HL.out]; exact Nat.le_refl _)])
      have hX18 := Hsz.out k
      obtain ⟨X, hX⟩ : ∃ X, endK L k = X := ⟨_, rfl⟩
      have HX : Hid ((frames L).length = X) := Lib.hid (by rw [← Hall.out, ← hX]; rfl)
      have hownx := Hownx.out
      rw [hX, Hall.out] at hownx
      rw [hX] at hX18
      obtain ⟨Ax, cx, rfl, hcx, _, hhx⟩ := own_slice hownx
      have Hownb := Lib.hid hownx
      have Hhb := Lib.hid hhx
      have hcvb := string_run hhx cx
      have Hsc : Hid (scanT (frames L) = (L, X)) := Lib.hid (by rw [scan_all L (fun p hp => by have := Hmem.out p hp; omega), HX.out])
      clear hownx hX hk hlt hhx
      generalize wr = wa at *
      go_wp2_with fail
      refine (scan_any Ax X cx wa.heap.size (frames L) wa Hhb.out (Nat.le_refl _) (by omega) hcx).mono ?_
      rintro e w5 ⟨v5, rs5, rfl, ho5, he5, hb5⟩
      rw [Hsc.out] at he5 ⊢
      have Ho5 := Lib.hid ho5
      have Hb5 := Lib.hid hb5
      have Hs5 := Lib.hid hb5.size
      have hl5 : rs5.length = k := by rw [← HL.out, ← show brLists rs5 = L from he5, brLists_len]
      go_wp2_with fail
      refine (scan_any Ax X cx wa.heap.size (frames L) w5 (Hhb.out.belowOf hb5 (Nat.le_refl _)) Hs5.out (by omega) hcx).mono ?_
      rintro e w6 ⟨v6, rs6, rfl, ho6, he6, hb6⟩
      rw [Hsc.out] at he6 ⊢
      have Hb6 : Hid (Below wa.heap.size wa w6) := Lib.hid (hb5.trans (hb6.mono Hs5.out))
      have Hs6 := Lib.hid hb6.size
      obtain ⟨A6, c6, rfl, _, _, hh6⟩ := ho6.has
      have he6' : brLists rs6 = L := he6
      have hl6 : rs6.length = k := by rw [← HL.out, ← he6', brLists_len]
      have Ho5' := Lib.hid (Ho5.out.below hb6)
      obtain ⟨A5, c5, rfl, hc5, _, _⟩ := ho5.has
      rw [hl5] at hc5
      have Hlist : Hid (w6.ownsRow wa.heap.size 22 1 (.slice A5 k c5) k (brCells rs5)) := Lib.hid (by have := Ho5'.out.own; rw [hl5] at this; exact this)
      have Hrows : Hid (∀ r ∈ rs5, w6.ownsRow wa.heap.size 5 1 r.1 r.2.length (byteCells r.2) ∧ ∀ g, r.1.ownBlock = some g → g < w5.heap.size) := Lib.hid fun r hr => ⟨Ho5'.out.rows r hr, fun g hg => ((Ho5.out.rows r hr).lt g hg).2⟩
      have Hap := Lib.hid Ho5'.out.apart
      have He5 := Lib.hid (show brLists rs5 = L from he5)
      have Hl5 := Lib.hid hl5
      have ho6' := ho6
      rw [hl6] at hh6 ho6' ⊢
      rw [hl5]
      have Ho6 := Lib.hid ho6'
      have He6 := Lib.hid he6'
      have Hl6 := Lib.hid hl6
      clear ho5 hb5 ho6 ho6' he5 he6 he6' hb6 hh6 hl5 hl6
      have hak : rs5.length = k := Hl5.out
      go_wp2_with fail
      go_loopw [14, 15] (fun i _ wq => ∃ (j : Nat) (pre : List Value), j ≤ k ∧ i = .int .i64 (j : Int) ∧ pre.length = j ∧ wq.ownsRow wa.heap.size 22 1 (.slice A5 k c5) k (pre ++ brCells (rs5.drop j)) ∧
        (∀ r ∈ rs5.drop j, wq.ownsRow wa.heap.size 5 1 r.1 r.2.length (byteCells r.2)) ∧ KeepM wa.heap.size w5.heap.size w6.heap.size w6 wq) (fun i _ _ => k - (intOf i).toNat)
      case atStart => exact ⟨0, [], by omega, rfl, rfl, Hlist.out, fun r hr => (Hrows.out r hr).1, KeepM.refl _ _ _ _⟩
      case round =>
        obtain ⟨j, pre, hj, rfl, hpre, hlist, hrows, hkeep⟩ := hrel
        have Hlist2 := Lib.hid hlist
        have Hrows2 := Lib.hid hrows
        have Hkeep := Lib.hid hkeep
        have Hpre := Lib.hid hpre
        clear hlist hrows hkeep hpre
        by_cases hjk : j < k
        · obtain ⟨r, hr⟩ : ∃ r, rs5[j]? = some r := ⟨_, List.getElem?_eq_getElem (by omega)⟩
          have hdrop : rs5.drop j = r :: rs5.drop (j + 1) := by
            have hl : j < rs5.length := by omega
            rw [List.drop_eq_getElem_cons hl]
            rw [List.getElem?_eq_getElem hl] at hr
            injection hr with hr
            rw [hr]
          have Hdrop := Lib.hid hdrop
          have hown0 := Hrows2.out r (by rw [hdrop]; simp)
          have hlt5 := (Hrows.out r (List.mem_of_getElem? hr)).2
          obtain ⟨rv, rl⟩ := r
          obtain ⟨Ai, ci, hrv, hci, hcm, _⟩ := own_slice hown0
          simp only at hrv hown0 hlt5
          subst hrv
          obtain ⟨mi, hmi⟩ : ∃ mi, rl.length = mi := ⟨_, rfl⟩
          rw [hmi] at hown0 hlt5 hci
          have Hown0 := Lib.hid hown0
          have Hlt5 := Lib.hid hlt5
          have Hmi := Lib.hid hmi
          rw [hmi] at Hdrop
          have hlist := Hlist2.out
          rw [hdrop, hmi] at hlist
          have Hlist3 := Lib.hid hlist
          clear hdrop hown0 hlt5 hlist hr hmi
          have Hrest : Hid (∀ s ∈ rs5.drop (j + 1), ∀ g h, (Value.slice Ai mi ci).ownBlock = some g → s.1.ownBlock = some h → g < h) := Lib.hid (by
            have := List.Pairwise.sublist (List.drop_sublist j rs5) Hap.out
            rw [Hdrop.out] at this
            exact (List.pairwise_cons.1 this).1)
          obtain ⟨gl, rfl, hgl⟩ := own_at Hlist3.out (by omega)
          have Hgl5 := Lib.hid (Ho5.out.own.lt gl rfl)
          have Hap5 := Lib.hid (fun g hg => (Hown0.out.lt g hg).1)
          have hj0 : (0 : Int) ≤ (j : Int) := by omega
          have hj1 : (j : Int) < (k : Int) := by omega
          have hm2 : mi ≤ 2000 := by
            have h1 : rl ∈ L := by
              have := Hdrop.out
              rw [← show brLists rs5 = L from He5.out]
              refine List.mem_map.2 ⟨(.slice Ai mi ci, rl), List.mem_of_mem_drop (i := j) (by rw [this]; simp), rfl⟩
            have := Hmem.out rl h1
            rw [Hmi.out] at this
            exact this
          clear hgl hcm
          generalize wr = wd at *
          have ql0 : wd.cell? ⟨gl, j, none⟩ = some (.slice Ai mi ci) := by rw [Hlist3.out.cellAt j (by omega)]; exact cell_mid Hpre.out
          go_wp2
          clear ql0
          go_loopw [15] (fun q wq => ∃ (p : Nat) (bs : List UInt8), p ≤ mi ∧ q = .int .i64 (p : Int) ∧ bs.length = mi ∧ wq.ownsRow wa.heap.size 5 1 (.slice Ai mi ci) mi (byteCells bs) ∧ wd.grownBy wq (Value.slice Ai mi ci).ownBlock) (fun q _ => mi - (intOf q).toNat)
          case atStart => exact ⟨0, rl, by omega, rfl, Hmi.out, Hown0.out, World.grownBy.refl _ _⟩
          case round =>
            obtain ⟨p, bs, hp, rfl, hbs, hrow, hgq⟩ := hrel
            have Hrow := Lib.hid hrow
            have Hgq := Lib.hid hgq
            have Hbs := Lib.hid hbs
            have Hl := Lib.hid (own_keep1 Hlist3.out fun g hg => own_other hgq Hown0.out Hlist3.out (by decide) hg)
            have ql : wr.cell? ⟨gl, j, none⟩ = some (.slice Ai mi ci) := by rw [Hl.out.cellAt j (by omega)]; exact cell_mid Hpre.out
            clear hrow hgq hbs
            by_cases hpm : p < mi
            · obtain ⟨gi, rfl, _⟩ := own_at Hrow.out (by omega)
              have hbl : p < bs.length := by have := Hbs.out; omega
              have qb : wr.cell? ⟨gi, p, none⟩ = some (.int .u8 (bs[p].toNat : Int)) := by rw [Hrow.out.cellAt p (by omega)]; simp [byteCells, hbl]
              have qf := Hrow.out.frozenAt p
              have Hst := Lib.hid (Hrow.out.stored p (.int .u8 ((UInt8.ofNat (bs[p].toNat ^^^ 255)).toNat : Int)))
              have Hfl := Lib.hid (u8_flip bs[p])
              have hp0 : (0 : Int) ≤ (p : Int) := by omega
              have hp1 : (p : Int) < (mi : Int) := by omega
              generalize bs[p] = b at *
              go_wp2
              go_still_tail 14, (by kernel_rfl)
              change wpList _ _ _ _ _ wr.drew
              have qf2 : wr.drew.frozen? ⟨gi, p, none⟩ = false := qf
              have qb2 : wr.drew.cell? ⟨gi, p, none⟩ = some (.int .u8 (b.toNat : Int)) := qb
              go_wp2
              go_roundw
              case rel =>
                refine ⟨p + 1, bs.set p (UInt8.ofNat (b.toNat ^^^ 255)), by omega, by go_num, by rw [List.length_set]; exact Hbs.out, ?_, ?_⟩
                · rw [Hfl.out]
                  have := Hst.out.1
                  rw [byteCells_set] at this
                  exact this
                · rw [Hfl.out]
                  exact grownBy_more Hgq.out (grownBy_drew Hst.out.2)
              case measure => simp [intOf]; omega
            · obtain rfl : p = mi := by omega
              have Hkeep1 : Hid (KeepM wa.heap.size w5.heap.size w6.heap.size w6 wr) := Lib.hid (Hkeep.out.grown Hgq.out fun g hg => ⟨Hap5.out g hg, .inl (Hlt5.out g hg)⟩)
              have Hrows3 : Hid (∀ s ∈ rs5.drop (j + 1), wr.ownsRow wa.heap.size 5 1 s.1 s.2.length (byteCells s.2)) := Lib.hid fun s hs => keep_row Hgq.out (Hrows2.out s (by rw [Hdrop.out]; exact List.mem_cons_of_mem _ hs)) fun g hg e => by
                have := Hrest.out s hs g g e hg
                omega
              have Hwl : Hid (wa.heap.size ≤ wr.heap.size) := Lib.hid (Nat.le_trans Hb6.out.size Hkeep1.out.size)
              go_wp2_with (at_builtin; refine wpList_append_has rfl (.tmp 113) (.tmp 114) _ rfl 5 u8_elem Try.underlying22 rfl (own_below Hrow.out ((Below.refl _ _).alloc (Nat.le_refl _) _)) rfl (Has.one wr _ _ _ rfl) (one_int _ _) (by simp only [maxLen]; omega) (by omega) (le_alloc Hwl.out _) ?_; intro v7 w7 hown7 hg7 hz7; obtain ⟨A7, c7, rfl, _, _, _⟩ := own_slice hown7; have Hg7 := Lib.hid hg7; have Hl7 := Lib.hid (own_keep1 (own_below Hl.out ((Below.refl _ _).alloc (Nat.le_refl _) _)) fun g hg => own_other hg7 (own_below Hrow.out ((Below.refl _ _).alloc (Nat.le_refl _) _)) (own_below Hl.out ((Below.refl _ _).alloc (Nat.le_refl _) _)) (by decide) hg); have q7 : w7.cell? ⟨gl, j, none⟩ = some (.slice Ai p ci) := (by rw [Hl7.out.cellAt j (by omega)]; exact cell_mid Hpre.out); have f7 := Hl7.out.frozenAt j; have Hst7 := Lib.hid (Hl7.out.stored j (.slice A7 (p + 1) c7)); clear hown7 hg7 hz7)
              go_roundw
              case rel =>
                refine ⟨j + 1, pre ++ [.slice A7 (p + 1) c7], by omega, by go_num, by simp [Hpre.out], ?_, fun s hs => ?_, ?_⟩
                · have := Hst7.out.1
                  rw [show brCells ((Value.slice Ai p ci, rl) :: List.drop (j + 1) rs5) = .slice Ai p ci :: brCells (List.drop (j + 1) rs5) from rfl, set_mid Hpre.out] at this
                  exact this
                · have hs7 := keep_row Hg7.out (own_below (Hrows3.out s hs) ((Below.refl _ _).alloc (Nat.le_refl _) _)) fun g hg e => by
                    have := Hrest.out s hs g g e hg
                    omega
                  exact own_keep1 hs7 fun g hg => own_other Hst7.out.2 Hl7.out hs7 (by decide) hg
                · exact ((Hkeep1.out.alloc _).grown Hg7.out fun g hg => ⟨Hap5.out g hg, .inl (Hlt5.out g hg)⟩).grown Hst7.out.2 fun g hg => by
                    injection hg with hg
                    have := Hgl5.out
                    omega
              case measure => simp [intOf]; omega
        · obtain rfl : j = k := by omega
          have hcell : ∀ q : Addr, q.block < wa.heap.size → wr.cell? q = w6.cell? q := fun q hq => World.cell?_of_block (Hkeep.out.block q.block (Nat.lt_of_lt_of_le hq Hb6.out.size) (.inl hq))
          have hcv := string_run (Has.keep (Hhb.out.belowOf Hb6.out (Nat.le_refl _)) hcell) cx
          have hkeepo : ∀ {e : TypeId} {m : Nat} {v : Value} {xs : List Value}, w6.ownsRow w5.heap.size e 1 v m xs → wr.ownsRow w5.heap.size e 1 v m xs := fun h => own_keep1 h fun g hg => Hkeep.out.block g (h.lt g hg).2 (.inr (h.lt g hg))
          have Hrs6 : Hid (HasRs wr wr.heap.size A6 j rs6) := Lib.hid ⟨Has.of_own (by have := hkeepo Ho6.out.own; rw [Hl6.out] at this; exact this), fun r hr => by
            obtain ⟨Ar, cr, er, g1, g2, g3⟩ := own_slice (hkeepo (Ho6.out.rows r hr))
            exact ⟨Ar, _, cr, er, g1, g2, g3⟩⟩
          have Hbw : Hid (Below w.heap.size w wr) := Lib.hid (by
            have hb6 := Hb.out.trans (Hb6.out.mono Hb.out.size)
            exact ⟨Hkeep.out.os.trans hb6.os, Hkeep.out.tape.trans hb6.tape, Hkeep.out.output.trans hb6.output, Nat.le_trans hb6.size Hkeep.out.size, fun i hi => (Hkeep.out.block i (Nat.lt_of_lt_of_le hi hb6.size) (.inl (Nat.lt_of_lt_of_le hi Hb.out.size))).trans (hb6.block i hi)⟩)
          have Hsame := Lib.hid (rsame_any A6 A j j c6 c _ _ rs6 rs wr Hrs6.out (H.out.belowOf Hbw.out (Nat.le_refl _)) (Nat.le_refl _) Hbw.out.size (by simp only [maxLen]; omega))
          rw [decide_eq_true (show brLists rs6 = brLists rs by rw [He6.out, HLe.out])] at Hsame
          clear hcell hkeepo hcvb hak
          go_wp2_with fail
          refine Hsame.out.mono ?_
          rintro e w8 ⟨rfl, hb8⟩
          go_wp2
          go_ret
          exact ⟨rfl, Hbw.out.trans (hb8.mono Hbw.out.size)⟩

namespace lawFrameKeeps
open Go.ChangeShapes Go.WideShapes Go.ChangeAt

theorem own : ownKnob Try.prog.godebug = none := by kernel_rfl
theorem kids : Kids Try.prog (· < Try.prog.types.size) := kids_rows (by kernel_rfl) (by kernel_rfl)
theorem full : ∀ t e, t < Try.prog.types.size → Try.prog.underlying t = some (.slice e) → 0 < Try.prog.cellsOf e := slices_full_of Try.prog (by kernel_rfl)

set_option maxRecDepth 100000 in
theorem lifted (os : Os) (started : os.Started) (H : Type) (enc : TypeId × Value → H) :
    ReturnsInHanded {} Try.checked os 6 .any (Rows.frameKeepsSpec.pre6 enc Try.prog Try.f6 Rows.frameKeepsRow.domain false) (Rows.frameKeepsSpec.post enc Try.prog Try.f6 false true false false) := by
  refine returnsInHanded_of_change (C := Try.checked) own started (by kernel_rfl) Try.func6
    (ChangeSpec.witness6 (enc := enc) (C := Try.checked) false ⟨#[], #[.slice none 0 0], []⟩ 8 (by kernel_rfl) (by kernel_rfl) (by kernel_rfl) (by kernel_rfl)) ?_
  intro W base args ds gs before hval0 hW _ _
  have hval : ∀ (j : Nat) t v, Try.f6.params[j]? = some t → args[j]? = some v → Value.okWide Try.prog W .any base t v := hval0
  have hW' := hW
  obtain ⟨p, q, hA0, hV, rfl, _, _⟩ := hW
  obtain ⟨rfl, rfl⟩ := trodVars_none hV
  have hA : DataW.TrodAll enc Try.prog W 0 (fun _ => true) true Try.f6.params.toList args.toList ds p := hA0
  rw [Try.params6] at hA hval
  obtain ⟨v0, vs0, d0, ds0, p0, q0, hargs, rfl, rfl, h0, r0⟩ := trodAll_cons hA
  obtain ⟨rfl, rfl, rfl⟩ := trodAll_nil r0
  obtain rfl : args = #[v0] := by cases args; simp_all
  have hlt := hW'.lt
  obtain ⟨A0, n0, c0, rs0, rfl, hn0, hnc0, hb0⟩ := open_rs Try.underlying33 (by kernel_rfl) Try.underlying22 Try.underlying5 (by kernel_rfl) (hval 0 33 v0 rfl rfl) h0 (fun x hx => hlt x (by simp [hx]))
  refine (frameKeeps_walk A0 n0 c0 rs0 W hb0 hn0).mono fun e W' ⟨he, hbel⟩ => ?_
  subst he
  exact ⟨_, rfl, law_post kids full (of_decide_eq_true (by kernel_rfl)) Try.underlying4 rfl rfl rfl hW' hbel⟩

theorem proved : Rows.FrameKeepsSaid :=
  OpenClaim.holds_of_wide 6 Try.f6 rfl rfl rfl rfl rfl rfl rfl ⟨rfl, rfl, rfl, rfl, rfl⟩ rfl rfl rfl rfl rfl (by kernel_rfl) Try.func6 (by kernel_rfl)
    (of_decide_eq_true (by kernel_rfl)) (by unfold Func.isWrapper; first | (rw [if_pos (by decide +kernel)]; kernel_rfl) | (rw [if_neg (by decide +kernel)]; exact ⟨rfl, rfl⟩))
    (fun os started H enc _ => lifted os started H enc)
end lawFrameKeeps

end Go.Proofs.Yteegnohfmonakaa
