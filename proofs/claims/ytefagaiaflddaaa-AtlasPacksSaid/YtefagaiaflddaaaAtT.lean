/- The document's Unpack of a map (layer 12). Condition: the text is at most 3,000 bytes. -/
import Derived.Test.YtefagaiaflddaaaAtO
import Derived.Test.YtefagaiaflddaaaAtD
import Derived.Test.YtefagaiaflddaaaAtP
import Derived.Test.YtefagaiaflddaaaPakG
import Derived.Deep.DeepCutAuto
namespace Go.Proofs.Ytefagaiaflddaaa
open Go.RowKit
open Go.Lib (strCells compareBytes)

theorem box5m {w wz : World} {a b c d e : Value} {t : TypeId} {g : Nat} (hb : Box w g t #[a, b, c, d, e]) (hx : Below w.heap.size w wz) :
    wz.cell? ⟨g, 0, none⟩ = some a ∧ wz.cell? ⟨g, 1, none⟩ = some b ∧ wz.cell? ⟨g, 2, none⟩ = some c ∧ wz.cell? ⟨g, 3, none⟩ = some d ∧ wz.cell? ⟨g, 4, none⟩ = some e := by
  have hx := hb.below hx hb.lt
  exact ⟨hx.cell 0, hx.cell 1, hx.cell 2, hx.cell 3, hx.cell 4⟩
theorem set2_far {wx : World} {g g0 i : Nat} {x' y' u : Value} (hg : g ≠ g0) (h : wx.cell? ⟨g, i, none⟩ = some u) : ((wx.setCell ⟨g0, 0, none⟩ x').setCell ⟨g0, 1, none⟩ y').cell? ⟨g, i, none⟩ = some u := by
  rw [World.cell?_setCell_other _ _ _ _ (fun e => by injection e with e; exact hg e.symm), World.cell?_setCell_other _ _ _ _ (fun e => by injection e with e; exact hg e.symm)]
  exact h
/-- the world behind a call, with the box of its answer -/
theorem got_next {w0 w1 w2 : World} {B : Nat} {o : Obj} (h : Below B w0 w1) (k : Below w1.heap.size w1 w2) (hB : B ≤ w1.heap.size) : Below B w0 (w2.alloc o) := (h.trans (k.mono hB)).alloc (Nat.le_trans hB k.size) o
/-- the parts, put together -/
theorem unpack_of {l : List UInt8} {x p1 n p2 : Nat} (h1 : getNum l 0 = (x, p1, 0)) (h2 : getNum l (p1 : Int) = (n, p2, 0)) (h8 : ¬ 8 < n) {L : List Pt} {q z : Nat} (h3 : joinP [] (partsFrom l n p2) = (L, q, z)) :
    unpackT l = if z ≠ 0 then (0, [], (z : Int)) else if q < l.length then (0, [], 3) else if checkT x L ≠ 0 then (0, [], checkT x L) else ((x : Int), L, 0) := by
  unfold unpackT
  simp only [h1, h2]
  rw [if_neg (by simp), if_neg (by simp), if_neg h8]
  obtain ⟨⟨a, b, c⟩, hr⟩ : ∃ r, partsFrom l n p2 = r := ⟨_, rfl⟩
  rw [hr] at h3 ⊢
  unfold joinP at h3
  by_cases hc : c = 0
  · rw [if_pos hc] at h3
    simp only [List.nil_append] at h3
    injection h3 with e1 h3
    injection h3 with e2 e3
    subst e1 e2 hc e3
    rfl
  · rw [if_neg hc] at h3
    injection h3 with e1 h3
    injection h3 with e2 e3
    simp only at e3
    subst e3
    rw [if_pos hc, if_pos hc]
set_option maxRecDepth 100000 in
set_option maxHeartbeats 12800000 in
theorem refUnpackM_any (s : ByteArray) (w : World) (hsz : s.size ≤ 1000000) : Calls Try.prog 28 #[.string s] w (MapPost (unpackT s.data.toList) w) := by
  obtain ⟨w1, c, hcv, hc, hs1, hb1, hB1⟩ := conv_bytes Try.prog (w.alloc (.cells #[.int .i64 0, .slice none 0 0] 24)) 9 62 5 s Try.underlying9 Try.underlying62 Try.underlying5
  obtain ⟨l, hl⟩ : ∃ l, s.data.toList = l := ⟨_, rfl⟩
  have hbb : HasBytes w1 w1.heap.size (some ⟨w.heap.size + 1, 0, none⟩) s.size l := by
    have h9 := hB1.has
    rw [hl] at h9
    rw [hs1]
    have e : l.length = s.size := by rw [← hl]; simp
    rw [e] at h9
    simp only [World.size_alloc] at h9 ⊢
    exact h9
  simp only [World.size_alloc] at hcv hs1
  have HBX : Hid (∀ wx, Below w1.heap.size w1 wx → Box wx w.heap.size 24 #[.int .i64 0, .slice none 0 0] ∧ Below w.heap.size w wx) := Lib.hid fun wx hx => by
    have h9 := hb1.trans (hx.mono hb1.size)
    exact ⟨(Box.made w _ _).below h9 (by simp), (below_box _).trans (h9.mono (by simp))⟩
  have HN := Lib.hid (fun (p : Nat) wx (hx : Below w1.heap.size w1 wx) => refNum_any (some ⟨w.heap.size + 1, 0, none⟩) s.size c w1.heap.size (p : Int) l wx (Has.belowOf hbb hx (Nat.le_refl _)) hx.size (by omega))
  have HT := Lib.hid (fun (p : Nat) wx (hx : Below w1.heap.size w1 wx) => refText_any (some ⟨w.heap.size + 1, 0, none⟩) s.size c w1.heap.size (p : Int) 100 l wx (Has.belowOf hbb hx (Nat.le_refl _)) hx.size (by omega) hc)
  simp only [got] at HN HT
  have Hlen : Hid (l.length = s.size) := Lib.hid (by rw [← hl]; simp)
  have hw01 : w.heap.size + 1 ≤ w1.heap.size := by have := hb1.size; simp only [World.size_alloc] at this; omega
  rw [hl]
  obtain ⟨⟨x, p1, z1⟩, hg1⟩ : ∃ g, getNum l 0 = g := ⟨_, rfl⟩
  have HG1 := Lib.hid hg1
  have H1 := Lib.hid (HN.out 0 w1 (Below.refl _ _))
  rw [show ((0 : Nat) : Int) = 0 from rfl, hg1] at H1
  clear hg1 hbb hl hB1 hb1
  go_enter Try.func28, Try.ntmps28
  go_wp2_with fail
  refine H1.out.mono ?_
  rintro e w2 ⟨rfl, b2⟩
  go_upto_region 3 with fail
  have hbx : Box (w2.alloc (.cells #[.int .i64 (x : Int), .string ⟨#[]⟩, .slice none 0 0, .int .i64 (p1 : Int), .int .i64 (z1 : Int)] 72)) w2.heap.size 72 #[.int .i64 (x : Int), .string ⟨#[]⟩, .slice none 0 0, .int .i64 (p1 : Int), .int .i64 (z1 : Int)] := Box.made _ _ _
  have HBa := Lib.hid (b2.alloc b2.size (.cells #[.int .i64 (x : Int), .string ⟨#[]⟩, .slice none 0 0, .int .i64 (p1 : Int), .int .i64 (z1 : Int)] 72))
  generalize hWa : (w2.alloc (.cells #[.int .i64 (x : Int), .string ⟨#[]⟩, .slice none 0 0, .int .i64 (p1 : Int), .int .i64 (z1 : Int)] 72)) = wa at *
  have hgx : w.heap.size + 1 ≤ w2.heap.size := Nat.le_trans hw01 b2.size
  generalize hGx : w2.heap.size = gx at *
  clear hWa hGx b2
  have HX := Lib.hid hbx
  obtain ⟨x0, x1, x2, x3, x4⟩ := box5m hbx (Below.refl _ _)
  clear hbx
  by_cases hz1 : z1 = 0
  · subst hz1
    obtain ⟨⟨n, p2, z2⟩, hg2⟩ : ∃ g, getNum l (p1 : Int) = g := ⟨_, rfl⟩
    have HG2 := Lib.hid hg2
    have H2 := Lib.hid (HN.out p1 wa HBa.out)
    rw [hg2] at H2
    clear hg2
    go_wp2_with fail
    refine H2.out.mono ?_
    rintro e w3 ⟨rfl, b3⟩
    go_upto_region 6 with fail
    have hnx : Box (w3.alloc (.cells #[.int .i64 (n : Int), .string ⟨#[]⟩, .slice none 0 0, .int .i64 (p2 : Int), .int .i64 (z2 : Int)] 72)) w3.heap.size 72 #[.int .i64 (n : Int), .string ⟨#[]⟩, .slice none 0 0, .int .i64 (p2 : Int), .int .i64 (z2 : Int)] := Box.made _ _ _
    have HnB := Lib.hid (got_next (o := (.cells #[.int .i64 (n : Int), .string ⟨#[]⟩, .slice none 0 0, .int .i64 (p2 : Int), .int .i64 (z2 : Int)] 72)) HBa.out b3 HBa.out.size)
    have HnK := Lib.hid (b3.alloc b3.size (.cells #[.int .i64 (n : Int), .string ⟨#[]⟩, .slice none 0 0, .int .i64 (p2 : Int), .int .i64 (z2 : Int)] 72))
    have hns : wa.heap.size ≤ w3.heap.size := b3.size
    generalize hWn : (w3.alloc (.cells #[.int .i64 (n : Int), .string ⟨#[]⟩, .slice none 0 0, .int .i64 (p2 : Int), .int .i64 (z2 : Int)] 72)) = wb at *
    generalize hGn : w3.heap.size = gn at *
    clear hWn hGn b3
    have HNb := Lib.hid hnx
    have HXb := Lib.hid (HX.out.below HnK.out HX.out.lt)
    obtain ⟨y0, y1, y2, y3, y4⟩ := box5m hnx (Below.refl _ _)
    obtain ⟨x0, x1, x2, x3, x4⟩ := box5m HXb.out (Below.refl _ _)
    have hgn : w.heap.size + 1 ≤ gn := by have := HBa.out.size; omega
    clear hnx
    by_cases hz2 : z2 = 0
    · subst hz2
      by_cases h8 : 8 < n
      · have h8' : (8 : Int) < (n : Int) := by omega
        have HE : Hid (unpackT l = (0, [], 4)) := Lib.hid (by unfold unpackT; simp only [HG1.out, HG2.out]; rw [if_neg (by simp), if_neg (by simp), if_pos h8])
        obtain ⟨p0, p1', hbe⟩ := un_res (.int .i64 0) (.slice none 0 0) ((HBX.out wb HnB.out).1) ((HBX.out wb HnB.out).2)
        have HBE := Lib.hid hbe
        have r0 : wb.cell? ⟨w.heap.size, 0, none⟩ = some (.int .i64 0) := ((HBX.out wb HnB.out).1).cell 0
        have r1 : wb.cell? ⟨w.heap.size, 1, none⟩ = some (.slice none 0 0) := ((HBX.out wb HnB.out).1).cell 1
        have f0 : wb.frozen? ⟨w.heap.size, 0, none⟩ = false := ((HBX.out wb HnB.out).1).frozen 0
        have f1 : wb.frozen? ⟨w.heap.size, 1, none⟩ = false := ((HBX.out wb HnB.out).1).frozen 1
        obtain ⟨W3, hW3⟩ : ∃ W3, ((wb.setCell ⟨w.heap.size, 0, none⟩ (.int .i64 0)).setCell ⟨w.heap.size, 1, none⟩ (.slice none 0 0)) = W3 := ⟨_, rfl⟩
        rw [hW3] at p0 p1' HBE
        clear hbe
        go_wp2
        refine bodyPost_ret (v := .tuple #[.agg #[.int .i64 0, .slice none 0 0], .int .i64 4]) ?_ rfl (by rw [HE.out]; exact MapPost.err 4 HBE.out)
        simp [results, Try.results28, go_sem, p0, p1']
      · have h8' : ¬ (8 : Int) < (n : Int) := by omega
        have HP2 := Lib.hid (getNum_bound (l := l) (p := (p1 : Int)) (by rw [HG2.out]))
        rw [HG2.out] at HP2
        have HS0 : Hid (Box (wb.alloc (.cells #[.int .i64 (x : Int), .slice none 0 0] 24)) wb.heap.size 24 #[.int .i64 (x : Int), .slice none 0 0] ∧ OwnPts (wb.alloc (.cells #[.int .i64 (x : Int), .slice none 0 0] 24)) (wb.heap.size + 1) (.slice none 0 0) [] ∧ Below wb.heap.size wb (wb.alloc (.cells #[.int .i64 (x : Int), .slice none 0 0] 24)) ∧ wb.heap.size + 1 ≤ (wb.alloc (.cells #[.int .i64 (x : Int), .slice none 0 0] 24)).heap.size) := Lib.hid ⟨Box.made _ _ _, OwnPts.nil _ _, below_box _, by simp⟩
        have HWB : Hid (∀ wx, Below wb.heap.size wb wx → Below w1.heap.size w1 wx) := Lib.hid fun wx hx => HnB.out.trans (hx.mono HnB.out.size)
        have HCB : Hid (∀ wx, Below wb.heap.size wb wx → wx.cell? ⟨gn, 0, none⟩ = some (.int .i64 (n : Int))) := Lib.hid fun wx hx => (HNb.out.below hx HNb.out.lt).cell 0
        have hgnb := HNb.out.lt
        clear h8 HnK HnB
        go_wp2
        generalize hWc : (wb.alloc (.cells #[.int .i64 (x : Int), .slice none 0 0] 24)) = wc at *
        generalize hGm : wb.heap.size = gm at *
        clear hWc hGm
        go_loopw [8, 9, 10, 11] (fun av iv _ _ wr => ∃ (i q : Nat) (L : List Pt) (Ao : Option Addr) (co : Nat), i ≤ n ∧ iv = .int .i64 (i : Int) ∧ av = .int .i64 (q : Int) ∧ L.length = i ∧ Hid (Box wr gm 24 #[.int .i64 (x : Int), .slice Ao i co] ∧ OwnPts wr (gm + 1) (.slice Ao i co) L ∧ Below gm wb wr ∧ gm + 1 ≤ wr.heap.size) ∧ Hid (joinP L (partsFrom l (n - i) q) = joinP [] (partsFrom l n p2))) (fun _ iv _ _ _ => n - (intOf iv).toNat)
        case atStart => exact ⟨0, p2, [], none, 0, by omega, rfl, rfl, rfl, HS0, Lib.hid rfl⟩
        case round =>
          clear HS0 x0 x1 x2 x3 x4 y0 y1 y2 y3 y4
          obtain ⟨i, q, L, Ao, co, hi, rfl, rfl, hL, HS, HJ⟩ := hrel
          have y0 := HCB.out wr HS.out.2.2.1
          have HLl := Lib.hid hL
          have HBr := Lib.hid (HWB.out wr HS.out.2.2.1)
          have hgm1 : gm + 1 ≤ wr.heap.size := HS.out.2.2.2
          by_cases hlt : i < n
          · obtain ⟨⟨t, q1, zt⟩, ht⟩ : ∃ g, getText l (q : Int) 100 = g := ⟨_, rfl⟩
            have HGt := Lib.hid ht
            have Ht := Lib.hid (HT.out q wr HBr.out)
            rw [ht] at Ht
            clear ht
            go_wp2_with fail
            refine Ht.out.mono ?_
            rintro e w5 ⟨rfl, b5⟩
            go_upto_region 16 with fail
            have hlx : Box (w5.alloc (.cells #[.int .i64 ((0 : Nat) : Int), .string ⟨t.toArray⟩, .slice none 0 0, .int .i64 (q1 : Int), .int .i64 (zt : Int)] 72)) w5.heap.size 72 #[.int .i64 ((0 : Nat) : Int), .string ⟨t.toArray⟩, .slice none 0 0, .int .i64 (q1 : Int), .int .i64 (zt : Int)] := Box.made _ _ _
            have HlB := Lib.hid (got_next (o := (.cells #[.int .i64 ((0 : Nat) : Int), .string ⟨t.toArray⟩, .slice none 0 0, .int .i64 (q1 : Int), .int .i64 (zt : Int)] 72)) HBr.out b5 HBr.out.size)
            have HlK := Lib.hid (b5.alloc b5.size (.cells #[.int .i64 ((0 : Nat) : Int), .string ⟨t.toArray⟩, .slice none 0 0, .int .i64 (q1 : Int), .int .i64 (zt : Int)] 72))
            have hls : wr.heap.size ≤ w5.heap.size := b5.size
            generalize hWl : (w5.alloc (.cells #[.int .i64 ((0 : Nat) : Int), .string ⟨t.toArray⟩, .slice none 0 0, .int .i64 (q1 : Int), .int .i64 (zt : Int)] 72)) = wd at *
            generalize hGl : w5.heap.size = gl at *
            clear hWl hGl b5
            have HLb := Lib.hid hlx
            obtain ⟨u0, u1, u2, u3, u4⟩ := box5m hlx (Below.refl _ _)
            have HSd := Lib.hid (And.intro (HS.out.1.below HlK.out HS.out.1.lt) (And.intro (HS.out.2.1.below HlK.out) (And.intro (HS.out.2.2.1.trans (HlK.out.mono (by omega))) (Nat.le_trans hgm1 HlK.out.size))))
            clear hlx
            by_cases hzt : zt = 0
            · subst hzt
              obtain ⟨⟨nx, q2, zn⟩, hn⟩ : ∃ g, getNum l (q1 : Int) = g := ⟨_, rfl⟩
              have HGn := Lib.hid hn
              have Hn := Lib.hid (HN.out q1 wd HlB.out)
              rw [hn] at Hn
              clear hn
              go_wp2_with fail
              refine Hn.out.mono ?_
              rintro e w6 ⟨rfl, b6⟩
              go_upto_region 19 with fail
              have hkx : Box (w6.alloc (.cells #[.int .i64 (nx : Int), .string ⟨#[]⟩, .slice none 0 0, .int .i64 (q2 : Int), .int .i64 (zn : Int)] 72)) w6.heap.size 72 #[.int .i64 (nx : Int), .string ⟨#[]⟩, .slice none 0 0, .int .i64 (q2 : Int), .int .i64 (zn : Int)] := Box.made _ _ _
              have HkB := Lib.hid (got_next (o := (.cells #[.int .i64 (nx : Int), .string ⟨#[]⟩, .slice none 0 0, .int .i64 (q2 : Int), .int .i64 (zn : Int)] 72)) HlB.out b6 HlB.out.size)
              have HkK := Lib.hid (b6.alloc b6.size (.cells #[.int .i64 (nx : Int), .string ⟨#[]⟩, .slice none 0 0, .int .i64 (q2 : Int), .int .i64 (zn : Int)] 72))
              have hks : wd.heap.size ≤ w6.heap.size := b6.size
              generalize hWk : (w6.alloc (.cells #[.int .i64 (nx : Int), .string ⟨#[]⟩, .slice none 0 0, .int .i64 (q2 : Int), .int .i64 (zn : Int)] 72)) = we at *
              generalize hGk : w6.heap.size = gk at *
              clear hWk hGk b6
              have HKb := Lib.hid hkx
              obtain ⟨v0, v1, v2, v3, v4⟩ := box5m hkx (Below.refl _ _)
              have hdsz := HSd.out.2.2.2
              have HSe := Lib.hid (And.intro (HSd.out.1.below HkK.out HSd.out.1.lt) (And.intro (HSd.out.2.1.below HkK.out) (And.intro (HSd.out.2.2.1.trans (HkK.out.mono (by omega))) (Nat.le_trans hdsz HkK.out.size))))
              have HLe := Lib.hid (HLb.out.below HkK.out HLb.out.lt)
              obtain ⟨u0, u1, u2, u3, u4⟩ := box5m HLe.out (Below.refl _ _)
              clear hkx
              have hgkm : gm < gk := by omega
              by_cases hzn : zn = 0
              · subst hzn
                have z1' : we.cell? ⟨gm, 1, none⟩ = some (.slice Ao i co) := HSe.out.1.cell 1
                have bl := below_box (w := we) (Obj.cells #[.string ⟨t.toArray⟩, .int .i64 (nx : Int)] 46)
                have HBO5 := Lib.hid (And.intro (And.intro (HSe.out.1.below bl HSe.out.1.lt) (And.intro (HSe.out.2.2.1.trans (bl.mono (by have := HSe.out.2.2.2; omega))) (Nat.le_trans HSe.out.2.2.2 bl.size))) (HSe.out.2.1.below bl))
                have HKl := Lib.hid (HKb.out.below bl HKb.out.lt)
                have hO : (we.alloc (Obj.cells #[.string ⟨t.toArray⟩, .int .i64 (nx : Int)] 46)).ownsRow (gm + 1) 46 2 (.slice Ao i co) i (ptCells L) := by have h9 := HBO5.out.2; unfold OwnPts at h9; rw [HLl.out] at h9; exact h9
                have HO := Lib.hid hO
                have Hnb : Hid ((Value.slice Ao i co).ownBlock ≠ some gm) := Lib.hid fun e => by have := (HO.out.lt _ e).1; omega
                have Hnk : Hid ((Value.slice Ao i co).ownBlock ≠ some gk) := Lib.hid fun e => by
                  obtain ⟨cur, hcur⟩ := own_typeP HO.out e
                  have h9 := HKl.out
                  unfold Box at h9
                  rw [hcur] at h9
                  injection h9 with h9
                  injection h9 with _ h9
                  exact absurd h9 (by decide)
                have HLit := Lib.hid (Has.lit we #[.string ⟨t.toArray⟩, .int .i64 (nx : Int)] 46)
                have z1p : (we.alloc (Obj.cells #[.string ⟨t.toArray⟩, .int .i64 (nx : Int)] 46)).cell? ⟨gm, 1, none⟩ = some (.slice Ao i co) := HBO5.out.1.1.cell 1
                have hi8 : i < 8 := by omega
                have HJ2 : Hid (joinP (L ++ [⟨⟨t.toArray⟩, (nx : Int)⟩]) (partsFrom l (n - (i + 1)) q2) = joinP [] (partsFrom l n p2)) := Lib.hid (by
                  rw [← HJ.out, show n - i = (n - (i + 1)) + 1 from by omega]
                  exact (parts_next HGt.out HGn.out).symm)
                clear bl hO
                go_wp2_with (at_builtin; refine wpList_append_hasN rfl (.tmp 68) (.tmp 74) _ rfl 46 pt_elem (by omega) Try.underlying22 rfl HO.out rfl HLit.out (ptCells_one [⟨⟨t.toArray⟩, (nx : Int)⟩]) (by simp only [maxLen]; omega) (by omega) HBO5.out.1.2.2 ?_; intro v7 w7 o7 g7 z7; obtain ⟨A7, c7, rfl, -, -, -⟩ := own_sliceN o7; obtain ⟨y7, x7, h8⟩ := app_step (q := ⟨⟨t.toArray⟩, (nx : Int)⟩) HLl.out HBO5.out.1.1 HBO5.out.1.2.1 HBO5.out.1.2.2 Hnb.out HO.out o7 g7; have k7 : (w7.setCell ⟨gm, 1, none⟩ (.slice A7 (i + 1) c7)).cell? ⟨gk, 3, none⟩ = some (.int .i64 (q2 : Int)) := (((HKl.out.grown g7 (fun e => Hnk.out e.symm)).far (p := ⟨gm, 1, none⟩) (by show gk ≠ gm; omega) _).cell 3); have H8 := Lib.hid h8; clear o7 g7 z7 h8)
                go_wp2
                go_roundw
                case rel => exact ⟨i + 1, q2, _, A7, c7, by omega, by go_num, rfl, by rw [List.length_append, HLl.out]; rfl, Lib.hid ⟨H8.out.2.1, H8.out.1, H8.out.2.2.1, H8.out.2.2.2⟩, HJ2⟩
                case measure => simp [intOf]; omega
              · have hzn' : ((zn : Int) == 0) = false := by simpa using hzn
                have hzn'' : ((zn : Int) != 0) = true := by simpa using hzn
                have HE : Hid (unpackT l = (0, [], (zn : Int))) := Lib.hid (by
                  have h9 : joinP L (partsFrom l (n - i) q) = ([], 0, zn) := by rw [show n - i = (n - (i + 1)) + 1 from by omega]; exact parts_num HGt.out HGn.out hzn
                  rw [unpack_of HG1.out HG2.out (by omega) (HJ.out.symm.trans h9), if_pos hzn])
                obtain ⟨p0, p1', hbe⟩ := un_res (.int .i64 0) (.slice none 0 0) ((HBX.out we HkB.out).1) ((HBX.out we HkB.out).2)
                have HBE := Lib.hid hbe
                have r0 : we.cell? ⟨w.heap.size, 0, none⟩ = some (.int .i64 0) := ((HBX.out we HkB.out).1).cell 0
                have r1 : we.cell? ⟨w.heap.size, 1, none⟩ = some (.slice none 0 0) := ((HBX.out we HkB.out).1).cell 1
                have f0 : we.frozen? ⟨w.heap.size, 0, none⟩ = false := ((HBX.out we HkB.out).1).frozen 0
                have f1 : we.frozen? ⟨w.heap.size, 1, none⟩ = false := ((HBX.out we HkB.out).1).frozen 1
                obtain ⟨W3, hW3⟩ : ∃ W3, ((we.setCell ⟨w.heap.size, 0, none⟩ (.int .i64 0)).setCell ⟨w.heap.size, 1, none⟩ (.slice none 0 0)) = W3 := ⟨_, rfl⟩
                have k4 := set2_far (x' := .int .i64 0) (y' := .slice none 0 0) ((show gk ≠ w.heap.size by omega)) (v4)
                rw [hW3] at p0 p1' HBE k4
                clear hbe
                go_wp2
                go_region
                all_goals
                  go_wp2
                  refine bodyPost_ret (v := .tuple #[.agg #[.int .i64 0, .slice none 0 0], .int .i64 (zn : Int)]) ?_ rfl (by rw [HE.out]; exact MapPost.err (zn : Int) HBE.out.drew)
                  simp [results, Try.results28, go_sem, p0, p1']
            · have hzt' : ((zt : Int) == 0) = false := by simpa using hzt
              have hzt'' : ((zt : Int) != 0) = true := by simpa using hzt
              have HE : Hid (unpackT l = (0, [], (zt : Int))) := Lib.hid (by
                have h9 : joinP L (partsFrom l (n - i) q) = ([], 0, zt) := by rw [show n - i = (n - (i + 1)) + 1 from by omega]; exact parts_text HGt.out hzt
                rw [unpack_of HG1.out HG2.out (by omega) (HJ.out.symm.trans h9), if_pos hzt])
              obtain ⟨p0, p1', hbe⟩ := un_res (.int .i64 0) (.slice none 0 0) ((HBX.out wd HlB.out).1) ((HBX.out wd HlB.out).2)
              have HBE := Lib.hid hbe
              have r0 : wd.cell? ⟨w.heap.size, 0, none⟩ = some (.int .i64 0) := ((HBX.out wd HlB.out).1).cell 0
              have r1 : wd.cell? ⟨w.heap.size, 1, none⟩ = some (.slice none 0 0) := ((HBX.out wd HlB.out).1).cell 1
              have f0 : wd.frozen? ⟨w.heap.size, 0, none⟩ = false := ((HBX.out wd HlB.out).1).frozen 0
              have f1 : wd.frozen? ⟨w.heap.size, 1, none⟩ = false := ((HBX.out wd HlB.out).1).frozen 1
              obtain ⟨W3, hW3⟩ : ∃ W3, ((wd.setCell ⟨w.heap.size, 0, none⟩ (.int .i64 0)).setCell ⟨w.heap.size, 1, none⟩ (.slice none 0 0)) = W3 := ⟨_, rfl⟩
              have k4 := set2_far (x' := .int .i64 0) (y' := .slice none 0 0) ((show gl ≠ w.heap.size by omega)) (u4)
              rw [hW3] at p0 p1' HBE k4
              clear hbe
              go_wp2
              go_region
              all_goals
                go_wp2
                refine bodyPost_ret (v := .tuple #[.agg #[.int .i64 0, .slice none 0 0], .int .i64 (zt : Int)]) ?_ rfl (by rw [HE.out]; exact MapPost.err (zt : Int) HBE.out.drew)
                simp [results, Try.results28, go_sem, p0, p1']
          · obtain rfl : i = n := by omega
            have hJ : joinP [] (partsFrom l i p2) = (L, q, 0) := by
              have h9 := HJ.out
              rw [Nat.sub_self] at h9
              rw [← h9]
              unfold joinP partsFrom
              simp
            have hpz : (partsFrom l i p2).2.2 = 0 ∧ (partsFrom l i p2).1 = L ∧ (partsFrom l i p2).2.1 = q := by
              unfold joinP at hJ
              split at hJ
              · rename_i h9
                simp only [List.nil_append] at hJ
                injection hJ with e1 hJ
                injection hJ with e2 e3
                exact ⟨h9, e1, e2⟩
              · injection hJ with e1 hJ
                injection hJ with e2 e3
                exact absurd e3 (by assumption)
            obtain ⟨r1, r2, r3, r4⟩ := parts_one l i p2 HP2.out.2.2.2 hpz.1
            rw [hpz.2.2] at r3
            have HU := Lib.hid (unpack_of HG1.out HG2.out (by omega) hJ)
            rw [if_neg (by simp)] at HU
            have hq : q ≤ s.size := by rw [← Hlen.out]; exact r3
            have HQs : Hid (∀ u ∈ L, u.lo.size ≤ maxLen) := Lib.hid fun u hu => by
              have h9 := body_small L u hu
              rw [hpz.2.1] at r4
              rw [r4, List.length_take, List.length_drop, Hlen.out] at h9
              unfold maxLen
              omega
            clear hJ hpz r1 r2 r3 r4
            by_cases hqs : q = s.size
            · have hqs' : ((q : Int) != (s.size : Int)) = false := by rw [hqs]; simp
              have hqs'' : ((q : Int) == (s.size : Int)) = true := by rw [hqs]; simp
              rw [if_neg (by rw [Hlen.out]; omega)] at HU
              have z0' : wr.cell? ⟨gm, 0, none⟩ = some (.int .i64 (x : Int)) := HS.out.1.cell 0
              have z1' : wr.cell? ⟨gm, 1, none⟩ = some (.slice Ao i co) := HS.out.1.cell 1
              obtain ⟨Aq, cq, eq, -, -, xq⟩ := HS.out.2.1.slice
              injection eq with e1 e2 e3
              subst e1 e3
              rw [HLl.out] at xq
              have Hc := Lib.hid (refCheck_any (x : Int) Ao i co wr.heap.size L wr xq (Nat.le_refl _) (by unfold maxLen; omega) HQs.out)
              unfold CheckPost at Hc
              obtain ⟨ck, hck⟩ : ∃ ck, checkT x L = ck := ⟨_, rfl⟩
              rw [hck] at Hc HU
              clear hck xq e2 hqs
              go_wp2_with fail
              refine Hc.out.mono ?_
              rintro e w9 ⟨rfl, b9⟩
              have HB9 := Lib.hid (HBr.out.trans (b9.mono HBr.out.size))
              have HM9 := Lib.hid (And.intro (HS.out.1.below b9 HS.out.1.lt) (HS.out.2.1.below b9))
              have z0' : w9.cell? ⟨gm, 0, none⟩ = some (.int .i64 (x : Int)) := HM9.out.1.cell 0
              have z1' : w9.cell? ⟨gm, 1, none⟩ = some (.slice Ao i co) := HM9.out.1.cell 1
              clear b9
              by_cases hc0 : ck = 0
              · subst hc0
                rw [if_neg (by simp)] at HU
                obtain ⟨p0, p1', hbe⟩ := un_res (.int .i64 (x : Int)) (.slice Ao i co) (HBX.out w9 HB9.out).1 (HBX.out w9 HB9.out).2
                have hR9 := (HBX.out w9 HB9.out).1
                have r0 : w9.cell? ⟨w.heap.size, 0, none⟩ = some (.int .i64 0) := hR9.cell 0
                have r1 : w9.cell? ⟨w.heap.size, 1, none⟩ = some (.slice none 0 0) := hR9.cell 1
                have f0 : w9.frozen? ⟨w.heap.size, 0, none⟩ = false := hR9.frozen 0
                have f1 : w9.frozen? ⟨w.heap.size, 1, none⟩ = false := hR9.frozen 1
                have hno : (Value.slice Ao i co).ownBlock ≠ some w.heap.size := fun e => by have := (HM9.out.2.lt _ e).1; omega
                have HBE := Lib.hid (And.intro hbe (((HM9.out.2.far (i := 0) (u := .int .i64 (x : Int)) hno).far (i := 1) (u := .slice Ao i co) hno).base (B' := w.heap.size) (by omega)))
                obtain ⟨W3, hW3⟩ : ∃ W3, ((w9.setCell ⟨w.heap.size, 0, none⟩ (.int .i64 (x : Int))).setCell ⟨w.heap.size, 1, none⟩ (.slice Ao i co)) = W3 := ⟨_, rfl⟩
                rw [hW3] at p0 p1' HBE
                clear hbe hno hR9
                go_wp2
                refine bodyPost_ret (v := .tuple #[.agg #[.int .i64 (x : Int), .slice Ao i co], .int .i64 0]) ?_ rfl (by rw [HU.out]; exact ⟨.slice Ao i co, rfl, HBE.out.2, HBE.out.1⟩)
                simp [results, Try.results28, go_sem, p0, p1']
              · have hk' : (ck == 0) = false := by simpa using hc0
                have hk'' : (ck != 0) = true := by simpa using hc0
                rw [if_pos hc0] at HU
                obtain ⟨p0, p1', hbe⟩ := un_res (.int .i64 0) (.slice none 0 0) ((HBX.out w9 HB9.out).1) ((HBX.out w9 HB9.out).2)
                have HBE := Lib.hid hbe
                have r0 : w9.cell? ⟨w.heap.size, 0, none⟩ = some (.int .i64 0) := ((HBX.out w9 HB9.out).1).cell 0
                have r1 : w9.cell? ⟨w.heap.size, 1, none⟩ = some (.slice none 0 0) := ((HBX.out w9 HB9.out).1).cell 1
                have f0 : w9.frozen? ⟨w.heap.size, 0, none⟩ = false := ((HBX.out w9 HB9.out).1).frozen 0
                have f1 : w9.frozen? ⟨w.heap.size, 1, none⟩ = false := ((HBX.out w9 HB9.out).1).frozen 1
                obtain ⟨W3, hW3⟩ : ∃ W3, ((w9.setCell ⟨w.heap.size, 0, none⟩ (.int .i64 0)).setCell ⟨w.heap.size, 1, none⟩ (.slice none 0 0)) = W3 := ⟨_, rfl⟩
                rw [hW3] at p0 p1' HBE
                clear hbe
                go_wp2
                refine bodyPost_ret (v := .tuple #[.agg #[.int .i64 0, .slice none 0 0], .int .i64 ck]) ?_ rfl (by rw [HU.out]; exact MapPost.err ck HBE.out)
                simp [results, Try.results28, go_sem, p0, p1']
            · have hqs' : ((q : Int) != (s.size : Int)) = true := by simpa using (by omega : ¬ (q : Int) = (s.size : Int))
              have hqs'' : ((q : Int) == (s.size : Int)) = false := beq_false_of_ne (by omega)
              rw [if_pos (by rw [Hlen.out]; omega)] at HU
              obtain ⟨p0, p1', hbe⟩ := un_res (.int .i64 0) (.slice none 0 0) ((HBX.out wr HBr.out).1) ((HBX.out wr HBr.out).2)
              have HBE := Lib.hid hbe
              have r0 : wr.cell? ⟨w.heap.size, 0, none⟩ = some (.int .i64 0) := ((HBX.out wr HBr.out).1).cell 0
              have r1 : wr.cell? ⟨w.heap.size, 1, none⟩ = some (.slice none 0 0) := ((HBX.out wr HBr.out).1).cell 1
              have f0 : wr.frozen? ⟨w.heap.size, 0, none⟩ = false := ((HBX.out wr HBr.out).1).frozen 0
              have f1 : wr.frozen? ⟨w.heap.size, 1, none⟩ = false := ((HBX.out wr HBr.out).1).frozen 1
              obtain ⟨W3, hW3⟩ : ∃ W3, ((wr.setCell ⟨w.heap.size, 0, none⟩ (.int .i64 0)).setCell ⟨w.heap.size, 1, none⟩ (.slice none 0 0)) = W3 := ⟨_, rfl⟩
              rw [hW3] at p0 p1' HBE
              clear hbe
              go_wp2
              refine bodyPost_ret (v := .tuple #[.agg #[.int .i64 0, .slice none 0 0], .int .i64 3]) ?_ rfl (by rw [HU.out]; exact MapPost.err 3 HBE.out)
              simp [results, Try.results28, go_sem, p0, p1']
    · have hz2' : ((z2 : Int) == 0) = false := by simpa using hz2
      have hz2'' : ((z2 : Int) != 0) = true := by simpa using hz2
      have HE : Hid (unpackT l = (0, [], (z2 : Int))) := Lib.hid (by unfold unpackT; simp only [HG1.out, HG2.out]; rw [if_neg (by simp), if_pos hz2])
      obtain ⟨p0, p1', hbe⟩ := un_res (.int .i64 0) (.slice none 0 0) ((HBX.out wb HnB.out).1) ((HBX.out wb HnB.out).2)
      have HBE := Lib.hid hbe
      have r0 : wb.cell? ⟨w.heap.size, 0, none⟩ = some (.int .i64 0) := ((HBX.out wb HnB.out).1).cell 0
      have r1 : wb.cell? ⟨w.heap.size, 1, none⟩ = some (.slice none 0 0) := ((HBX.out wb HnB.out).1).cell 1
      have f0 : wb.frozen? ⟨w.heap.size, 0, none⟩ = false := ((HBX.out wb HnB.out).1).frozen 0
      have f1 : wb.frozen? ⟨w.heap.size, 1, none⟩ = false := ((HBX.out wb HnB.out).1).frozen 1
      obtain ⟨W3, hW3⟩ : ∃ W3, ((wb.setCell ⟨w.heap.size, 0, none⟩ (.int .i64 0)).setCell ⟨w.heap.size, 1, none⟩ (.slice none 0 0)) = W3 := ⟨_, rfl⟩
      have k4 := set2_far (x' := .int .i64 0) (y' := .slice none 0 0) ((show gn ≠ w.heap.size by omega)) (y4)
      rw [hW3] at p0 p1' HBE k4
      clear hbe
      go_wp2
      go_region
      all_goals
        go_wp2
        refine bodyPost_ret (v := .tuple #[.agg #[.int .i64 0, .slice none 0 0], .int .i64 (z2 : Int)]) ?_ rfl (by rw [HE.out]; exact MapPost.err (z2 : Int) HBE.out.drew)
        simp [results, Try.results28, go_sem, p0, p1']
  · have hz1' : ((z1 : Int) == 0) = false := by simpa using hz1
    have hz1'' : ((z1 : Int) != 0) = true := by simpa using hz1
    have HE : Hid (unpackT l = (0, [], (z1 : Int))) := Lib.hid (by unfold unpackT; simp only [HG1.out]; rw [if_pos hz1])
    obtain ⟨p0, p1', hbe⟩ := un_res (.int .i64 0) (.slice none 0 0) ((HBX.out wa HBa.out).1) ((HBX.out wa HBa.out).2)
    have HBE := Lib.hid hbe
    have r0 : wa.cell? ⟨w.heap.size, 0, none⟩ = some (.int .i64 0) := ((HBX.out wa HBa.out).1).cell 0
    have r1 : wa.cell? ⟨w.heap.size, 1, none⟩ = some (.slice none 0 0) := ((HBX.out wa HBa.out).1).cell 1
    have f0 : wa.frozen? ⟨w.heap.size, 0, none⟩ = false := ((HBX.out wa HBa.out).1).frozen 0
    have f1 : wa.frozen? ⟨w.heap.size, 1, none⟩ = false := ((HBX.out wa HBa.out).1).frozen 1
    obtain ⟨W3, hW3⟩ : ∃ W3, ((wa.setCell ⟨w.heap.size, 0, none⟩ (.int .i64 0)).setCell ⟨w.heap.size, 1, none⟩ (.slice none 0 0)) = W3 := ⟨_, rfl⟩
    have k4 := set2_far (x' := .int .i64 0) (y' := .slice none 0 0) ((show gx ≠ w.heap.size by omega)) (x4)
    rw [hW3] at p0 p1' HBE k4
    clear hbe
    go_wp2
    go_region
    all_goals
      go_wp2
      refine bodyPost_ret (v := .tuple #[.agg #[.int .i64 0, .slice none 0 0], .int .i64 (z1 : Int)]) ?_ rfl (by rw [HE.out]; exact MapPost.err (z1 : Int) HBE.out.drew)
      simp [results, Try.results28, go_sem, p0, p1']
end Go.Proofs.Ytefagaiaflddaaa
