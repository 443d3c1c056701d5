/- A letter's bytes read back, whole or cut: in plain words. No condition. -/
import Derived.Test.YtabcoidjbigdbaaLetL
import Derived.Test.YtabcoidjbigdbaaLetG
namespace Go.Proofs.Ytabcoidjbigdbaa

/-- a reader that goes through the bytes F, all of them (full) or their beginning -/
def St (l : List UInt8) (full : Prop) (F : List UInt8) (s : S2) : Prop :=
  (s.2 = 2 ∧ ¬ full) ∨ (s.2 = 0 ∧ s.1 ≤ l.length ∧ ∃ i, i ≤ F.length ∧ l.drop s.1 = F.take i ∧ (full ↔ i = F.length))
section
variable {l : List UInt8} {full : Prop} {F G : List UInt8} {s : S2}
theorem St.live (h : St l full F s) (hf : full) : s.2 = 0 := by
  rcases h with ⟨-, h⟩ | ⟨h, -⟩
  · exact absurd hf h
  · exact h
theorem St.fin (h : St l full [] s) (hf : ¬ full) : s.2 = 2 := by
  rcases h with ⟨h, -⟩ | ⟨-, -, i, hi, -, hq⟩
  · exact h
  · simp at hi
    exact absurd (hq.2 (by simpa using hi)) hf
theorem St.all (h : St l full [] s) (hf : full) : s.1 = l.length := by
  rcases h with ⟨-, h⟩ | ⟨-, h, i, hi, hd, -⟩
  · exact absurd hf h
  · have := congrArg List.length hd
    simp at this
    omega
theorem st_num {k most : Nat} (h : St l full (numForm k ++ G) s) (hk : k ≤ most) (h63 : k < 9223372036854775808) :
    St l full G (rdN l most s).2 ∧ ((rdN l most s).2.2 = 0 → (rdN l most s).1 = k) := by
  obtain ⟨p, e⟩ := s
  unfold rdN
  rcases h with ⟨h, hf⟩ | ⟨h, hp, i, hi, hd, hq⟩
  · simp only at h
    subst h
    rw [if_pos (by simp)]
    exact ⟨.inl ⟨rfl, hf⟩, fun h => by simp at h⟩
  · simp only at h hp hd
    subst h
    rw [if_neg (by simp)]
    simp only
    rw [List.length_append] at hi hq
    by_cases hc : i < (numForm k).length
    · have e1 := getNum_cut (l := l) (n := k) (p := p) (i := i) h63 hp hc (by rw [hd, List.take_append_of_le_length (by omega)])
      rw [e1]
      simp only
      rw [if_pos (by simp)]
      exact ⟨.inl ⟨rfl, fun h => by have := hq.1 h; omega⟩, fun h => by simp at h⟩
    · have hd2 : l.drop p = numForm k ++ G.take (i - (numForm k).length) := by rw [hd, List.take_append, List.take_of_length_le (by omega)]
      have e1 := getNum_put (l := l) (n := k) (p := p) h63 hp hd2
      rw [e1]
      simp only
      rw [if_neg (by simp), if_neg (by omega)]
      have hl := drop_len hd2 hp
      rw [List.length_append] at hl
      exact ⟨.inr ⟨rfl, by simp only; omega, i - (numForm k).length, by omega, drop_more hd2, by rw [hq]; omega⟩, fun _ => rfl⟩
theorem st_txt {t : List UInt8} (h : St l full (textForm t ++ G) s) (h63 : t.length < 9223372036854775807) :
    St l full G (rdT l s).2 ∧ ((rdT l s).2.2 = 0 → (rdT l s).1 = t) := by
  obtain ⟨p, e⟩ := s
  unfold rdT
  rcases h with ⟨h, hf⟩ | ⟨h, hp, i, hi, hd, hq⟩
  · simp only at h
    subst h
    rw [if_pos (by simp)]
    exact ⟨.inl ⟨rfl, hf⟩, fun h => by simp at h⟩
  · simp only at h hp hd
    subst h
    rw [if_neg (by simp)]
    simp only
    rw [List.length_append] at hi hq
    by_cases hc : i < (textForm t).length
    · have e1 := getText_cut (l := l) (s := t) (p := p) (i := i) (most := 9223372036854775807) (by omega) (by omega) hp hc (by rw [hd, List.take_append_of_le_length (by omega)])
      rw [e1]
      simp only
      rw [if_pos (by simp)]
      exact ⟨.inl ⟨rfl, fun h => by have := hq.1 h; omega⟩, fun h => by simp at h⟩
    · have hd2 : l.drop p = textForm t ++ G.take (i - (textForm t).length) := by rw [hd, List.take_append, List.take_of_length_le (by omega)]
      have e1 := getText_put (l := l) (s := t) (p := p) (most := 9223372036854775807) (by omega) (by omega) hp hd2
      rw [e1]
      simp only
      rw [if_neg (by simp)]
      have hl := drop_len hd2 hp
      rw [List.length_append] at hl
      exact ⟨.inr ⟨rfl, by simp only; omega, i - (textForm t).length, by omega, drop_more hd2, by rw [hq]; omega⟩, fun _ => rfl⟩
end
section
variable {l : List UInt8} {full : Prop}
theorem many_dead {α : Type} {f : S2 → α × S2} {k : Nat} {s : S2} (h : s.2 ≠ 0) : rdMany f k s = ([], s) := by
  cases k with
  | zero => rfl
  | succ k => unfold rdMany; rw [if_pos h]
theorem st_prs : ∀ (ps : List LPr) (G : List UInt8) (s : S2), (∀ p ∈ ps, p.k.size ≤ 1000000 ∧ p.v.size ≤ 1000000) → St l full (formsOf (prToks ps) ++ G) s →
    St l full G (rdMany (rdP l) ps.length s).2 ∧ (full → (rdMany (rdP l) ps.length s).1 = ps)
  | [], G, s, _, h => ⟨by simpa [rdMany, prToks, formsOf] using h, fun _ => rfl⟩
  | p :: ps, G, s, hs, h => by
    obtain ⟨hk, hv⟩ := hs p (by simp)
    have h0 : St l full (textForm p.k.data.toList ++ (textForm p.v.data.toList ++ (formsOf (prToks ps) ++ G))) s := by
      simpa [prToks, formsOf, tokForm] using h
    by_cases hd : s.2 = 0
    · obtain ⟨h1, v1⟩ := st_txt h0 (by rw [size_bytes]; omega)
      obtain ⟨h2, v2⟩ := st_txt h1 (by rw [size_bytes]; omega)
      obtain ⟨h3, v3⟩ := st_prs ps G _ (fun q hq => hs q (by simp [hq])) h2
      have e : rdMany (rdP l) (p :: ps).length s = ((rdP l s).1 :: (rdMany (rdP l) ps.length (rdP l s).2).1, (rdMany (rdP l) ps.length (rdP l s).2).2) := by
        show rdMany (rdP l) (ps.length + 1) s = _
        rw [rdMany, if_neg (by simpa using hd)]
      rw [e]
      refine ⟨h3, fun hf => ?_⟩
      show (rdP l s).1 :: (rdMany (rdP l) ps.length (rdT l (rdT l s).2).2).1 = _
      rw [v3 hf]
      congr 1
      unfold rdP
      rw [v1 (h1.live hf), v2 (h2.live hf)]
    · rw [many_dead hd]
      rcases h with ⟨h, hf⟩ | ⟨h, -⟩
      · exact ⟨.inl ⟨h, hf⟩, fun h => absurd h hf⟩
      · exact absurd h hd
theorem st_its : ∀ (is : List LIt) (G : List UInt8) (s : S2), (∀ p ∈ is, p.e.size ≤ 1000000 ∧ okNum p.v) → St l full (formsOf (itToks is) ++ G) s →
    St l full G (rdMany (rdI l) is.length s).2 ∧ (full → (rdMany (rdI l) is.length s).1 = is)
  | [], G, s, _, h => ⟨by simpa [rdMany, itToks, formsOf] using h, fun _ => rfl⟩
  | p :: is, G, s, hs, h => by
    obtain ⟨hk, hv1, hv2⟩ := hs p (by simp)
    have hg : (one p.g).toNat ≤ 1 := by unfold one; split <;> decide
    have h0 : St l full (textForm p.e.data.toList ++ (numForm p.v.toNat ++ (numForm (one p.g).toNat ++ (formsOf (itToks is) ++ G)))) s := by
      have e1 : tokForm (.n p.v) = numForm p.v.toNat := by unfold tokForm; simp only; rw [if_neg (by omega)]
      have e2 : tokForm (.n (one p.g)) = numForm (one p.g).toNat := by unfold tokForm; simp only; rw [if_neg (by unfold one; split <;> decide)]
      have e3 : formsOf (itToks (p :: is)) = textForm p.e.data.toList ++ (numForm p.v.toNat ++ (numForm (one p.g).toNat ++ formsOf (itToks is))) := by
        show tokForm (.t p.e) ++ (tokForm (.n p.v) ++ (tokForm (.n (one p.g)) ++ formsOf (itToks is))) = _
        rw [e1, e2]; rfl
      rw [e3] at h
      simpa [List.append_assoc] using h
    by_cases hd : s.2 = 0
    · obtain ⟨h1, v1⟩ := st_txt h0 (by rw [size_bytes]; omega)
      obtain ⟨h2, v2⟩ := st_num (most := 1099511627776) h1 (by omega) (by omega)
      obtain ⟨h2', v2'⟩ := st_num (most := 1) h2 hg (by omega)
      obtain ⟨h3, v3⟩ := st_its is G _ (fun q hq => hs q (by simp [hq])) h2'
      have e : rdMany (rdI l) (p :: is).length s = ((rdI l s).1 :: (rdMany (rdI l) is.length (rdI l s).2).1, (rdMany (rdI l) is.length (rdI l s).2).2) := by
        show rdMany (rdI l) (is.length + 1) s = _
        rw [rdMany, if_neg (by simpa using hd)]
      rw [e]
      refine ⟨h3, fun hf => ?_⟩
      show (rdI l s).1 :: (rdMany (rdI l) is.length (rdN l 1 (rdN l 1099511627776 (rdT l s).2).2).2).1 = _
      rw [v3 hf]
      congr 1
      unfold rdI
      rw [v1 (h1.live hf), v2 (h2.live hf), v2' (h2'.live hf)]
      obtain ⟨pe, pv, pg⟩ := p
      simp only at hv1
      have e4 : ((pv.toNat : Nat) : Int) = pv := Int.toNat_of_nonneg hv1
      simp only [e4]
      cases pg <;> simp [one]
    · rw [many_dead hd]
      rcases h with ⟨h, hf⟩ | ⟨h, -⟩
      · exact ⟨.inl ⟨h, hf⟩, fun h => absurd h hf⟩
      · exact absurd h hd
theorem st_count {α : Type} {f : S2 → α × S2} {n : Nat} {G : List UInt8} {s : S2} (hn : n ≤ 256) (h : St l full (numForm n ++ G) s) :
    (∃ s', St l full G s' ∧ s'.2 = 0 ∧ rdList l f s = rdMany f n s') ∨ (¬ full ∧ (rdList l f s).2.2 = 2) := by
  obtain ⟨h1, v1⟩ := st_num (most := 1099511627776) h (by omega) (by omega)
  unfold rdList rdCount
  simp only
  by_cases hd : (rdN l 1099511627776 s).2.2 = 0
  · left
    rw [v1 hd, if_neg (by omega)]
    exact ⟨_, h1, hd, rfl⟩
  · right
    rcases h1 with ⟨h1, hf⟩ | ⟨h1, -⟩
    · refine ⟨hf, ?_⟩
      have : (if 256 < (rdN l 1099511627776 s).1 then ((rdN l 1099511627776 s).2.1, if (rdN l 1099511627776 s).2.2 = 0 then 4 else (rdN l 1099511627776 s).2.2) else (rdN l 1099511627776 s).2).2 = 2 := by
        split
        · simp only; first | exact h1 | (rw [if_neg hd]; exact h1)
        · exact h1
      rw [many_dead (by rw [this]; decide)]
      exact this
    · exact absurd h1 hd
theorem st_listP {ps : List LPr} {G : List UInt8} {s : S2} (hn : ps.length ≤ 256) (hs : ∀ p ∈ ps, p.k.size ≤ 1000000 ∧ p.v.size ≤ 1000000) (h : St l full (numForm ps.length ++ (formsOf (prToks ps) ++ G)) s) :
    St l full G (rdList l (rdP l) s).2 ∧ (full → (rdList l (rdP l) s).1 = ps) := by
  rcases st_count (f := rdP l) hn h with ⟨s', h1, -, e⟩ | ⟨hf, e⟩
  · rw [e]; exact st_prs ps G s' hs h1
  · exact ⟨.inl ⟨e, hf⟩, fun h => absurd h hf⟩
theorem st_listI {is : List LIt} {G : List UInt8} {s : S2} (hn : is.length ≤ 256) (hs : ∀ p ∈ is, p.e.size ≤ 1000000 ∧ okNum p.v) (h : St l full (numForm is.length ++ (formsOf (itToks is) ++ G)) s) :
    St l full G (rdList l (rdI l) s).2 ∧ (full → (rdList l (rdI l) s).1 = is) := by
  rcases st_count (f := rdI l) hn h with ⟨s', h1, -, e⟩ | ⟨hf, e⟩
  · rw [e]; exact st_its is G s' hs h1
  · exact ⟨.inl ⟨e, hf⟩, fun h => absurd h hf⟩
end
/-- a right letter's bytes -/
theorem forms_eq {L : Let} (h : L.inside) : formsOf L.toks = numForm L.kind.toNat ++ (numForm L.frm.toNat ++ (numForm L.to.toNat ++ (numForm L.a.toNat ++ (numForm L.b.toNat ++ (numForm L.c.toNat ++ (numForm L.d.toNat ++ (numForm L.code.toNat ++ (numForm (one L.yes).toNat ++ (textForm L.s.data.toList ++ (textForm L.t.data.toList ++ (textForm L.body.data.toList ++ (numForm L.ps.length ++ (formsOf (prToks L.ps) ++ (numForm L.is.length ++ (formsOf (itToks L.is) ++ []))))))))))))))) := by
  have hn : ∀ n ∈ L.nums, tokForm (.n n) = numForm n.toNat := fun n hn => by
    have := (h.2.1 n hn).1
    unfold tokForm; simp only; rw [if_neg (by omega)]
  have e0 : tokForm (.n (one L.yes)) = numForm (one L.yes).toNat := by unfold tokForm; simp only; rw [if_neg (by unfold one; split <;> decide)]
  have e1 : ∀ n : Nat, tokForm (.n (n : Int)) = numForm n := fun n => by unfold tokForm; simp only; rw [if_neg (by omega), Int.toNat_natCast]
  have b0 := hn L.kind (by simp [Let.nums])
  have b1 := hn L.frm (by simp [Let.nums])
  have b2 := hn L.to (by simp [Let.nums])
  have b3 := hn L.a (by simp [Let.nums])
  have b4 := hn L.b (by simp [Let.nums])
  have b5 := hn L.c (by simp [Let.nums])
  have b6 := hn L.d (by simp [Let.nums])
  have b7 := hn L.code (by simp [Let.nums])
  have e2 : ∀ s : ByteArray, tokForm (.t s) = textForm s.data.toList := fun _ => rfl
  unfold Let.toks Let.head
  rw [formsOf_app, formsOf_app, formsOf_app]
  simp only [formsOf, Let.nums, Let.txts, List.map_cons, List.map_nil, List.flatten_cons, List.flatten_nil, b0, b1, b2, b3, b4, b5, b6, b7, e0, e1, e2, List.append_assoc, List.append_nil]
set_option maxHeartbeats 3200000 in
theorem st_let {l : List UInt8} {full : Prop} {L : Let} {s : S2} (hL : L.err = 0) (h : St l full (formsOf L.toks) s) : St l full [] (rdLet l s).2 ∧ (full → (rdLet l s).1 = L) := by
  obtain ⟨hin, hp, hi, hb⟩ := err_zero.1 hL
  obtain ⟨st, sp, si⟩ := let_small hb
  rw [forms_eq hin] at h
  have hn : ∀ n ∈ L.nums, 0 ≤ n ∧ n ≤ 1099511627776 := hin.2.1
  have b0 := hn L.kind (by simp [Let.nums])
  have b0' := hin.1
  have b1 := hn L.frm (by simp [Let.nums])
  have b2 := hn L.to (by simp [Let.nums])
  have b3 := hn L.a (by simp [Let.nums])
  have b4 := hn L.b (by simp [Let.nums])
  have b5 := hn L.c (by simp [Let.nums])
  have b6 := hn L.d (by simp [Let.nums])
  have b7 := hn L.code (by simp [Let.nums])
  have t0 := st L.s (by simp [Let.txts])
  have t1 := st L.t (by simp [Let.txts])
  have t2 := st L.body (by simp [Let.txts])
  have hy : (one L.yes).toNat ≤ 1 := by unfold one; split <;> decide
  have big : ∀ n : Nat, n ≤ 1099511627776 → n < 9223372036854775808 := fun n h => Nat.lt_of_le_of_lt h (by decide)
  have c0 : L.kind.toNat ≤ 255 := Int.toNat_le.2 b0'
  have c1 : L.frm.toNat ≤ 1099511627776 := Int.toNat_le.2 b1.2
  have c2 : L.to.toNat ≤ 1099511627776 := Int.toNat_le.2 b2.2
  have c3 : L.a.toNat ≤ 1099511627776 := Int.toNat_le.2 b3.2
  have c4 : L.b.toNat ≤ 1099511627776 := Int.toNat_le.2 b4.2
  have c5 : L.c.toNat ≤ 1099511627776 := Int.toNat_le.2 b5.2
  have c6 : L.d.toNat ≤ 1099511627776 := Int.toNat_le.2 b6.2
  have c7 : L.code.toNat ≤ 1099511627776 := Int.toNat_le.2 b7.2
  have u0 : L.s.data.toList.length < 9223372036854775807 := by rw [size_bytes]; exact Nat.lt_of_le_of_lt t0 (by decide)
  have u1 : L.t.data.toList.length < 9223372036854775807 := by rw [size_bytes]; exact Nat.lt_of_le_of_lt t1 (by decide)
  have u2 : L.body.data.toList.length < 9223372036854775807 := by rw [size_bytes]; exact Nat.lt_of_le_of_lt t2 (by decide)
  have v0 := Lib.hid (st_num (most := 255) h c0 (Nat.lt_of_le_of_lt c0 (by decide)))
  have h0 := v0.out.1
  have v1 := Lib.hid (st_num (most := 1099511627776) h0 c1 (big _ c1))
  have h1 := v1.out.1
  have v2 := Lib.hid (st_num (most := 1099511627776) h1 c2 (big _ c2))
  have h2 := v2.out.1
  have v3 := Lib.hid (st_num (most := 1099511627776) h2 c3 (big _ c3))
  have h3 := v3.out.1
  have v4 := Lib.hid (st_num (most := 1099511627776) h3 c4 (big _ c4))
  have h4 := v4.out.1
  have v5 := Lib.hid (st_num (most := 1099511627776) h4 c5 (big _ c5))
  have h5 := v5.out.1
  have v6 := Lib.hid (st_num (most := 1099511627776) h5 c6 (big _ c6))
  have h6 := v6.out.1
  have v7 := Lib.hid (st_num (most := 1099511627776) h6 c7 (big _ c7))
  have h7 := v7.out.1
  have v8 := Lib.hid (st_num (most := 1) h7 hy (Nat.lt_of_le_of_lt hy (by decide)))
  have h8 := v8.out.1
  have v9 := Lib.hid (st_txt h8 u0)
  have h9 := v9.out.1
  have v10 := Lib.hid (st_txt h9 u1)
  have h10 := v10.out.1
  have v11 := Lib.hid (st_txt h10 u2)
  have h11 := v11.out.1
  have v12 := Lib.hid (st_listP hp sp h11)
  have h12 := v12.out.1
  have v13 := Lib.hid (st_listI hi (fun p hp => ⟨si p hp, hin.2.2 p hp⟩) h12)
  have h13 := v13.out.1
  have z0 : ∀ (s : S2) (i j : Nat), i < j → vvN l s i j = ((rdN l 1099511627776 (stN l s i)).1 : Int) := fun s i j h => if_pos h
  have z1 : ∀ (s : S2) (i j : Nat), i < j → ttN l s i j = ⟨(rdT l (stT l s i)).1.toArray⟩ := fun s i j h => if_pos h
  unfold rdLet
  simp only [z0 _ 0 6 (by decide), z0 _ 1 6 (by decide), z0 _ 2 6 (by decide), z0 _ 3 6 (by decide), z0 _ 4 6 (by decide), z0 _ 5 6 (by decide), z1 _ 0 3 (by decide), z1 _ 1 3 (by decide), z1 _ 2 3 (by decide), stN, stT]
  refine ⟨h13, fun hf => ?_⟩
  have w0 := Lib.hid (v0.out.2 (h0.live hf))
  have w1 := Lib.hid (v1.out.2 (h1.live hf))
  have w2 := Lib.hid (v2.out.2 (h2.live hf))
  have w3 := Lib.hid (v3.out.2 (h3.live hf))
  have w4 := Lib.hid (v4.out.2 (h4.live hf))
  have w5 := Lib.hid (v5.out.2 (h5.live hf))
  have w6 := Lib.hid (v6.out.2 (h6.live hf))
  have w7 := Lib.hid (v7.out.2 (h7.live hf))
  have w8 := Lib.hid (v8.out.2 (h8.live hf))
  have w9 := Lib.hid (v9.out.2 (h9.live hf))
  have w10 := Lib.hid (v10.out.2 (h10.live hf))
  have w11 := Lib.hid (v11.out.2 (h11.live hf))
  have w12 := Lib.hid (v12.out.2 hf)
  have w13 := Lib.hid (v13.out.2 hf)
  obtain ⟨kd, fr, to', a, b, c, d, ss, tt, ps, is, cd, ys, bd⟩ := L
  simp only at b0 b0' b1 b2 b3 b4 b5 b6 b7 t0 t1 t2
  have q8 : decide ((one ys).toNat = 1) = ys := by cases ys <;> rfl
  simp only [w0.out, w1.out, w2.out, w3.out, w4.out, w5.out, w6.out, w7.out, w8.out, w9.out, w10.out, w11.out, w12.out, w13.out, q8]
  rw [Int.toNat_of_nonneg b0.1, Int.toNat_of_nonneg b1.1, Int.toNat_of_nonneg b2.1, Int.toNat_of_nonneg b3.1, Int.toNat_of_nonneg b4.1, Int.toNat_of_nonneg b5.1, Int.toNat_of_nonneg b6.1, Int.toNat_of_nonneg b7.1]
theorem letU_pack {L : Let} (hL : L.err = 0) : letU (formsOf L.toks) = (L, 0) := by
  have hb := (err_zero.1 hL).2.2.2
  obtain ⟨h, v⟩ := st_let (l := formsOf L.toks) (full := True) (s := (0, 0)) hL (.inr ⟨rfl, Nat.zero_le _, _, Nat.le_refl _, by simp, by simp⟩)
  have e1 := h.all trivial
  have e2 := h.live trivial
  unfold letU
  have e3 : endS (formsOf L.toks) (rdLet (formsOf L.toks) (0, 0)).2 = (rdLet (formsOf L.toks) (0, 0)).2 := by unfold endS; rw [if_neg (by omega)]
  rw [if_neg (by omega), e3, e2, if_neg (by simp), v trivial]
theorem letU_cut {L : Let} (hL : L.err = 0) {i : Nat} (hi : i < (formsOf L.toks).length) : (letU ((formsOf L.toks).take i)).2 = 2 := by
  have hb := (err_zero.1 hL).2.2.2
  obtain ⟨h, -⟩ := st_let (l := (formsOf L.toks).take i) (full := False) (s := (0, 0)) hL (.inr ⟨rfl, Nat.zero_le _, i, Nat.le_of_lt hi, by simp, by simp; omega⟩)
  have e2 := h.fin (by simp)
  unfold letU
  have e3 : (endS ((formsOf L.toks).take i) (rdLet ((formsOf L.toks).take i) (0, 0)).2).2 = 2 := by
    unfold endS
    split
    · simp only; rw [e2]; rfl
    · exact e2
  rw [if_neg (by simp; omega), e3, if_pos (by decide)]
theorem forms_inj {L M : Let} (hL : L.err = 0) (hM : M.err = 0) : formsOf L.toks = formsOf M.toks ↔ L = M :=
  ⟨fun h => by have := letU_pack hL; rw [h, letU_pack hM] at this; simpa using (congrArg Prod.fst this).symm, fun h => by rw [h]⟩
end Go.Proofs.Ytabcoidjbigdbaa
