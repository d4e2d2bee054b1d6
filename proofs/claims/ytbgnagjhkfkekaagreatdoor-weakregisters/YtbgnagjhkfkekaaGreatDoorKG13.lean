/-
  done, Ints.
-/
import Derived.Test.YtbgnagjhkfkekaaGreatDoorKG12
set_option linter.unusedVariables false
set_option maxRecDepth 20000
namespace Go.Proofs.YtbgnagjhkfkekaaGreatDoor.Kg
open Go.RowKit

/-- The book between two calls; T: how many lists have come at most. -/
structure Bok (w : World) (base b : Nat) (f : Nat → Value) (xs : Nat → List Value) (K : List Nat) (ms ds : List Int) (turn : Int) (seen T : Nat) (deep : Int) : Prop where
  iv : Iv w base b f xs K
  pr : Prs w K (xs 13) (xs 14)
  wt : Wts w base K (xs 15) (xs 16) ms
  e18 : xs 18 = ints ms
  e19 : xs 19 = ints ds
  l19 : ds.length = (xs 15).length
  e17 : xs 17 = []
  e20 : xs 20 = []
  dst : Dst (xs 15) (xs 13 ++ xs 14 ++ xs 16)
  ns : Nils f
  f0 : f 0 = .bool false
  f1 : f 1 = .bool false
  f2 : f 2 = .int .i64 turn
  f3 : f 3 = .int .i64 deep
  f21 : f 21 = .int .i64 seen
  t0 : 0 ≤ turn
  t1 : turn ≤ T
  s1 : seen ≤ T
  len : (xs 13).length + 2 * (xs 15).length ≤ 2 * T

theorem Bok.st {w : World} {base b : Nat} {f : Nat → Value} {xs : Nat → List Value} {K : List Nat} {ms ds : List Int} {turn : Int} {seen T : Nat} {deep : Int} (h : Bok w base b f xs K ms ds turn seen T deep) : St w base b f xs K ms [] :=
  ⟨h.iv, h.pr, h.wt, by rw [h.e17]; exact Frs.nil_ _ _ _, h.ns⟩

/-- What is laid on besides lies apart from what waits. -/
theorem dst_grown {w1 : World} {base b : Nat} {f1 : Nat → Value} {xs1 xs2 : Nat → List Value} {K1 : List Nat} {ms : List Int} (hI : Iv w1 base b f1 xs1 K1) (hW : Wts w1 base K1 (xs1 15) (xs1 16) ms) (hD : Dst (xs1 15) (xs1 13 ++ xs1 14 ++ xs1 16 ++ xs1 17)) (x15 : xs2 15 = xs1 15) (x16 : xs2 16 = xs1 16)
    (hN : ∀ v, v ∈ xs2 13 ++ xs2 14 → v ∈ xs1 13 ++ xs1 14 ∨ (∃ q, v.ownBlock = some q ∧ w1.heap.size ≤ q) ∨ ∃ x, x ∈ xs1 17 ∧ v.ownBlock = x.ownBlock) : Dst (xs2 15) (xs2 13 ++ xs2 14 ++ xs2 16) := by
  rw [x15, x16]
  refine ⟨hD.one, fun v hv u hu => ?_⟩
  rcases List.mem_append.1 hu with hu | hu
  · rcases hN u hu with h1 | ⟨q, e1, e2⟩ | ⟨x, h1, e1⟩
    · exact hD.two v hv u (List.mem_append_left _ (List.mem_append_left _ h1))
    · intro g hg e
      rw [e1] at e; simp at e; subst e
      have := (hI.kin _ (hW.inA hv _ hg)).2
      omega
    · intro g hg e
      rw [e1] at e
      exact hD.two v hv x (by simp [h1]) g hg e
  · exact hD.two v hv u (by simp [hu])

set_option maxHeartbeats 8000000 in
theorem done_any {w : World} {base b : Nat} {f : Nat → Value} {xs : Nat → List Value} {K : List Nat} {ms ds : List Int} {turn : Int} {seen T : Nat} (h : Bok w base b f xs K ms ds turn seen T 1) (hT : T < 1100000000) (hne : xs 15 ≠ []) (hbase : base ≤ w.heap.size) :
    Calls Tryz.prog 37 #[.pointer (some ⟨b, 0, none⟩)] w fun e w' => e = .returned (.tuple #[]) ∧ ∃ f' xs' K' ms' ds', Bok w' base b f' xs' K' ms' ds' (turn + 1) seen (T + 1) 0 ∧ Ey w w' b f f' K K' := by
  have c3 := h.iv.bk.cell 3
  rw [h.f3] at c3
  have z3 := h.iv.bk.frozen 3
  have V1 := h.iv.field 3 (.int .i64 0) (by omega) (by omega)
  have E1 := h.iv.fieldEx 3 (.int .i64 0) (by omega)
  have d3 := V1.bk.cell 3
  rw [put_same] at d3
  have q := marks_any V1 (h.ns.same (fun j hj => put_ne _ _ (by omega))) (E1.prs h.iv h.pr) (E1.wts h.iv h.wt) h.e18 h.e19 h.l19 h.e17 h.e20 h.dst (by rw [put_ne _ _ (by decide)]; exact h.f0) (by rw [put_ne _ _ (by decide)]; exact h.f1) (turn := turn) (by rw [put_ne _ _ (by decide)]; exact h.f2) hne (by have := h.len; omega)
  have HH : Hid (Bok w base b f xs K ms ds turn seen T 1) := h
  have HE1 : Hid (Ex w (w.setCell ⟨b, 3, none⟩ (.int .i64 0)) b f (put f 3 (.int .i64 0)) K K) := E1
  have HB : Hid (base ≤ w.heap.size) := hbase
  have HV1 : Hid (Iv (w.setCell ⟨b, 3, none⟩ (.int .i64 0)) base b (put f 3 (.int .i64 0)) xs K) := V1
  have ht0 := h.t0
  have ht1 := h.t1
  clear h V1 E1 hbase
  go_enter Tryz.func37, Tryz.ntmps37
  go_wp2_with fail
  refine q.mono ?_
  rintro e w1 ⟨rfl, f1, xs1, K1, ms1, ds1, fm, hI, hP, hW, e18, e19, l19, hF, e20, hD, hFs, hfx, hE, n1, n2⟩
  have hns1 : Nils f1 := HH.out.ns.same (fun j hj => by rw [hfx j (by omega), put_ne _ _ (by omega)])
  have hlen := HH.out.len
  have hb1 : base ≤ w1.heap.size := by obtain ⟨G, t1, _⟩ := hE.t; obtain ⟨G2, t2, _⟩ := HE1.out.t; have := t1.size; have := t2.size; have := HB.out; omega
  have q2 := grows_any (ms := ms1) ⟨hI, hP, hW, hF, hns1⟩ hb1 hD hFs e20 (by omega)
  have HFk : Hid (∀ x, x ∈ xs1 17 → ∀ g, x.ownBlock = some g → g ∈ K1) := fun x hx => hF.inK hx
  have HS1 : Hid (xs1 18 = ints ms1 ∧ xs1 19 = ints ds1 ∧ ds1.length = (xs1 15).length ∧ Dst (xs1 15) (xs1 13 ++ xs1 14 ++ xs1 16 ++ xs1 17) ∧ (∀ j, j < 13 ∨ 20 < j → f1 j = put f 3 (.int .i64 0) j) ∧ (xs1 15).length + (xs1 17).length = (xs 15).length ∧ (xs1 13).length = (xs 13).length + (xs1 17).length) := ⟨e18, e19, l19, hD, hfx, n1, n2⟩
  have HEy : Hid (Ey w w1 b f f1 K K1) := HE1.out.ey.trans hE
  have HI1 : Hid (Iv w1 base b f1 xs1 K1) := hI
  have HW1 : Hid (Wts w1 base K1 (xs1 15) (xs1 16) ms1) := hW
  have HP1 : Hid (Prs w1 K1 (xs1 13) (xs1 14)) := hP
  clear q hI hP hW e18 e19 l19 hF e20 hD hFs hfx hE n1 n2 hns1 c3 z3 d3 hlen hb1 HE1 HV1
  go_wp2_with fail
  refine q2.mono ?_
  rintro e w2 ⟨rfl, f2, xs2, K2, hI, hP, hW, hN, hE, l13, l17, l20, hS, hNw⟩
  have c2 := hI.bk.cell 2
  have z2 := hI.bk.frozen 2
  have ff : ∀ j, j < 13 ∨ 20 < j → f2 j = put f 3 (.int .i64 0) j := fun j hj => ((hS j (by omega) (by omega) (by omega) (by omega)).1).trans (HS1.out.2.2.2.2.1 j hj)
  rw [ff 2 (by omega), put_ne _ _ (by decide), HH.out.f2] at c2
  have V2 := hI.field 2 (.int .i64 (turn + 1)) (by omega) (by omega)
  have E2 := hI.fieldEx 2 (.int .i64 (turn + 1)) (by omega)
  have x15 := (hS 15 (by decide) (by decide) (by decide) (by decide)).2
  have x16 := (hS 16 (by decide) (by decide) (by decide) (by decide)).2
  have x18 := (hS 18 (by decide) (by decide) (by decide) (by decide)).2
  have x19 := (hS 19 (by decide) (by decide) (by decide) (by decide)).2
  have hdst : Dst (xs2 15) (xs2 13 ++ xs2 14 ++ xs2 16) := dst_grown HI1.out HW1.out HS1.out.2.2.2.1 x15 x16 hNw
  have hB : Bok (w2.setCell ⟨b, 2, none⟩ (.int .i64 (turn + 1))) base b (put f2 2 (.int .i64 (turn + 1))) xs2 K2 ms1 ds1 (turn + 1) seen (T + 1) 0 := by
    refine ⟨V2, E2.prs hI hP, E2.wts hI hW, by rw [x18]; exact HS1.out.1, by rw [x19]; exact HS1.out.2.1, by rw [x15]; exact HS1.out.2.2.1, l17, l20, hdst, hN.same (fun j hj => put_ne _ _ (by omega)), ?_, ?_, put_same _ _ _, ?_, ?_, by omega, by omega, by have := HH.out.s1; omega, ?_⟩
    · rw [put_ne _ _ (by decide), ff 0 (by omega), put_ne _ _ (by decide)]; exact HH.out.f0
    · rw [put_ne _ _ (by decide), ff 1 (by omega), put_ne _ _ (by decide)]; exact HH.out.f1
    · rw [put_ne _ _ (by decide), ff 3 (by omega), put_same]
    · rw [put_ne _ _ (by decide), ff 21 (by omega), put_ne _ _ (by decide)]; exact HH.out.f21
    · have := HH.out.len
      have := HS1.out.2.2.2.2.2
      rw [x15]
      omega
  have HBk : Hid (Bok (w2.setCell ⟨b, 2, none⟩ (.int .i64 (turn + 1))) base b (put f2 2 (.int .i64 (turn + 1))) xs2 K2 ms1 ds1 (turn + 1) seen (T + 1) 0) := hB
  have HEz : Hid (Ey w (w2.setCell ⟨b, 2, none⟩ (.int .i64 (turn + 1))) b f (put f2 2 (.int .i64 (turn + 1))) K K2) := HEy.out.trans ((hE.ey HFk.out).trans E2.ey)
  clear q2 hI hP hW hN hE l13 l17 l20 hS hNw ff V2 E2 x15 x16 x18 x19 hdst hB
  go_wp2
  go_end0
  exact ⟨rfl, _, _, _, _, _, HBk.out, HEz.out⟩

theorem Ex.row {w w' : World} {base b bs : Nat} {f f' : Nat → Value} {xs : Nat → List Value} {K K' : List Nat} (h : Ex w w' b f f' K K') (hi : Iv w base b f xs K) {v : Value} {l : List Int} (hg : ∀ g, v.ownBlock = some g → g ∈ K) (hl : Row w bs v l) : Row w' bs v l := by
  obtain ⟨G, h1, h2⟩ := h.t
  exact row_keep2 hl h1 (fun k hk hm => hi.ownK (h2 k hm) (hg k hk))

theorem Prs.inK {w : World} {K : List Nat} {A B : List Value} (h : Prs w K A B) : ∀ v, v ∈ A ++ B → ∀ q, v.ownBlock = some q → q ∈ K := by
  intro v hv
  rcases List.mem_append.1 hv with hv | hv
  · obtain ⟨i, hi⟩ := List.getElem?_of_mem hv
    obtain ⟨u, l, h1, h2, h3, h4⟩ := h.at_ i v hi
    exact h2.inK
  · obtain ⟨i, hi⟩ := List.getElem?_of_mem hv
    have hlt := (List.getElem?_eq_some_iff.1 hi).1
    obtain ⟨v2, hv2⟩ : ∃ v2, A[i]? = some v2 := ⟨_, List.getElem?_eq_getElem (by have := h.len; omega)⟩
    obtain ⟨u, l, h1, h2, h3, h4⟩ := h.at_ i v2 hv2
    rw [hi] at h1; simp at h1; subst h1
    exact h3.inK

/-- One more that waits lies apart from all others. -/
theorem dst_come {w : World} {base b : Nat} {f : Nat → Value} {xs : Nat → List Value} {K : List Nat} {ms : List Int} (hP : Prs w K (xs 13) (xs 14)) (hW : Wts w base K (xs 15) (xs 16) ms) (hI : Iv w base b f xs K) (hD : Dst (xs 15) (xs 13 ++ xs 14 ++ xs 16)) {kk : Nat} {u v : Value} (hg : ∀ g, v.ownBlock = some g → g ∉ K ∧ g < w.heap.size) (hu : u.ownBlock = some kk) (hk : w.heap.size ≤ kk) :
    Dst (xs 15 ++ [v]) (xs 13 ++ xs 14 ++ (xs 16 ++ [u])) := by
  refine ⟨?_, fun y hy x hx => ?_⟩
  · rw [List.pairwise_append]
    refine ⟨hD.one, by simp, fun a ha c hc => ?_⟩
    simp at hc; subst hc
    exact fun g h1 h2 => (hg g h2).1 (hW.inA ha g h1)
  · rcases List.mem_append.1 hy with hy | hy
    · have hx2 : x ∈ xs 13 ++ xs 14 ++ xs 16 ∨ x = u := by
        simp only [List.mem_append, List.mem_cons, List.not_mem_nil, or_false] at hx ⊢
        rcases hx with (hx | hx) | hx | hx <;> simp [hx]
      rcases hx2 with hx2 | rfl
      · exact hD.two y hy x hx2
      · intro g h1 h2
        rw [hu] at h2; simp at h2; subst h2
        have := (hI.kin _ (hW.inA hy _ h1)).2
        omega
    · simp at hy
      subst hy
      intro g h1 h2
      have hx2 : g ∈ K ∨ x = u := by
        rcases List.mem_append.1 hx with hx | hx
        · exact .inl (hP.inK x hx g h2)
        · rcases List.mem_append.1 hx with hx | hx
          · exact .inl (hW.inN hx g h2)
          · exact .inr (by simpa using hx)
      rcases hx2 with h3 | rfl
      · exact (hg g h1).1 h3
      · rw [hu] at h2; simp at h2; subst h2
        have := (hg _ h1).2
        omega

/-- The blocks that are kept, with a slice's own. -/
theorem Iv.moreV {w : World} {base b : Nat} {f : Nat → Value} {xs : Nat → List Value} {K : List Nat} (h : Iv w base b f xs K) {v : Value} (hv : ∀ g, v.ownBlock = some g → base ≤ g ∧ g < w.heap.size ∧ ¬ Own b f g) : Iv w base b f xs (v.ownBlock.toList ++ K) := by
  cases e : v.ownBlock with
  | none => simpa using h
  | some g =>
    obtain ⟨h1, h2, h3⟩ := hv g e
    simpa using h.more h1 h2 h3

set_option maxHeartbeats 16000000 in
theorem ints_any {w : World} {base b : Nat} {f : Nat → Value} {xs : Nat → List Value} {K : List Nat} {ms ds : List Int} {turn : Int} {seen T : Nat} (h : Bok w base b f xs K ms ds turn seen T 0) (hT : T < 1000000000) (hbase : base ≤ w.heap.size) (v : Value) (l : List Int) (hl : Row w base v l) (l16 : l.length ≤ 10000000000000) (hgo : ∀ g, v.ownBlock = some g → ¬ Own b f g ∧ g ∉ K) (mark : Int) (m0 : 0 ≤ mark) (m1 : mark ≤ 1000000000000000) :
    Calls Tryz.prog 13 #[.pointer (some ⟨b, 0, none⟩), v, .int .i64 mark] w fun e w' => e = .returned (.tuple #[]) ∧ ∃ f' xs' K' ms' ds', Bok w' base b f' xs' K' ms' ds' (turn + 1) (seen + 1) (T + 2) 0 ∧ Ey w w' b f f' (v.ownBlock.toList ++ K) K' := by
  obtain ⟨i0, i1, hI⟩ := inf_ex
  have HI : Hid (Inf i0 i1) := hI
  have c3 := h.iv.bk.cell 3
  rw [h.f3] at c3
  have z3 := h.iv.bk.frozen 3
  have hlt : ∀ g, v.ownBlock = some g → base ≤ g ∧ g < w.heap.size := fun g hg => hl.lt g hg
  have V0 : Iv w base b f xs (v.ownBlock.toList ++ K) := h.iv.moreV (fun g hg => ⟨(hlt g hg).1, (hlt g hg).2, (hgo g hg).1⟩)
  obtain ⟨KV, hKV⟩ : ∃ x, x = v.ownBlock.toList ++ K := ⟨_, rfl⟩
  have HKV : Hid (KV = v.ownBlock.toList ++ K) := hKV
  have HvK : Hid (∀ g, v.ownBlock = some g → g ∈ KV) := fun g hg => by rw [hKV]; simp [hg]
  have HKs : Hid (∀ k, k ∈ K → k ∈ KV) := fun k hk => by rw [hKV]; simp [hk]
  rw [← hKV] at V0
  have V1 := V0.field 3 (.int .i64 1) (by omega) (by omega)
  have E1 : Ex w (w.setCell ⟨b, 3, none⟩ (.int .i64 1)) b f (put f 3 (.int .i64 1)) KV KV := V0.fieldEx 3 (.int .i64 1) (by omega)
  have HH : Hid (Bok w base b f xs K ms ds turn seen T 0) := h
  have HV1 : Hid (Iv (w.setCell ⟨b, 3, none⟩ (.int .i64 1)) base b (put f 3 (.int .i64 1)) xs KV) := V1
  have HE1 : Hid (Ex w (w.setCell ⟨b, 3, none⟩ (.int .i64 1)) b f (put f 3 (.int .i64 1)) KV KV) := E1
  have Hl1 : Hid (Row (w.setCell ⟨b, 3, none⟩ (.int .i64 1)) base v l) := E1.row V0 HvK.out hl
  have HW1 : Hid (Wts (w.setCell ⟨b, 3, none⟩ (.int .i64 1)) base KV (xs 15) (xs 16) ms) := E1.wts V0 (h.wt.keep (Touch.refl [] w) HKs.out (fun _ _ _ _ h => by cases h) (fun _ _ _ _ h => by cases h))
  have HP1 : Hid (Prs (w.setCell ⟨b, 3, none⟩ (.int .i64 1)) KV (xs 13) (xs 14)) := E1.prs V0 ⟨h.pr.len, fun i v hv => by
    obtain ⟨u, l, h1, h2, h3, h4⟩ := h.pr.at_ i v hv
    exact ⟨u, l, h1, h2.wide HKs.out, h3.wide HKs.out, h4⟩⟩
  have Hg : Hid ((∀ g, v.ownBlock = some g → g ∉ K ∧ g < w.heap.size) ∧ base ≤ w.heap.size) := ⟨fun g hg => ⟨(hgo g hg).2, (hlt g hg).2⟩, hbase⟩
  obtain ⟨va, vc0, hve⟩ := row_sl hl
  have Hln : Hid ((xs 13).length ≤ 2 * T ∧ (xs 15).length ≤ T ∧ (xs 16).length ≤ T ∧ (xs 18).length ≤ T ∧ (xs 19).length ≤ T) := by
    have q1 := h.len
    have q2 := h.wt.l1
    have q3 := h.wt.l2
    have q4 := h.l19
    have e18 : (xs 18).length = ms.length := by rw [h.e18]; simp [ints]
    have e19 : (xs 19).length = ds.length := by rw [h.e19]; simp [ints]
    exact (by omega : (xs 13).length ≤ 2 * T ∧ (xs 15).length ≤ T ∧ (xs 16).length ≤ T ∧ (xs 18).length ≤ T ∧ (xs 19).length ≤ T)
  clear h hl V0 V1 E1 hgo hbase hI hlt hKV
  subst hve
  go_enter Tryz.func13, Tryz.ntmps13
  go_upto_region 1 with fail
  clear c3 z3
  generalize (w.setCell ⟨b, 3, none⟩ (.int .i64 1)) = wy at HV1 HE1 Hl1 HW1 HP1 ⊢
  obtain ⟨fz, hfz⟩ : ∃ x, x = put f 3 (.int .i64 1) := ⟨_, rfl⟩
  rw [← hfz] at HV1 HE1
  have Hfz : Hid (fz = put f 3 (.int .i64 1)) := hfz
  clear hfz
  go_cut [] from 6 to 22 (fun wc => ∃ v', Iv wc base b (put (fz) 15 v') (putl (xs) 15 ((xs) 15 ++ [.slice va l.length vc0])) KV ∧ Ex wy wc b (fz) (put (fz) 15 v') KV KV)
  case first =>
    obtain ⟨aj, pj, ej⟩ := row_sl (HV1.out.own 15 (by decide) (by decide))
    have cj := HV1.out.bk.cell 15
    rw [ej] at cj
    have hrow := HV1.out.own 15 (by decide) (by decide)
    rw [ej] at hrow
    have Ej : Hid ((fz) 15 = .slice aj ((xs) 15).length pj) := ej
    have Hrow : Hid (wy.ownsRow base 27 1 (.slice aj ((xs) 15).length pj) ((xs) 15).length ((xs) 15)) := hrow
    have hnj : ((xs) 15).length < 4000000000 := by have := Hln.out; omega
    clear ej hrow 
    go_wp2_with (at_builtin; refine wpList_append_own_at _ rfl _ _ 40 rfl base 27 i1 (.slice none 0 0) 1 24 Tryz.underlying40 HI.out.b0 HI.out.b1 HI.out.b2 HI.out.b3 rfl (by decide) _ _ _ rfl (Hrow.out.alloc _) ⟨wy.heap.size, 0, none⟩ 1 1 [.slice va l.length vc0] rfl rfl (cell_one_new _ _ _) (by simp [Value.oneCell']) (by simp [maxLen]; omega) (by omega) (by have := HV1.out.lo; have := HV1.out.bk.lt; simp; omega) ?_)
    intro v' w1 hown' hgrow _ hat
    have hbk1 := grow_bk hgrow HV1.out.bk (by rw [← Ej.out]; exact HV1.out.rb 15 (by decide) (by decide))
    have dj := hbk1.cell 15
    rw [Ej.out] at dj
    have fj := hbk1.frozen 15
    have hres := Iv.appEx HV1.out 15 (by decide) (by decide) (.slice va l.length vc0) v' hown' (by rw [Ej.out]; exact (Touch.alloc _ _ _).trans (Touch.grown hgrow (fun k hk => by simp [hk]))) (by rw [Ej.out]; rcases hat with h | h; exact .inl h; exact .inr ⟨_, h, by simp⟩)
    have HR : Hid (Iv (w1.setCell ⟨b, 15, none⟩ v') base b (put (fz) 15 v') (putl (xs) 15 ((xs) 15 ++ [.slice va l.length vc0])) KV ∧ Ex wy (w1.setCell ⟨b, 15, none⟩ v') b (fz) (put (fz) 15 v') KV KV) := hres
    obtain ⟨gq, cq, rfl⟩ := row_sl hown'
    clear hown' hgrow hat hbk1 hres cj
    go_wp2_with fail
    go_meet
    exact ⟨_, HR.out⟩
  case rest =>
  obtain ⟨v15, hVa, hEa⟩ := hcut
  obtain ⟨wa, hwa⟩ : ∃ x, x = wc := ⟨_, rfl⟩
  subst hwa
  obtain ⟨fa, hfa⟩ : ∃ x, x = put fz 15 v15 := ⟨_, rfl⟩
  obtain ⟨xa, hxa⟩ : ∃ x, x = putl xs 15 (xs 15 ++ [.slice va l.length vc0]) := ⟨_, rfl⟩
  rw [← hfa] at hVa hEa
  rw [← hxa] at hVa
  have HVa : Hid (Iv wa base b fa xa KV) := hVa
  have HEa : Hid (Ex wy wa b fz fa KV KV) := hEa
  have Hfa : Hid (fa = put fz 15 v15) := hfa
  have Hxa : Hid (xa = putl xs 15 (xs 15 ++ [.slice va l.length vc0])) := hxa
  clear hVa hEa hfa hxa
  have HRa : Hid (Rd wa KV (.slice va l.length vc0) (ints l)) := HEa.out.rd HV1.out (Rd.row Hl1.out HvK.out)
  go_upto_region 2 with fail
  go_cut [] from 23 to 34 (fun wc => ∃ v' u kk, Iv wc base b (put (fa) 16 v') (putl (xa) 16 ((xa) 16 ++ [u])) (kk :: KV) ∧ Ex wa wc b (fa) (put (fa) 16 v') KV (kk :: KV) ∧ u.ownBlock = some kk ∧ wa.heap.size ≤ kk ∧ Rd wc (kk :: KV) u (ints (l)))
  case first =>
    obtain ⟨aj, pj, ej⟩ := row_sl (HVa.out.own 16 (by decide) (by decide))
    have cj := HVa.out.bk.cell 16
    rw [ej] at cj
    have cja : (wa.alloc (.cells #[] 3)).cell? ⟨b, 16, none⟩ = some (.slice aj ((xa) 16).length pj) := Lib.cell?_alloc_some _ cj
    have hrow := HVa.out.own 16 (by decide) (by decide)
    rw [ej] at hrow
    have Ej : Hid ((fa) 16 = .slice aj ((xa) 16).length pj) := ej
    have Hrow : Hid (wa.ownsRow base 27 1 (.slice aj ((xa) 16).length pj) ((xa) 16).length ((xa) 16)) := hrow
    have hnj : ((xa) 16).length < 4000000000 := by rw [Hxa.out, putl_ne _ _ (by decide)]; have := Hln.out; omega
    have hln : (l.length) ≤ 10000000000000 := by omega
    have Hln : Hid ((ints (l)).length = (l.length)) := (by simp [ints] : (ints l).length = l.length)
    have Hb : Hid (b < wa.heap.size ∧ base ≤ wa.heap.size) := ⟨HVa.out.bk.lt, by have := HVa.out.lo; have := HVa.out.bk.lt; omega⟩
    have Hsrc : Hid (∀ (i : Nat) x, (ints (l))[i]? = some x → ∃ g, va = some ⟨g, 0, none⟩ ∧ wa.cell? ⟨g, i, none⟩ = some x) := by (
      obtain ⟨g9, c9, e9, _, h9⟩ := HRa.out
      simp only [Value.slice.injEq] at e9
      rw [e9.1]
      exact h9)
    clear ej hrow 
    go_region_law (first
      | (refine step_append_row rfl (.tmp 28) (.tmp 29) 27 rfl wa.heap.size 3 i0 (.int .i64 0) 8 Tryz.underlying27 HI.out.a0 HI.out.a1 HI.out.a2 HI.out.a3 rfl (.slice (some ⟨wa.heap.size, 0, none⟩) 0 0) 0 [] rfl (World.ownsRow_lit wa.drew #[] 0 (Nat.le_refl _) (by simp [maxLen]) rfl) va (l.length) vc0 (ints (l)) Hln.out.symm rfl (fun i x hi => by obtain ⟨g9, e9, c9⟩ := Hsrc.out i x hi; exact ⟨⟨g9, 0, none⟩, e9, by rw [Addr.add_mid, Nat.zero_add]; exact Lib.cell?_alloc_some _ c9⟩) (ints_one _) (by simp [maxLen]; omega) (by omega) (by simp) ?_
         intro u w1 ho1 hg1 hnil1 hat1
         have hg1' : (wa.drew.alloc (.cells #[] 3)).grownBy w1 (some wa.heap.size) := hg1
         have hbk1 := grow_bk hg1' (show Bk wa.drew b (fa) from HVa.out.bk) (by simp; have := Hb.out.1; omega)
         have dj := hbk1.cell 16
         rw [Ej.out] at dj
         have dja : (w1.alloc (.cells #[u] 27)).cell? ⟨b, 16, none⟩ = some (.slice aj ((xa) 16).length pj) := Lib.cell?_alloc_some _ dj
         have ht1 : Touch [] wa w1 := ((Touch.drew _ wa).trans (Touch.alloc _ _ _)).then (Touch.grown hg1' (F := [wa.heap.size]) (fun k hk => by simp at hk; simp [hk])) (fun k hk => by simp at hk; exact .inr (by omega))
         have hrow1 : w1.ownsRow base 27 1 (.slice aj ((xa) 16).length pj) ((xa) 16).length ((xa) 16) := row_keep2 Hrow.out ht1 (fun k _ h => by cases h)
         simp only [List.nil_append, Nat.zero_add] at ho1
         obtain ⟨ug, uc, rfl⟩ := ownsRow_there ho1 (fun e => by have := hnil1 e; cases this)
         have HU : Hid (w1.ownsRow wa.heap.size 3 1 (.slice (some ⟨ug, 0, none⟩) (l.length) uc) (l.length) (ints (l))) := ho1
         have HT1 : Hid (Touch [] wa w1) := ht1
         have Hrow1 : Hid (w1.ownsRow base 27 1 (.slice aj ((xa) 16).length pj) ((xa) 16).length ((xa) 16)) := hrow1
         clear ho1 hg1 hg1' hat1 hbk1 ht1 hrow1 hnil1)
      | (refine step_append_own_at rfl (.tmp 27) (.tmp 31) 40 rfl base 27 i1 (.slice none 0 0) 1 24 Tryz.underlying40 HI.out.b0 HI.out.b1 HI.out.b2 HI.out.b3 rfl (by decide) (.slice aj ((xa) 16).length pj) ((xa) 16).length ((xa) 16) rfl (Hrow1.out.alloc _) ⟨w1.heap.size, 0, none⟩ 1 1 [.slice (some ⟨ug, 0, none⟩) (l.length) uc] rfl rfl (cell_one_new _ _ _) (by simp [Value.oneCell']) (by simp [maxLen]; omega) (by omega) (by have := Hb.out.2; have := HT1.out.size; simp; omega) ?_
         intro v' wz ho2 hg2 hat2
         obtain ⟨m1, m2, m3⟩ := copy_ex HVa.out 16 (by decide) (by decide) Ej.out HT1.out HU.out ho2 hg2 hat2
         have HM1 : Hid (Iv (wz.setCell ⟨b, 16, none⟩ v') base b (put (fa) 16 v') (putl (xa) 16 ((xa) 16 ++ [.slice (some ⟨ug, 0, none⟩) (l.length) uc])) (ug :: KV) ∧ Ex wa (wz.setCell ⟨b, 16, none⟩ v') b (fa) (put (fa) 16 v') KV (ug :: KV) ∧ Rd (wz.setCell ⟨b, 16, none⟩ v') (ug :: KV) (.slice (some ⟨ug, 0, none⟩) (l.length) uc) (ints (l))) := ⟨m1, m2, m3⟩
         have hbk2 := grow_bk hg2 (show Bk w1 b (fa) from HVa.out.bk.touch HT1.out (by simp)) (by rw [← Ej.out]; exact HVa.out.rb 16 (by decide) (by decide))
         have ej2 := hbk2.cell 16
         rw [Ej.out] at ej2
         have fj2 := hbk2.frozen 16
         obtain ⟨vg, vc, rfl⟩ := row_sl ho2
         clear ho2 hg2 hat2 m1 m2 m3 hbk2))
    all_goals
      go_wp2_with fail
      go_meet
      exact ⟨_, _, _, HM1.out.1, HM1.out.2.1, rfl, (HU.out.lt ug rfl).1, HM1.out.2.2⟩
  case rest =>
  obtain ⟨v16, u, kk, hVb, hEb, hok, hsk, hRu⟩ := hcut
  obtain ⟨wb, hwb⟩ : ∃ x, x = wc := ⟨_, rfl⟩
  subst hwb
  obtain ⟨fb, hfb⟩ : ∃ x, x = put fa 16 v16 := ⟨_, rfl⟩
  obtain ⟨xb, hxb⟩ : ∃ x, x = putl xa 16 (xa 16 ++ [u]) := ⟨_, rfl⟩
  rw [← hfb] at hVb hEb
  rw [← hxb] at hVb
  have HVb : Hid (Iv wb base b fb xb (kk :: KV)) := hVb
  have HEb : Hid (Ex wa wb b fa fb KV (kk :: KV)) := hEb
  have Hfb : Hid (fb = put fa 16 v16) := hfb
  have Hxb : Hid (xb = putl xa 16 (xa 16 ++ [u])) := hxb
  have HRu : Hid (Rd wb (kk :: KV) u (ints l) ∧ u.ownBlock = some kk ∧ wa.heap.size ≤ kk) := ⟨hRu, hok, hsk⟩
  clear hVb hEb hfb hxb hRu hok hsk
  go_upto_region 3 with fail
  go_cut [] from 35 to 44 (fun wc => ∃ v', Iv wc base b (put (fb) 18 v') (putl (xb) 18 ((xb) 18 ++ [.int .i64 mark])) ((kk :: KV)) ∧ Ex wb wc b (fb) (put (fb) 18 v') ((kk :: KV)) ((kk :: KV)))
  case first =>
    obtain ⟨aj, pj, ej⟩ := row_sl (HVb.out.own 18 (by decide) (by decide))
    have cj := HVb.out.bk.cell 18
    rw [ej] at cj
    have hrow := HVb.out.own 18 (by decide) (by decide)
    rw [ej] at hrow
    have Ej : Hid ((fb) 18 = .slice aj ((xb) 18).length pj) := ej
    have Hrow : Hid (wb.ownsRow base 3 1 (.slice aj ((xb) 18).length pj) ((xb) 18).length ((xb) 18)) := hrow
    have hnj : ((xb) 18).length < 4000000000 := by rw [Hxb.out, putl_ne _ _ (by decide), Hxa.out, putl_ne _ _ (by decide)]; have := Hln.out; omega
    clear ej hrow 
    go_wp2_with (at_builtin; refine wpList_append_own_at _ rfl _ _ 27 rfl base 3 i0 (.int .i64 0) 1 8 Tryz.underlying27 HI.out.a0 HI.out.a1 HI.out.a2 HI.out.a3 rfl (by decide) _ _ _ rfl (Hrow.out.alloc _) ⟨wb.heap.size, 0, none⟩ 1 1 [.int .i64 mark] rfl rfl (cell_one_new _ _ _) (by simp [Value.oneCell']) (by simp [maxLen]; omega) (by omega) (by have := HVb.out.lo; have := HVb.out.bk.lt; simp; omega) ?_)
    intro v' w1 hown' hgrow _ hat
    have hbk1 := grow_bk hgrow HVb.out.bk (by rw [← Ej.out]; exact HVb.out.rb 18 (by decide) (by decide))
    have dj := hbk1.cell 18
    rw [Ej.out] at dj
    have fj := hbk1.frozen 18
    have hres := Iv.appEx HVb.out 18 (by decide) (by decide) (.int .i64 mark) v' hown' (by rw [Ej.out]; exact (Touch.alloc _ _ _).trans (Touch.grown hgrow (fun k hk => by simp [hk]))) (by rw [Ej.out]; rcases hat with h | h; exact .inl h; exact .inr ⟨_, h, by simp⟩)
    have HR : Hid (Iv (w1.setCell ⟨b, 18, none⟩ v') base b (put (fb) 18 v') (putl (xb) 18 ((xb) 18 ++ [.int .i64 mark])) ((kk :: KV)) ∧ Ex wb (w1.setCell ⟨b, 18, none⟩ v') b (fb) (put (fb) 18 v') ((kk :: KV)) ((kk :: KV))) := hres
    obtain ⟨gq, cq, rfl⟩ := row_sl hown'
    clear hown' hgrow hat hbk1 hres cj
    go_wp2_with fail
    go_meet
    exact ⟨_, HR.out⟩
  case rest =>
  obtain ⟨v18, hVc, hEc⟩ := hcut
  obtain ⟨wcc, hwc⟩ : ∃ x, x = wc := ⟨_, rfl⟩
  subst hwc
  obtain ⟨fc, hfc⟩ : ∃ x, x = put fb 18 v18 := ⟨_, rfl⟩
  obtain ⟨xc, hxc⟩ : ∃ x, x = putl xb 18 (xb 18 ++ [.int .i64 mark]) := ⟨_, rfl⟩
  rw [← hfc] at hVc hEc
  rw [← hxc] at hVc
  have HVc : Hid (Iv wcc base b fc xc (kk :: KV)) := hVc
  have HEc : Hid (Ex wb wcc b fb fc (kk :: KV) (kk :: KV)) := hEc
  have Hfc : Hid (fc = put fb 18 v18) := hfc
  have Hxc : Hid (xc = putl xb 18 (xb 18 ++ [.int .i64 mark])) := hxc
  clear hVc hEc hfc hxc
  go_upto_region 4 with fail
  go_cut [] from 45 to 59 (fun wc => ∃ v' d, Iv wc base b (put fc 19 v') (putl xc 19 (xc 19 ++ [.int .i64 d])) (kk :: KV) ∧ Ex wcc wc b fc (put fc 19 v') (kk :: KV) (kk :: KV))
  case first =>
    obtain ⟨aj, pj, ej⟩ := row_sl (HVc.out.own 19 (by decide) (by decide))
    have cj := HVc.out.bk.cell 19
    rw [ej] at cj
    have cja : ∀ d : Int, (wcc.alloc (.cells #[.int .i64 d] 3)).cell? ⟨b, 19, none⟩ = some (.slice aj (xc 19).length pj) := fun d => Lib.cell?_alloc_some _ cj
    have c21 := HVc.out.bk.cell 21
    have k0 : fc 0 = .bool false := by rw [Hfc.out, put_ne _ _ (by decide), Hfb.out, put_ne _ _ (by decide), Hfa.out, put_ne _ _ (by decide), Hfz.out, put_ne _ _ (by decide)]; exact HH.out.f0
    have k2 : fc 2 = .int .i64 turn := by rw [Hfc.out, put_ne _ _ (by decide), Hfb.out, put_ne _ _ (by decide), Hfa.out, put_ne _ _ (by decide), Hfz.out, put_ne _ _ (by decide)]; exact HH.out.f2
    have k21 : fc 21 = .int .i64 seen := by rw [Hfc.out, put_ne _ _ (by decide), Hfb.out, put_ne _ _ (by decide), Hfa.out, put_ne _ _ (by decide), Hfz.out, put_ne _ _ (by decide)]; exact HH.out.f21
    rw [k21] at c21
    have hdue := due_any (w := wcc.drew) (show Bk wcc.drew b fc from HVc.out.bk) turn seen k0 k2 HH.out.t0 (by have := HH.out.t1; omega) (by have := HH.out.s1; omega)
    have hrow := HVc.out.own 19 (by decide) (by decide)
    rw [ej] at hrow
    have Ej : Hid (fc 19 = .slice aj (xc 19).length pj) := ej
    have Hrow : Hid (wcc.ownsRow base 3 1 (.slice aj (xc 19).length pj) (xc 19).length (xc 19)) := hrow
    have hnj : (xc 19).length < 4000000000 := by rw [Hxc.out, putl_ne _ _ (by decide), Hxb.out, putl_ne _ _ (by decide), Hxa.out, putl_ne _ _ (by decide)]; have := Hln.out; omega
    have Hb : Hid (b < wcc.heap.size ∧ base ≤ wcc.heap.size) := ⟨HVc.out.bk.lt, by have := HVc.out.lo; have := HVc.out.bk.lt; omega⟩
    clear ej hrow k0 k2 k21
    go_region_law (first
      | (go_simp; go_at_call 36; refine hdue.mono ?_; rintro e wx ⟨⟨d, rfl⟩, rfl⟩)
      | (refine step_append_own_at rfl (.tmp 49) (.tmp 56) 27 rfl base 3 i0 (.int .i64 0) 1 8 Tryz.underlying27 HI.out.a0 HI.out.a1 HI.out.a2 HI.out.a3 rfl (by decide) (.slice aj (xc 19).length pj) (xc 19).length (xc 19) rfl ((show wcc.drew.ownsRow base 3 1 _ _ _ from Hrow.out).alloc _) ⟨wcc.heap.size, 0, none⟩ 1 1 [.int .i64 d] rfl rfl (cell_one_new _ _ _) (by simp [Value.oneCell']) (by simp [maxLen]; omega) (by omega) (by have := Hb.out.2; simp; omega) ?_
         intro v' w9 ho1 hg1 hat1
         have hg1' : (wcc.drew.alloc (.cells #[.int .i64 d] 3)).grownBy w9 (Value.slice aj (xc 19).length pj).ownBlock := hg1
         have hbk1 := grow_bk hg1' (show Bk wcc.drew b fc from HVc.out.bk) (by rw [← Ej.out]; exact HVc.out.rb 19 (by decide) (by decide))
         have dj := hbk1.cell 19
         rw [Ej.out] at dj
         have fj := hbk1.frozen 19
         have hres := Iv.appEx HVc.out 19 (by decide) (by decide) (.int .i64 d) v' ho1 (by rw [Ej.out]; exact ((Touch.drew _ _).trans (Touch.alloc _ _ _)).trans (Touch.grown hg1' (fun k hk => by simp [hk]))) (by rw [Ej.out]; rcases hat1 with h | h; exact .inl h; exact .inr ⟨_, h, by simp⟩)
         have HR : Hid (Iv (w9.setCell ⟨b, 19, none⟩ v') base b (put fc 19 v') (putl xc 19 (xc 19 ++ [.int .i64 d])) (kk :: KV) ∧ Ex wcc (w9.setCell ⟨b, 19, none⟩ v') b fc (put fc 19 v') (kk :: KV) (kk :: KV)) := hres
         obtain ⟨gq, cq, rfl⟩ := row_sl ho1
         clear ho1 hg1 hg1' hat1 hbk1 hres))
    all_goals
      go_wp2_with fail
      go_meet
      exact ⟨_, _, HR.out⟩
  case rest =>
  obtain ⟨v19, d, hVd, hEd⟩ := hcut
  obtain ⟨wd, hwd⟩ : ∃ x, x = wc := ⟨_, rfl⟩
  subst hwd
  obtain ⟨fd, hfd⟩ : ∃ x, x = put fc 19 v19 := ⟨_, rfl⟩
  obtain ⟨xd, hxd⟩ : ∃ x, x = putl xc 19 (xc 19 ++ [.int .i64 d]) := ⟨_, rfl⟩
  rw [← hfd] at hVd hEd
  rw [← hxd] at hVd
  have c21 := hVd.bk.cell 21
  have z21 := hVd.bk.frozen 21
  have gf : ∀ j, j < 13 ∨ 20 < j → fd j = put f 3 (.int .i64 1) j := fun j hj => by rw [hfd, put_ne _ _ (by omega), Hfc.out, put_ne _ _ (by omega), Hfb.out, put_ne _ _ (by omega), Hfa.out, put_ne _ _ (by omega), Hfz.out]
  rw [gf 21 (by omega), put_ne _ _ (by decide), HH.out.f21] at c21
  have V5 := hVd.field 21 (.int .i64 ((seen + 1 : Nat) : Int)) (by omega) (by omega)
  have E5 := hVd.fieldEx 21 (.int .i64 ((seen + 1 : Nat) : Int)) (by omega)
  have EE : Ex wy (wd.setCell ⟨b, 21, none⟩ (.int .i64 ((seen + 1 : Nat) : Int))) b fz (put fd 21 (.int .i64 ((seen + 1 : Nat) : Int))) KV (kk :: KV) := HEa.out.trans (HEb.out.trans (HEc.out.trans (hEd.trans E5)))
  have hru := (HEc.out.trans (hEd.trans E5)).rd HVb.out HRu.out.1
  have x13 : xd 13 = xs 13 := by rw [hxd, putl_ne _ _ (by decide), Hxc.out, putl_ne _ _ (by decide), Hxb.out, putl_ne _ _ (by decide), Hxa.out, putl_ne _ _ (by decide)]
  have x14 : xd 14 = xs 14 := by rw [hxd, putl_ne _ _ (by decide), Hxc.out, putl_ne _ _ (by decide), Hxb.out, putl_ne _ _ (by decide), Hxa.out, putl_ne _ _ (by decide)]
  have x15 : xd 15 = xs 15 ++ [.slice va l.length vc0] := by rw [hxd, putl_ne _ _ (by decide), Hxc.out, putl_ne _ _ (by decide), Hxb.out, putl_ne _ _ (by decide), Hxa.out, putl_same]
  have x16 : xd 16 = xs 16 ++ [u] := by rw [hxd, putl_ne _ _ (by decide), Hxc.out, putl_ne _ _ (by decide), Hxb.out, putl_same, Hxa.out, putl_ne _ _ (by decide)]
  have x17 : xd 17 = xs 17 := by rw [hxd, putl_ne _ _ (by decide), Hxc.out, putl_ne _ _ (by decide), Hxb.out, putl_ne _ _ (by decide), Hxa.out, putl_ne _ _ (by decide)]
  have x18 : xd 18 = ints (ms ++ [mark]) := by rw [hxd, putl_ne _ _ (by decide), Hxc.out, putl_same, Hxb.out, putl_ne _ _ (by decide), Hxa.out, putl_ne _ _ (by decide), HH.out.e18]; simp [ints]
  have x19 : xd 19 = ints (ds ++ [d]) := by rw [hxd, putl_same, Hxc.out, putl_ne _ _ (by decide), Hxb.out, putl_ne _ _ (by decide), Hxa.out, putl_ne _ _ (by decide), HH.out.e19]; simp [ints]
  have x20 : xd 20 = xs 20 := by rw [hxd, putl_ne _ _ (by decide), Hxc.out, putl_ne _ _ (by decide), Hxb.out, putl_ne _ _ (by decide), Hxa.out, putl_ne _ _ (by decide)]
  have hsz : w.heap.size ≤ wa.heap.size := by obtain ⟨G, t1, _⟩ := HE1.out.t; obtain ⟨G2, t2, _⟩ := HEa.out.t; have := t1.size; have := t2.size; omega
  have hB : Bok (wd.setCell ⟨b, 21, none⟩ (.int .i64 ((seen + 1 : Nat) : Int))) base b (put fd 21 (.int .i64 ((seen + 1 : Nat) : Int))) xd (kk :: KV) (ms ++ [mark]) (ds ++ [d]) turn (seen + 1) (T + 1) 1 := by
    refine ⟨V5, ?_, ?_, x18, x19, ?_, by rw [x17]; exact HH.out.e17, by rw [x20]; exact HH.out.e20, ?_, HH.out.ns.same (fun j hj => by rw [put_ne _ _ (by omega), gf j (by omega), put_ne _ _ (by omega)]), ?_, ?_, ?_, ?_, put_same _ _ _, HH.out.t0, by have := HH.out.t1; omega, by have := HH.out.s1; omega, ?_⟩
    · rw [x13, x14]; exact EE.prs HV1.out HP1.out
    · rw [x15, x16]; exact (EE.wts HV1.out HW1.out).snoc m0 m1 (EE.row HV1.out HvK.out Hl1.out) (fun g hg => by simp [HvK.out g hg]) hru l16
    · rw [x15]; have := HH.out.l19; simp [this]
    · rw [x13, x14, x15, x16]; exact dst_come HH.out.pr HH.out.wt HH.out.iv HH.out.dst Hg.out.1 HRu.out.2.1 (Nat.le_trans hsz HRu.out.2.2)
    · rw [put_ne _ _ (by decide), gf 0 (by omega), put_ne _ _ (by decide)]; exact HH.out.f0
    · rw [put_ne _ _ (by decide), gf 1 (by omega), put_ne _ _ (by decide)]; exact HH.out.f1
    · rw [put_ne _ _ (by decide), gf 2 (by omega), put_ne _ _ (by decide)]; exact HH.out.f2
    · rw [put_ne _ _ (by decide), gf 3 (by omega), put_same]
    · rw [x13, x15]; have := HH.out.len; simp; omega
  have hbase : base ≤ (wd.setCell ⟨b, 21, none⟩ (.int .i64 ((seen + 1 : Nat) : Int))).heap.size := by have := V5.lo; have := V5.bk.lt; omega
  have q := done_any hB (by omega) (by rw [x15]; simp) hbase
  have HEE : Hid (Ey w (wd.setCell ⟨b, 21, none⟩ (.int .i64 ((seen + 1 : Nat) : Int))) b f (put fd 21 (.int .i64 ((seen + 1 : Nat) : Int))) KV (kk :: KV)) := HE1.out.ey.trans EE.ey
  have hsn : seen < 2000000000 := by have := HH.out.s1; omega
  have hs1 : ((seen + 1 : Nat) : Int) = (seen : Int) + 1 := by omega
  rw [hs1] at q HEE
  clear hVd hEd hfd hxd gf V5 E5 EE hru x13 x14 x15 x16 x17 x18 x19 x20 hsz hB hbase hs1
  go_wp2_with fail
  refine q.mono ?_
  rintro e w6 ⟨rfl, f6, xs6, K6, ms6, ds6, hB6, hE6⟩
  have HB6 : Hid (Bok w6 base b f6 xs6 K6 ms6 ds6 (turn + 1) (seen + 1) (T + 1 + 1) 0) := hB6
  have HE6 : Hid (Ey w w6 b f f6 KV K6) := HEE.out.trans hE6
  clear hB6 hE6 q c21 z21
  go_wp2
  go_end0
  rw [← HKV.out]
  exact ⟨rfl, f6, xs6, K6, ms6, ds6, HB6.out, HE6.out⟩

end Go.Proofs.YtbgnagjhkfkekaaGreatDoor.Kg
