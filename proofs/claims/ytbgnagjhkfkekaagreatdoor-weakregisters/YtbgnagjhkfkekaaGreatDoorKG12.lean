/-
  marks, grows, Hold.
-/
import Derived.Test.YtbgnagjhkfkekaaGreatDoorKG11
set_option linter.unusedVariables false
set_option maxRecDepth 20000
namespace Go.Proofs.YtbgnagjhkfkekaaGreatDoor.Kg
open Go.RowKit

/-- Of the other kinds there is nothing. -/
structure Nils (f : Nat → Value) : Prop where
  nBytes : Nil9 f 4
  nBools : Nil9 f 22
  nWords : Nil9 f 31
  nTexts : Nil9 f 40
  nMoves : Nil9 f 49
  nSites : Nil9 f 58
  nGrowths : Nil9 f 67
  nOps : Nil9 f 76
  nIntLists : Nil9 f 85
  nWordLists : Nil9 f 94
  nFrames : Nil9 f 103
  nObjects : Nil9 f 112

theorem Nil9.same {f f' : Nat → Value} {o : Nat} (h : Nil9 f o) (hf : ∀ j, o ≤ j → j ≤ o + 7 → f' j = f j) : Nil9 f' o :=
  ⟨(hf _ (by omega) (by omega)).trans h.c0, (hf _ (by omega) (by omega)).trans h.c1, (hf _ (by omega) (by omega)).trans h.c2, (hf _ (by omega) (by omega)).trans h.c3, (hf _ (by omega) (by omega)).trans h.c4, (hf _ (by omega) (by omega)).trans h.c5, (hf _ (by omega) (by omega)).trans h.c6, (hf _ (by omega) (by omega)).trans h.c7⟩

theorem Nils.same {f f' : Nat → Value} (h : Nils f) (hf : ∀ j, (4 ≤ j ∧ j ≤ 11) ∨ 22 ≤ j → f' j = f j) : Nils f' :=
  ⟨h.nBytes.same (fun j h1 h2 => hf j (by omega)), h.nBools.same (fun j h1 h2 => hf j (by omega)), h.nWords.same (fun j h1 h2 => hf j (by omega)), h.nTexts.same (fun j h1 h2 => hf j (by omega)), h.nMoves.same (fun j h1 h2 => hf j (by omega)), h.nSites.same (fun j h1 h2 => hf j (by omega)), h.nGrowths.same (fun j h1 h2 => hf j (by omega)), h.nOps.same (fun j h1 h2 => hf j (by omega)), h.nIntLists.same (fun j h1 h2 => hf j (by omega)), h.nWordLists.same (fun j h1 h2 => hf j (by omega)), h.nFrames.same (fun j h1 h2 => hf j (by omega)), h.nObjects.same (fun j h1 h2 => hf j (by omega))⟩

theorem Iv.same {w w' : World} {base b : Nat} {f : Nat → Value} {xs : Nat → List Value} {K : List Nat} (h : Iv w base b f xs K) (hk : Bk w' b f) (ht : Touch [b] w w') : Iv w' base b f xs K ∧ Ex w w' b f f K K := by
  refine ⟨⟨hk, h.lo, fun j h1 h2 => row_keep2 (h.own j h1 h2) ht (fun k hk2 hm => ?_), h.dis, h.kp, h.kb, fun k hk2 => ⟨(h.kin k hk2).1, Nat.lt_of_lt_of_le (h.kin k hk2).2 ht.size⟩⟩, ⟨⟨[b], ht, fun k hk2 => .inl (by simpa using hk2)⟩, fun k h => .inl h, fun k h => h, fun k h => .inl h⟩⟩
  simp at hm; subst hm
  exact h.rb j h1 h2 hk2.symm

/-- The book, with lists that were written full and not laid on yet. -/
structure St (w : World) (base b : Nat) (f : Nat → Value) (xs : Nat → List Value) (K : List Nat) (ms fm : List Int) : Prop where
  iv : Iv w base b f xs K
  pr : Prs w K (xs 13) (xs 14)
  wt : Wts w base K (xs 15) (xs 16) ms
  fr : Frs w base K 0 (xs 17) fm
  ns : Nils f

theorem St.ex {w w' : World} {base b : Nat} {f : Nat → Value} {xs : Nat → List Value} {K : List Nat} {ms fm : List Int} (h : St w base b f xs K ms fm) (hk : Bk w' b f) (ht : Touch [b] w w') : St w' base b f xs K ms fm ∧ Ex w w' b f f K K := by
  obtain ⟨q1, q2⟩ := h.iv.same hk ht
  exact ⟨⟨q1, q2.prs h.iv h.pr, q2.wts h.iv h.wt, q2.frs h.iv h.fr, h.ns⟩, q2⟩

set_option maxHeartbeats 4000000 in
theorem marks_any {w : World} {base b : Nat} {f : Nat → Value} {xs : Nat → List Value} {K : List Nat} {ms ds : List Int} {turn : Int} (h : Iv w base b f xs K) (hns : Nils f) (h1 : Prs w K (xs 13) (xs 14)) (hW : Wts w base K (xs 15) (xs 16) ms) (e18 : xs 18 = ints ms) (e19 : xs 19 = ints ds) (l19 : ds.length = (xs 15).length) (e17 : xs 17 = []) (e20 : xs 20 = [])
    (hD : Dst (xs 15) (xs 13 ++ xs 14 ++ xs 16)) (f0 : f 0 = .bool false) (f1 : f 1 = .bool false) (f2 : f 2 = .int .i64 turn) (hne : xs 15 ≠ []) (n1 : (xs 13).length + (xs 15).length < 4000000000) :
    Calls Tryz.prog 71 #[.pointer (some ⟨b, 0, none⟩)] w fun e w' => e = .returned (.tuple #[]) ∧ ∃ f' xs' K' ms' ds' fm, Iv w' base b f' xs' K' ∧ Prs w' K' (xs' 13) (xs' 14) ∧ Wts w' base K' (xs' 15) (xs' 16) ms' ∧ xs' 18 = ints ms' ∧ xs' 19 = ints ds' ∧ ds'.length = (xs' 15).length ∧ Frs w' base K' 0 (xs' 17) fm ∧ xs' 20 = ints fm ∧ Dst (xs' 15) (xs' 13 ++ xs' 14 ++ xs' 16 ++ xs' 17) ∧ Fsh (xs' 17) (xs' 13 ++ xs' 14) (xs' 16) ∧ (∀ j, j < 13 ∨ 20 < j → f' j = f j) ∧ Ey w w' b f f' K K' ∧ (xs' 15).length + (xs' 17).length = (xs 15).length ∧ (xs' 13).length = (xs 13).length + (xs' 17).length := by
  have q0 := markBytes_nil h.bk hns.nBytes
  have q1 := markInts_any h h1 hW e18 e19 l19 e17 e20 hD f0 f1 f2 hne n1
  have HN : Hid (Nils f) := hns
  clear h hns h1 hW e18 e19 l19 e17 e20 hD f0 f1 f2 hne n1
  go_enter Tryz.func71, Tryz.ntmps71
  go_wp2_with fail
  refine q0.mono ?_
  rintro e w9 ⟨rfl, rfl⟩
  go_wp2_with fail
  refine q1.mono ?_
  rintro e w1 ⟨rfl, f', xs', K', ms', ds', fm, hI, rest⟩
  have hf := rest.2.2.2.2.2.2.2.2.2.1
  have HN1 : Hid (Nils f') := HN.out.same (fun j hj => hf j (by omega))
  have HI : Hid (Iv w1 base b f' xs' K') := hI
  have HR : Hid (_ ∧ _) := rest
  clear q0 q1 hf rest hI
  have q := markBools_nil HI.out.bk HN1.out.nBools
  go_wp2_with fail
  refine q.mono ?_
  rintro e w9 ⟨rfl, rfl⟩
  clear q
  have q := markWords_nil HI.out.bk HN1.out.nWords
  go_wp2_with fail
  refine q.mono ?_
  rintro e w9 ⟨rfl, rfl⟩
  clear q
  have q := markTexts_nil HI.out.bk HN1.out.nTexts
  go_wp2_with fail
  refine q.mono ?_
  rintro e w9 ⟨rfl, rfl⟩
  clear q
  have q := markMoves_nil HI.out.bk HN1.out.nMoves
  go_wp2_with fail
  refine q.mono ?_
  rintro e w9 ⟨rfl, rfl⟩
  clear q
  have q := markSites_nil HI.out.bk HN1.out.nSites
  go_wp2_with fail
  refine q.mono ?_
  rintro e w9 ⟨rfl, rfl⟩
  clear q
  have q := markGrowths_nil HI.out.bk HN1.out.nGrowths
  go_wp2_with fail
  refine q.mono ?_
  rintro e w9 ⟨rfl, rfl⟩
  clear q
  have q := markOps_nil HI.out.bk HN1.out.nOps
  go_wp2_with fail
  refine q.mono ?_
  rintro e w9 ⟨rfl, rfl⟩
  clear q
  have q := markIntLists_nil HI.out.bk HN1.out.nIntLists
  go_wp2_with fail
  refine q.mono ?_
  rintro e w9 ⟨rfl, rfl⟩
  clear q
  have q := markWordLists_nil HI.out.bk HN1.out.nWordLists
  go_wp2_with fail
  refine q.mono ?_
  rintro e w9 ⟨rfl, rfl⟩
  clear q
  have q := markFrames_nil HI.out.bk HN1.out.nFrames
  go_wp2_with fail
  refine q.mono ?_
  rintro e w9 ⟨rfl, rfl⟩
  clear q
  have q := markObjects_nil HI.out.bk HN1.out.nObjects
  go_wp2_with fail
  refine q.mono ?_
  rintro e w9 ⟨rfl, rfl⟩
  clear q
  go_wp2
  go_end0
  exact ⟨rfl, _, _, _, _, _, _, HI.out, HR.out⟩

theorem Ez.wts {w w' : World} {base b bs : Nat} {f f' : Nat → Value} {xs : Nat → List Value} {K K' : List Nat} {X : List Value} (h : Ez w w' b f f' K K' X) (hi : Iv w base b f xs K) {A N : List Value} {ms : List Int} (hp : Wts w bs K A N ms) (hA : ∀ v, v ∈ A → ∀ x, x ∈ X → Far v x) (hN : ∀ x, x ∈ X → ∀ v, v ∈ N → Far x v) : Wts w' bs K' A N ms := by
  obtain ⟨G, h1, h2⟩ := h.t
  refine hp.keep h1 h.k (fun v hv k hk hm => ?_) (fun v hv k hk hm => ?_)
  · rcases h2 k hm with ho | ⟨x, q1, q2⟩
    · exact hi.ownK ho (hp.inA hv k hk)
    · exact hA v hv x q1 k hk q2
  · rcases h2 k hm with ho | ⟨x, q1, q2⟩
    · exact hi.ownK ho (hp.inN hv k hk)
    · exact hN x q1 v hv k q2 hk

set_option maxHeartbeats 4000000 in
theorem grows_any {w : World} {base b : Nat} {f : Nat → Value} {xs : Nat → List Value} {K : List Nat} {ms fm : List Int} (h : St w base b f xs K ms fm) (hbase : base ≤ w.heap.size) (hD : Dst (xs 15) (xs 13 ++ xs 14 ++ xs 16 ++ xs 17)) (hFs : Fsh (xs 17) (xs 13 ++ xs 14) (xs 16)) (e20 : xs 20 = ints fm) (n1 : (xs 13).length + (xs 17).length < 4000000000) :
    Calls Tryz.prog 72 #[.pointer (some ⟨b, 0, none⟩)] w fun e w' => e = .returned (.tuple #[]) ∧ ∃ f' xs' K', Iv w' base b f' xs' K' ∧ Prs w' K' (xs' 13) (xs' 14) ∧ Wts w' base K' (xs' 15) (xs' 16) ms ∧ Nils f' ∧ Ez w w' b f f' K K' (xs 17) ∧ (xs' 13).length = (xs 13).length + (xs 17).length ∧ xs' 17 = [] ∧ xs' 20 = [] ∧ (∀ j, j ≠ 13 → j ≠ 14 → j ≠ 17 → j ≠ 20 → f' j = f j ∧ xs' j = xs j) ∧ (∀ v, v ∈ xs' 13 ++ xs' 14 → v ∈ xs 13 ++ xs 14 ∨ (∃ q, v.ownBlock = some q ∧ w.heap.size ≤ q) ∨ ∃ x, x ∈ xs 17 ∧ v.ownBlock = x.ownBlock) := by
  have q0 := growBytes_nil h.iv.bk h.ns.nBytes
  have HS : Hid (St w base b f xs K ms fm) := h
  have HB : Hid (base ≤ w.heap.size ∧ xs 20 = ints fm ∧ (xs 13).length + (xs 17).length < 4000000000) := ⟨hbase, e20, n1⟩
  have HDF : Hid (Dst (xs 15) (xs 13 ++ xs 14 ++ xs 16 ++ xs 17) ∧ Fsh (xs 17) (xs 13 ++ xs 14) (xs 16)) := ⟨hD, hFs⟩
  clear h hbase e20 n1 hD hFs
  go_enter Tryz.func72, Tryz.ntmps72
  go_wp2_with fail
  refine q0.mono ?_
  rintro e w1 ⟨rfl, hk1, ht1⟩
  obtain ⟨s1, x1⟩ := HS.out.ex hk1 ht1
  have q1 := growInts_any s1.iv (Nat.le_trans HB.out.1 ht1.size) s1.pr s1.fr HDF.out.2.one HDF.out.2.two HB.out.2.1 HB.out.2.2 (by have := HB.out.2.2; omega)
  have HS1 : Hid (St w1 base b f xs K ms fm) := s1
  have HX1 : Hid (Ex w w1 b f f K K) := x1
  clear q0 hk1 ht1 s1 x1
  go_wp2_with fail
  refine q1.mono ?_
  rintro e w2 ⟨rfl, f', xs', K', hI, hP, hE, l13, l17, l20, hS, hNw⟩
  have HS2 : Hid (St w2 base b f' xs' K' ms []) := ⟨hI, hP, by rw [(hS 15 (by decide) (by decide) (by decide) (by decide)).2, (hS 16 (by decide) (by decide) (by decide) (by decide)).2]; exact hE.wts HS1.out.iv HS1.out.wt (fun v hv x hx => HDF.out.1.two v hv x (by simp [hx])) (fun x hx v hv => HDF.out.2.three x hx v hv), by rw [l17]; exact Frs.nil_ _ _ _, HS1.out.ns.same (fun j hj => (hS j (by omega) (by omega) (by omega) (by omega)).1)⟩
  have HX2 : Hid (Ez w w2 b f f' K K' (xs 17)) := (HX1.out.ez _).trans hE
  have HL : Hid ((xs' 13).length = (xs 13).length + (xs 17).length ∧ xs' 17 = [] ∧ xs' 20 = [] ∧ (∀ j, j ≠ 13 → j ≠ 14 → j ≠ 17 → j ≠ 20 → f' j = f j ∧ xs' j = xs j) ∧ (∀ v, v ∈ xs' 13 ++ xs' 14 → v ∈ xs 13 ++ xs 14 ∨ (∃ q, v.ownBlock = some q ∧ w.heap.size ≤ q) ∨ ∃ x, x ∈ xs 17 ∧ v.ownBlock = x.ownBlock)) := ⟨l13, l17, l20, hS, fun v hv => (hNw v hv).imp id (Or.imp (fun ⟨q, e1, e2⟩ => ⟨q, e1, Nat.le_trans (by obtain ⟨G, t1, _⟩ := HX1.out.t; exact t1.size) e2⟩) id)⟩
  clear q1 hI hP hE l13 l17 l20 hS hNw HS1 HX1 HS HB
  have q := growBools_nil HS2.out.iv.bk HS2.out.ns.nBools
  go_wp2_with fail
  refine q.mono ?_
  rintro e w3 ⟨rfl, hk, ht⟩
  have HS3 : Hid (St w3 base b f' xs' K' ms []) := (HS2.out.ex hk ht).1
  have HX3 : Hid (Ez w w3 b f f' K K' (xs 17)) := HX2.out.trans ((HS2.out.ex hk ht).2.ez _)
  clear q hk ht HS2 HX2
  have q := growWords_nil HS3.out.iv.bk HS3.out.ns.nWords
  go_wp2_with fail
  refine q.mono ?_
  rintro e w4 ⟨rfl, hk, ht⟩
  have HS4 : Hid (St w4 base b f' xs' K' ms []) := (HS3.out.ex hk ht).1
  have HX4 : Hid (Ez w w4 b f f' K K' (xs 17)) := HX3.out.trans ((HS3.out.ex hk ht).2.ez _)
  clear q hk ht HS3 HX3
  have q := growTexts_nil HS4.out.iv.bk HS4.out.ns.nTexts
  go_wp2_with fail
  refine q.mono ?_
  rintro e w5 ⟨rfl, hk, ht⟩
  have HS5 : Hid (St w5 base b f' xs' K' ms []) := (HS4.out.ex hk ht).1
  have HX5 : Hid (Ez w w5 b f f' K K' (xs 17)) := HX4.out.trans ((HS4.out.ex hk ht).2.ez _)
  clear q hk ht HS4 HX4
  have q := growMoves_nil HS5.out.iv.bk HS5.out.ns.nMoves
  go_wp2_with fail
  refine q.mono ?_
  rintro e w6 ⟨rfl, hk, ht⟩
  have HS6 : Hid (St w6 base b f' xs' K' ms []) := (HS5.out.ex hk ht).1
  have HX6 : Hid (Ez w w6 b f f' K K' (xs 17)) := HX5.out.trans ((HS5.out.ex hk ht).2.ez _)
  clear q hk ht HS5 HX5
  have q := growSites_nil HS6.out.iv.bk HS6.out.ns.nSites
  go_wp2_with fail
  refine q.mono ?_
  rintro e w7 ⟨rfl, hk, ht⟩
  have HS7 : Hid (St w7 base b f' xs' K' ms []) := (HS6.out.ex hk ht).1
  have HX7 : Hid (Ez w w7 b f f' K K' (xs 17)) := HX6.out.trans ((HS6.out.ex hk ht).2.ez _)
  clear q hk ht HS6 HX6
  have q := growGrowths_nil HS7.out.iv.bk HS7.out.ns.nGrowths
  go_wp2_with fail
  refine q.mono ?_
  rintro e w8 ⟨rfl, hk, ht⟩
  have HS8 : Hid (St w8 base b f' xs' K' ms []) := (HS7.out.ex hk ht).1
  have HX8 : Hid (Ez w w8 b f f' K K' (xs 17)) := HX7.out.trans ((HS7.out.ex hk ht).2.ez _)
  clear q hk ht HS7 HX7
  have q := growOps_nil HS8.out.iv.bk HS8.out.ns.nOps
  go_wp2_with fail
  refine q.mono ?_
  rintro e w9 ⟨rfl, hk, ht⟩
  have HS9 : Hid (St w9 base b f' xs' K' ms []) := (HS8.out.ex hk ht).1
  have HX9 : Hid (Ez w w9 b f f' K K' (xs 17)) := HX8.out.trans ((HS8.out.ex hk ht).2.ez _)
  clear q hk ht HS8 HX8
  have q := growIntLists_nil HS9.out.iv.bk HS9.out.ns.nIntLists
  go_wp2_with fail
  refine q.mono ?_
  rintro e w10 ⟨rfl, hk, ht⟩
  have HS10 : Hid (St w10 base b f' xs' K' ms []) := (HS9.out.ex hk ht).1
  have HX10 : Hid (Ez w w10 b f f' K K' (xs 17)) := HX9.out.trans ((HS9.out.ex hk ht).2.ez _)
  clear q hk ht HS9 HX9
  have q := growWordLists_nil HS10.out.iv.bk HS10.out.ns.nWordLists
  go_wp2_with fail
  refine q.mono ?_
  rintro e w11 ⟨rfl, hk, ht⟩
  have HS11 : Hid (St w11 base b f' xs' K' ms []) := (HS10.out.ex hk ht).1
  have HX11 : Hid (Ez w w11 b f f' K K' (xs 17)) := HX10.out.trans ((HS10.out.ex hk ht).2.ez _)
  clear q hk ht HS10 HX10
  have q := growFrames_nil HS11.out.iv.bk HS11.out.ns.nFrames
  go_wp2_with fail
  refine q.mono ?_
  rintro e w12 ⟨rfl, hk, ht⟩
  have HS12 : Hid (St w12 base b f' xs' K' ms []) := (HS11.out.ex hk ht).1
  have HX12 : Hid (Ez w w12 b f f' K K' (xs 17)) := HX11.out.trans ((HS11.out.ex hk ht).2.ez _)
  clear q hk ht HS11 HX11
  have q := growObjects_nil HS12.out.iv.bk HS12.out.ns.nObjects
  go_wp2_with fail
  refine q.mono ?_
  rintro e w13 ⟨rfl, hk, ht⟩
  have HS13 : Hid (St w13 base b f' xs' K' ms []) := (HS12.out.ex hk ht).1
  have HX13 : Hid (Ez w w13 b f f' K K' (xs 17)) := HX12.out.trans ((HS12.out.ex hk ht).2.ez _)
  clear q hk ht HS12 HX12
  go_wp2
  go_end0
  exact ⟨rfl, f', xs', K', HS13.out.iv, HS13.out.pr, HS13.out.wt, HS13.out.ns, HX13.out, HL.out⟩

set_option maxHeartbeats 8000000 in
theorem hold_any {w : World} {base b : Nat} {f : Nat → Value} {xs : Nat → List Value} {K : List Nat} {ms fm : List Int} (h : St w base b f xs K ms fm) (f1 : f 1 = .bool false) (n1 : (xs 13).length < 4000000000) (n2 : (xs 15).length < 4000000000) :
    Calls Tryz.prog 14 #[.pointer (some ⟨b, 0, none⟩)] w fun e w' => e = .returned (.bool true) ∧ Below w.heap.size w w' := by
  have q0 := holdBytes_nil h.iv.bk h.ns.nBytes
  have q1 := holdInts_any h.iv h.pr h.wt.prs n1 n2
  have c1 := h.iv.bk.cell 1
  rw [f1] at c1
  have HS : Hid (St w base b f xs K ms fm) := h
  clear h f1 n1 n2
  go_enter Tryz.func14, Tryz.ntmps14
  go_wp2_with fail
  refine q0.mono ?_
  rintro e w9 ⟨rfl, rfl⟩
  go_wp2_with fail
  refine q1.mono ?_
  rintro e w1 ⟨rfl, hb⟩
  have HB : Hid (Below w.heap.size w w1) := hb
  have HK : Hid (Bk w1 b f) := (HS.out.iv.nil hb).bk
  clear q0 q1 c1 hb
  have q := holdBools_nil HK.out HS.out.ns.nBools
  go_wp2_with fail
  refine q.mono ?_
  rintro e w9 ⟨rfl, rfl⟩
  clear q
  have q := holdWords_nil HK.out HS.out.ns.nWords
  go_wp2_with fail
  refine q.mono ?_
  rintro e w9 ⟨rfl, rfl⟩
  clear q
  have q := holdTexts_nil HK.out HS.out.ns.nTexts
  go_wp2_with fail
  refine q.mono ?_
  rintro e w9 ⟨rfl, rfl⟩
  clear q
  have q := holdMoves_nil HK.out HS.out.ns.nMoves
  go_wp2_with fail
  refine q.mono ?_
  rintro e w9 ⟨rfl, rfl⟩
  clear q
  have q := holdSites_nil HK.out HS.out.ns.nSites
  go_wp2_with fail
  refine q.mono ?_
  rintro e w9 ⟨rfl, rfl⟩
  clear q
  have q := holdGrowths_nil HK.out HS.out.ns.nGrowths
  go_wp2_with fail
  refine q.mono ?_
  rintro e w9 ⟨rfl, rfl⟩
  clear q
  have q := holdOps_nil HK.out HS.out.ns.nOps
  go_wp2_with fail
  refine q.mono ?_
  rintro e w9 ⟨rfl, rfl⟩
  clear q
  have q := holdIntLists_nil HK.out HS.out.ns.nIntLists
  go_wp2_with fail
  refine q.mono ?_
  rintro e w9 ⟨rfl, rfl⟩
  clear q
  have q := holdWordLists_nil HK.out HS.out.ns.nWordLists
  go_wp2_with fail
  refine q.mono ?_
  rintro e w9 ⟨rfl, rfl⟩
  clear q
  have q := holdFrames_nil HK.out HS.out.ns.nFrames
  go_wp2_with fail
  refine q.mono ?_
  rintro e w9 ⟨rfl, rfl⟩
  clear q
  have q := holdObjects_nil HK.out HS.out.ns.nObjects
  go_wp2_with fail
  refine q.mono ?_
  rintro e w9 ⟨rfl, rfl⟩
  clear q
  go_wp2
  go_ret
  exact ⟨rfl, HB.out⟩

end Go.Proofs.YtbgnagjhkfkekaaGreatDoor.Kg
