/-
  What markInts keeps on its way.
-/
import Derived.Test.YtcijdbhabbepaaaGreatDoorKG8
set_option linter.unusedVariables false
set_option maxRecDepth 20000
namespace Go.Proofs.YtcijdbhabbepaaaGreatDoor.Kg
open Go.RowKit

structure Mk (w : World) (base b : Nat) (f0 f : Nat → Value) (xs : Nat → List Value) (K : List Nat) (ms1 ds1 fm : List Int) (A N : List Value) (ms ds : List Int) (vA vN vM vD : Value) (n13 k : Nat) : Prop where
  iv : Iv w base b f xs K
  pr : Prs w K (xs 13) (xs 14)
  wt : Wts w base K (xs 15) (xs 16) ms1
  e18 : xs 18 = ints ms1
  e19 : xs 19 = ints ds1
  l19 : ds1.length = (xs 15).length
  fr : Frs w base K 0 (xs 17) fm
  e20 : xs 20 = ints fm
  rs : Wts w base K (A.drop k) (N.drop k) (ms.drop k)
  rA : Rd w K vA A
  rN : Rd w K vN N
  rM : Rd w K vM (ints ms)
  rD : Rd w K vD (ints ds)
  dst : Dst (xs 15 ++ A.drop k) (xs 13 ++ xs 14 ++ xs 16 ++ xs 17 ++ N.drop k ++ [vA, vN, vM, vD])
  fs : Fsh (xs 17) (xs 13 ++ xs 14) (xs 16 ++ N.drop k)
  fx : ∀ j, j < 13 ∨ 20 < j → f j = f0 j
  ln : (xs 15).length + (xs 17).length = k ∧ (xs 13).length = n13 + (xs 17).length

theorem Mk.kept {w w' : World} {base b : Nat} {f0 f f' : Nat → Value} {xs : Nat → List Value} {K : List Nat} {ms1 ds1 fm : List Int} {A N : List Value} {ms ds : List Int} {vA vN vM vD : Value} {n13 k : Nat}
    (h : Mk w base b f0 f xs K ms1 ds1 fm A N ms ds vA vN vM vD n13 k) {v u : Value} {m d : Int} (hv : A[k]? = some v) (hu : N[k]? = some u) (hm : ms[k]? = some m) {xa xb xc xd : Nat → List Value}
    (ea : xa = putl xs 15 (xs 15 ++ [v])) (eb : xb = putl xa 16 (xa 16 ++ [u])) (ec : xc = putl xb 18 (xb 18 ++ [.int .i64 m])) (ed : xd = putl xc 19 (xc 19 ++ [.int .i64 d]))
    (hI : Iv w' base b f' xd K) (hE : Ex w w' b f f' K K) (hf : ∀ j, j < 13 ∨ 20 < j → f' j = f j) :
    Mk w' base b f0 f' xd K (ms1 ++ [m]) (ds1 ++ [d]) fm A N ms ds vA vN vM vD n13 (k + 1) := by
  have x13 : xd 13 = xs 13 := by subst ed ec eb ea; simp [putl]
  have x14 : xd 14 = xs 14 := by subst ed ec eb ea; simp [putl]
  have x15 : xd 15 = xs 15 ++ [v] := by subst ed ec eb ea; simp [putl]
  have x16 : xd 16 = xs 16 ++ [u] := by subst ed ec eb ea; simp [putl]
  have x17 : xd 17 = xs 17 := by subst ed ec eb ea; simp [putl]
  have x18 : xd 18 = ints (ms1 ++ [m]) := by subst ed ec eb ea; simp [putl, h.e18, ints]
  have x19 : xd 19 = ints (ds1 ++ [d]) := by subst ed ec eb ea; simp [putl, h.e19, ints]
  have x20 : xd 20 = xs 20 := by subst ed ec eb ea; simp [putl]
  clear ea eb ec ed
  have hkl : k < A.length := (List.getElem?_eq_some_iff.1 hv).1
  have hdA : A.drop k = v :: A.drop (k + 1) := by
    rw [List.drop_eq_getElem_cons hkl]
    rw [List.getElem?_eq_getElem hkl] at hv; simp at hv; rw [hv]
  have hkn : k < N.length := (List.getElem?_eq_some_iff.1 hu).1
  have hdN : N.drop k = u :: N.drop (k + 1) := by
    rw [List.drop_eq_getElem_cons hkn]
    rw [List.getElem?_eq_getElem hkn] at hu; simp at hu; rw [hu]
  have hrs := hE.wts h.iv h.rs
  obtain ⟨u', l, m', q1, q2, q3, q4, q5, q6, q7, q8⟩ := hrs.at_ 0 v (by rw [List.getElem?_drop]; simpa using hv)
  rw [List.getElem?_drop] at q1 q2
  simp only [Nat.add_zero] at q1 q2
  rw [hu] at q1; rw [hm] at q2
  simp at q1 q2
  subst q1 q2
  refine ⟨hI, ?_, ?_, x18, x19, ?_, ?_, by rw [x20]; exact h.e20, hrs.tail, hE.rd h.iv h.rA, hE.rd h.iv h.rN, hE.rd h.iv h.rM, hE.rd h.iv h.rD, ?_, ?_, fun j hj => (hf j hj).trans (h.fx j hj), ?_⟩
  · rw [x13, x14]; exact hE.prs h.iv h.pr
  · rw [x15, x16]; exact (hE.wts h.iv h.wt).snoc q3 q4 q5 q6 q7 q8
  · rw [x15]; simp [h.l19]
  · rw [x17]; exact hE.frs h.iv h.fr
  · rw [x13, x14, x15, x16, x17]
    have h1 := h.dst
    rw [hdA] at h1
    refine ⟨by simpa using h1.one, fun y hy z hz => h1.two y (by simpa using hy) z ?_⟩
    rw [hdN]
    simp only [List.mem_append, List.mem_cons, List.not_mem_nil, or_false] at hz ⊢
    rcases hz with ((((hz | hz) | (hz | hz)) | hz) | hz) | hz
    all_goals simp [hz]
  · rw [x13, x14, x16, x17]
    refine ⟨h.fs.one, h.fs.two, fun y hy z hz => h.fs.three y hy z ?_⟩
    rw [hdN]
    simp only [List.mem_append, List.mem_cons, List.not_mem_nil, or_false] at hz ⊢
    rcases hz with (hz | hz) | hz
    all_goals simp [hz]
  · rw [x15, x17, x13]
    have := h.ln
    exact ⟨by simp; omega, this.2⟩

theorem Mk.marked {w wb w' : World} {base b : Nat} {f0 f f' : Nat → Value} {xs : Nat → List Value} {K : List Nat} {ms1 ds1 fm : List Int} {A N : List Value} {ms ds : List Int} {vA vN vM vD : Value} {n13 k kk : Nat}
    (h : Mk w base b f0 f xs K ms1 ds1 fm A N ms ds vA vN vM vD n13 k) {v u2 : Value} {m : Int} {l' : List Int} (hv : A[k]? = some v) (hm : ms[k]? = some m) (h3 : 0 ≤ m) (h4 : m ≤ 1000000000000000)
    (hgK : ∀ g, v.ownBlock = some g → g ∈ K) (h16 : l'.length ≤ 10000000000000) (ht : Touch v.ownBlock.toList w wb) (hlon : Row wb base v l') {xa xb xc xd : Nat → List Value}
    (ea : xa = putl xs 13 (xs 13 ++ [v])) (eb : xb = putl xa 14 (xa 14 ++ [u2])) (ec : xc = putl xb 17 (xb 17 ++ [v])) (ed : xd = putl xc 20 (xc 20 ++ [.int .i64 m]))
    (hI : Iv w' base b f' xd (kk :: K)) (hE : Ex wb w' b f f' K (kk :: K)) (hu2 : Rd w' (kk :: K) u2 (ints l')) (hkk : u2.ownBlock = some kk) (hkn : w.heap.size ≤ kk) (hf : ∀ j, j < 13 ∨ 20 < j → f' j = f j) :
    Mk w' base b f0 f' xd (kk :: K) ms1 ds1 (fm ++ [m]) A N ms ds vA vN vM vD n13 (k + 1) ∧ Ey w w' b f f' K (kk :: K) := by
  have x13 : xd 13 = xs 13 ++ [v] := by subst ed ec eb ea; simp [putl]
  have x14 : xd 14 = xs 14 ++ [u2] := by subst ed ec eb ea; simp [putl]
  have x15 : xd 15 = xs 15 := by subst ed ec eb ea; simp [putl]
  have x16 : xd 16 = xs 16 := by subst ed ec eb ea; simp [putl]
  have x17 : xd 17 = xs 17 ++ [v] := by subst ed ec eb ea; simp [putl]
  have x18 : xd 18 = xs 18 := by subst ed ec eb ea; simp [putl]
  have x19 : xd 19 = xs 19 := by subst ed ec eb ea; simp [putl]
  have x20 : xd 20 = ints (fm ++ [m]) := by subst ed ec eb ea; simp [putl, h.e20, ints]
  clear ea eb ec ed
  have hkl : k < A.length := (List.getElem?_eq_some_iff.1 hv).1
  have hdA : A.drop k = v :: A.drop (k + 1) := by
    rw [List.drop_eq_getElem_cons hkl]
    rw [List.getElem?_eq_getElem hkl] at hv; simp at hv; rw [hv]
  have hD := h.dst
  rw [hdA] at hD
  obtain ⟨n1, n2⟩ := hD.ne
  have sN : ∀ y, y ∈ N.drop (k + 1) → y ∈ N.drop k := fun y hy => by
    rw [← List.drop_drop] at hy
    exact List.mem_of_mem_drop hy
  have ne1 : ∀ y, y ∈ xs 15 ++ A.drop (k + 1) → ∀ q, y.ownBlock = some q → q ∉ v.ownBlock.toList := fun y hy q hq hm => n1 y hy q (by simpa using hm) hq
  have ne2 : ∀ y, y ∈ xs 13 ++ xs 14 ++ xs 16 ++ xs 17 ++ N.drop k ++ [vA, vN, vM, vD] → ∀ q, y.ownBlock = some q → q ∉ v.ownBlock.toList := fun y hy q hq hm => n2 y hy q (by simpa using hm) hq
  have hgo : ∀ q, q ∈ v.ownBlock.toList → ¬ Own b f q := fun q hq ho => h.iv.ownK ho (hgK q (by simpa using hq))
  have iv1 : Iv wb base b f xs K := h.iv.keep ht hgo
  have pr1 : Prs wb K (xs 13) (xs 14) := h.pr.keepNe ht (fun y hy => ne2 y (by simp [hy])) (fun y hy => ne2 y (by simp [hy]))
  have wt1 : Wts wb base K (xs 15) (xs 16) ms1 := h.wt.keep ht (fun _ h => h) (fun y hy => ne1 y (by simp [hy])) (fun y hy => ne2 y (by simp [hy]))
  have fr1 : Frs wb base K 0 (xs 17) fm := h.fr.keepNe ht (fun y hy => ne2 y (by simp [hy]))
  have rs1 : Wts wb base K (A.drop (k + 1)) (N.drop (k + 1)) (ms.drop (k + 1)) := h.rs.tail.keep ht (fun _ h => h) (fun y hy => ne1 y (by simp [hy])) (fun y hy => ne2 y (by simp [sN y hy]))
  have lon2 : Row w' base v l' := by
    obtain ⟨G, t1, t2⟩ := hE.t
    exact row_keep2 hlon t1 (fun g hg hm => iv1.ownK (t2 g hm) (hgK g hg))
  have hgK2 : ∀ g, v.ownBlock = some g → g ∈ kk :: K := fun g hg => by simp [hgK g hg]
  have far2 : ∀ y, (∀ g, y.ownBlock = some g → g ∈ K) → Far y u2 := fun y hy g hg e => by
    rw [hkk] at e; simp at e; subst e
    have := (h.iv.kin _ (hy _ hg)).2
    omega
  refine ⟨⟨hI, ?_, ?_, by rw [x18]; exact h.e18, by rw [x19]; exact h.e19, by rw [x15]; exact h.l19, ?_, x20, hE.wts iv1 rs1, hE.rd iv1 (h.rA.keep ht (ne2 vA (by simp))), hE.rd iv1 (h.rN.keep ht (ne2 vN (by simp))), hE.rd iv1 (h.rM.keep ht (ne2 vM (by simp))), hE.rd iv1 (h.rD.keep ht (ne2 vD (by simp))), ?_, ?_, fun j hj => (hf j hj).trans (h.fx j hj), ?_⟩, ?_⟩
  · rw [x13, x14]
    exact (hE.prs iv1 pr1).snoc _ _ l' (Rd.row lon2 hgK2) hu2 (by omega)
  · rw [x15, x16]; exact hE.wts iv1 wt1
  · rw [x17]; exact (hE.frs iv1 fr1).snoc h3 h4 lon2 hgK2 h16
  · rw [x13, x14, x15, x16, x17]
    have hn : ∀ y, y ∈ xs 15 ++ A.drop (k + 1) → Far y u2 := fun y hy => far2 y (by
      rcases List.mem_append.1 hy with hy | hy
      · exact h.wt.inA hy
      · exact h.rs.tail.inA hy)
    have h1 := hD.move.cons hn
    refine ⟨h1.one, fun y hy z hz => h1.two y hy z ?_⟩
    simp only [List.mem_append, List.mem_cons, List.not_mem_nil, or_false] at hz ⊢
    rcases hz with (((((hz | hz) | (hz | hz)) | hz) | (hz | hz)) | hz) | hz
    all_goals first | (simp [hz]; done) | (simp [sN z hz])
  · rw [x13, x14, x16, x17]
    refine h.fs.snoc (fun u hu => n2 u (by simp [hu])) (fun x hx => ?_) (fun x hx => ?_)
    · simp only [List.mem_append, List.mem_cons, List.not_mem_nil, or_false] at hx
      rcases hx with (hx | hx) | (hx | hx)
      · exact .inl ⟨by simp [hx], n2 x (by simp [hx])⟩
      · exact .inr (.inl hx)
      · exact .inl ⟨by simp [hx], n2 x (by simp [hx])⟩
      · rw [hx]
        exact .inr (.inr ⟨far2 v hgK, fun u hu => far2 u (h.fr.inK hu)⟩)
    · rcases List.mem_append.1 hx with hx | hx
      · exact ⟨n2 x (by simp [hx]), by simp [hx]⟩
      · exact ⟨n2 x (by simp [sN x hx]), by simp [sN x hx]⟩
  · rw [x15, x17, x13]
    have := h.ln
    exact ⟨by simp; omega, by simp; omega⟩
  · have e1 : Ey w wb b f f K K := ⟨⟨_, ht, fun q hq => .inr (hgK q (by simpa using hq))⟩, fun q hq => .inl hq, fun q hq => hq, fun q hq => .inl hq⟩
    exact e1.trans hE.ey

end Go.Proofs.YtcijdbhabbepaaaGreatDoor.Kg
