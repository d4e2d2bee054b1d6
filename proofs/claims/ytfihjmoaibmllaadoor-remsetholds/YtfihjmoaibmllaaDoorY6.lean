/-
  An arena that holds things: Put and Fill.
-/
import Derived.Test.YtfihjmoaibmllaaDoorY5
set_option linter.unusedVariables false
set_option maxRecDepth 20000
namespace Go.Proofs.YtfihjmoaibmllaaDoor
open Go.RowKit Go.Shelf

section
variable {w w' : World} {b g : Nat} {c : Cfg} {x : Tps} {sw : Bool} {ws : Nat → Int} {th : List Tng}

theorem Ax.put (H : Ax w b g c x sw ws th) (S s k p r a t : Int) (h : Bool) (no : Nat) (hS : 1 ≤ S ∧ S ≤ 4) (hs : Wd s) (hf : flt k p r a t = 0) (hn : x.top S + (2 + p + r) ≤ bhd c S) :
    Calls Tryd.prog 34 #[.pointer (some ⟨b, 0, none⟩), .int .i64 S, hv s k p r a t h] w fun e w' => e = .returned (.tuple #[.int .i64 (x.top S), .bool true]) ∧ Touch [b, g] w w' ∧ ∃ ws', Ar w' b g c (x.put S (x.top S + (2 + p + r))) sw ws' ∧ Hld c (x.put S (x.top S + (2 + p + r))) ws' (th ++ [⟨x.top S, S, s, k, p, r, a, t, h, no, List.replicate p.toNat 0, List.replicate r.toNat 0⟩]) := by
  have may := May.of hf
  have hp0 : 0 ≤ p ∧ 0 ≤ r ∧ p ≤ 4095 ∧ r ≤ 65535 := by obtain ⟨h1, h2, h3, h4, h5, h6, h7, h8, h9, h10, h11, h12⟩ := may; omega
  obtain ⟨s0, rfl⟩ : ∃ s0 : Nat, S = s0 := ⟨S.toNat, by omega⟩
  have hsub := H.ar.sub_in s0
  have hw := H.ar.words
  obtain ⟨q, hq⟩ : ∃ q : Nat, x.top s0 = q := ⟨(x.top s0).toNat, by omega⟩
  obtain ⟨n, hn2⟩ : ∃ n : Nat, (n : Int) = 2 + p + r := ⟨(2 + p + r).toNat, by omega⟩
  obtain ⟨e1, e2, e3, e4, e5, e6, -, -⟩ := parts_wrd (h := h) may
  have hhd := head_wrd (h := h) may
  refine (put_yes b g c x sw ws s0 s k p r a t h hs hf q n hq hn2 (by omega) w H.ar H.la).mono ?_
  rintro e w' ⟨rfl, hA', t'⟩
  have hwp : ∀ y, wat c (putw ws q n (wrd k p r a t h) s) y = if y = (q : Int) + 1 then s else if y = q then wrd k p r a t h else if (q : Int) ≤ y ∧ y < q + n then 0 else wat c ws y := fun y => by
    unfold putw
    rw [wat_upd c _ (q + 1) s y (by omega), wat_upd c _ q _ y (by omega), wat_zer]
    push_cast
    rfl
  have hpt : ((p.toNat : Nat) : Int) = p := by omega
  have hrt : ((r.toNat : Nat) : Int) = r := by omega
  have hput := H.hl.put (ws' := putw ws q n (wrd k p r a t h) s) H.ar s0 (by omega) (by omega) ⟨q, s0, s, k, p, r, a, t, h, no, List.replicate p.toNat 0, List.replicate r.toNat 0⟩ hq.symm rfl hp0.1 hp0.2.1 (by show x.top s0 + (2 + p + r) ≤ _; omega) (fun y hy => by
      have hy' : y < x.top s0 ∨ x.top s0 + (2 + p + r) ≤ y := hy
      rw [hwp, if_neg (by omega), if_neg (by omega), if_neg (by omega)]) (by rw [hwp, if_neg (by omega), if_pos hq]; exact hhd) (by
      show wat c _ ((q : Int) + 1) = s ∧ kdOf (wat c _ (q : Int)) = k ∧ ptOf (wat c _ (q : Int)) = p ∧ rwOf (wat c _ (q : Int)) = r ∧ agOf (wat c _ (q : Int)) = a ∧ stOf (wat c _ (q : Int)) = t ∧ hdOf (wat c _ (q : Int)) = h
      rw [hwp, hwp, if_pos rfl, if_neg (by omega), if_pos rfl]
      exact ⟨rfl, e1, e2, e3, e4, e5, e6⟩) (by simp [hpt]) (by simp [hrt]) (fun f z hz => by
      have hz' : (List.replicate p.toNat (0 : Int))[f]? = some z := hz
      have hfl0 := (List.getElem?_eq_some_iff.1 hz').1
      rw [List.length_replicate] at hfl0
      have hz0 : z = 0 := by rw [List.getElem?_replicate, if_pos hfl0] at hz'; simpa using hz'.symm
      have hfl : (f : Int) < p := by omega
      show wat c _ ((q : Int) + 2 + f) = z ∧ z < c.words
      rw [hwp, if_neg (by omega), if_neg (by omega), if_pos (by omega), hz0]
      exact ⟨rfl, by omega⟩) (fun f z hz => by
      have hz' : (List.replicate r.toNat (0 : Int))[f]? = some z := hz
      have hfl0 := (List.getElem?_eq_some_iff.1 hz').1
      rw [List.length_replicate] at hfl0
      have hz0 : z = 0 := by rw [List.getElem?_replicate, if_pos hfl0] at hz'; simpa using hz'.symm
      have hfl : (f : Int) < r := by omega
      show wat c _ ((q : Int) + 2 + p + f) = z
      rw [hwp, if_neg (by omega), if_neg (by omega), if_pos (by omega), hz0])
  rw [hn2] at hA'
  have hput' : Hld c (x.put s0 (x.top s0 + (2 + p + r))) (putw ws q n (wrd k p r a t h) s) (th ++ [⟨q, s0, s, k, p, r, a, t, h, no, List.replicate p.toNat 0, List.replicate r.toNat 0⟩]) := hput
  rw [hq] at hput' ⊢
  exact ⟨rfl, t', _, hA', hput'⟩

theorem Ax.fill (H : Ax w b g c x sw ws th) (S n : Int) (hS : 1 ≤ S ∧ S ≤ 4) (h0 : 0 < n) (hn : x.top S + n ≤ bhd c S) :
    Calls Tryd.prog 33 #[.pointer (some ⟨b, 0, none⟩), .int .i64 S, .int .i64 n] w fun e w' => e = .returned (.bool true) ∧ Touch [b, g] w w' ∧ ∃ ws', Ar w' b g c (x.put S (x.top S + n)) sw ws' ∧ Hld c (x.put S (x.top S + n)) ws' th := by
  obtain ⟨s0, rfl⟩ : ∃ s0 : Nat, S = s0 := ⟨S.toNat, by omega⟩
  obtain ⟨n, rfl⟩ : ∃ n0 : Nat, n = n0 := ⟨n.toNat, by omega⟩
  have hsub := H.ar.sub_in s0
  have hw := H.ar.words
  obtain ⟨q, hq⟩ : ∃ q : Nat, x.top s0 = q := ⟨(x.top s0).toNat, by omega⟩
  refine (fill_yes b g c x sw ws s0 q n hq (by omega) (by omega) w H.ar).mono ?_
  rintro e w' ⟨rfl, hA', t'⟩
  have hwp : ∀ y, wat c (upd (zer ws q n) q ((n : Int) * 4 + 3)) y = if y = q then (n : Int) * 4 + 3 else if (q : Int) ≤ y ∧ y < q + n then 0 else wat c ws y := fun y => by
    rw [wat_upd c _ q _ y (by omega), wat_zer]
  have := H.hl.fill (ws' := upd (zer ws q n) q ((n : Int) * 4 + 3)) H.ar s0 (by omega) (by omega) n (by omega) (by omega) (fun y hy => by rw [hwp, if_neg (by omega), if_neg (by omega)]) (by rw [hq, hwp, if_pos rfl]; unfold IsTag; omega) (by rw [hq, hwp, if_pos rfl]; omega)
  rw [hq] at this ⊢
  exact ⟨rfl, t', _, hA', this⟩
end

end Go.Proofs.YtfihjmoaibmllaaDoor
