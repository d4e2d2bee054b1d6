/-
  Both: any Put, into eden, Room, Rest, Retire, SetRaw, Cut.
-/
import Derived.Test.YtpiemfchjlihfaaGreatDoorPB2
import Derived.Test.YtpiemfchjlihfaaGreatDoorPBc
import Derived.Test.YtpiemfchjlihfaaGreatDoorPHa
set_option linter.unusedVariables false
set_option maxRecDepth 20000
namespace Go.Proofs.YtpiemfchjlihfaaGreatDoor
open Go.RowKit Go.Shelf

/-- What is there behind a Put of both. -/
def Nxt (n0 : Nat) (b ab ag vb ga gr N rb : Nat) (g : Nat → Nat) (c : Cfg) (Th : List Ob) (z : Int) (ok : Bool) (w : World) : Prop :=
  ∃ top ws B at_ rs L Th', Pc n0 w b ab ag vb ga gr N rb g c top ws B at_ rs L Th' ∧ ((ok = false ∧ Th' = Th) ∨ (ok = true ∧ ∃ T : Ob, z = T.at_ ∧ Th' = Th ++ [T]))

section
variable {n0 : Nat} {w w' : World} {b ab ag vb ga gr N rb : Nat} {g : Nat → Nat} {c : Cfg} {top : Nat} {ws : Nat → Int} {B : Bfs} {at_ rs : Nat → Int} {L : List Sg} {Th : List Ob}

theorem Both.nxt {size s k a y : Int} {p r : Nat} {hh : Bool} {z : Int} {ok : Bool} (h : Both n0 b ab ag vb ga gr N rb g c size Th s k a y p r hh z ok w) : Nxt n0 b ab ag vb ga gr N rb g c Th z ok w := by
  obtain ⟨top', ws', B', at', rs', L', -, h1, h2⟩ := h
  cases ok with
  | false => exact ⟨_, _, _, _, _, _, Th, h1 rfl, .inl ⟨rfl, rfl⟩⟩
  | true =>
    obtain ⟨q, hz, h3⟩ := h2 rfl
    exact ⟨_, _, _, _, _, _, _, h3, .inr ⟨rfl, ⟨q, s, k, p, r, a, y, hh, fun _ => 0, 0⟩, hz, rfl⟩⟩

theorem Pc.putAny (S : Pc n0 w b ab ag vb ga gr N rb g c top ws B at_ rs L Th) (T s k p r a y : Int) (hh : Bool) (hs : Wd s) :
    ∃ (z : Int) (ok : Bool), Calls Tryz.prog 15 #[.pointer (some ⟨b, 0, none⟩), .pointer (some ⟨ab, 0, none⟩), .int .i64 T, hv s k p r a y hh] w fun e w1 => e = .returned (.tuple #[.int .i64 z, .bool ok]) ∧ Touch [b, ab, ag] w w1 ∧ ∀ w2, Below w1.heap.size w1 w2 →
      Calls Tryz.prog 16 #[.pointer (some ⟨vb, 0, none⟩), .pointer (some ⟨rb, 0, none⟩), .int .i64 T, hv s k p r a y hh] w2 fun e w3 => e = .returned (.tuple #[.int .i64 z, .bool ok]) ∧ Touch (rzf vb ga gr rb g) w2 w3 ∧ Nxt n0 b ab ag vb ga gr N rb g c Th z ok w3 := by
  by_cases hT : 0 ≤ T ∧ T < N
  · by_cases hf : flt k p r a y = 0
    · have m := May.of hf
      obtain ⟨t, rfl⟩ : ∃ t : Nat, T = t := ⟨T.toNat, by omega⟩
      obtain ⟨p', rfl⟩ : ∃ n : Nat, p = n := ⟨p.toNat, by have := m.p0; omega⟩
      obtain ⟨r', rfl⟩ : ∃ n : Nat, r = n := ⟨r.toNat, by have := m.r0; omega⟩
      obtain ⟨z, ok, h⟩ := S.put t (by omega) s k a y p' r' hh hs hf
      exact ⟨z, ok, h.mono fun e w1 ⟨e1, e2, e3⟩ => ⟨e1, e2, fun w2 l2 => (e3 w2 l2).mono fun e w3 ⟨f1, f2, f3⟩ => ⟨f1, f2, f3.nxt⟩⟩⟩
    · refine ⟨0, false, (bput_no S.bw.bf S.bw.ld T s k p r a y hh (.inr hf) _).mono ?_⟩
      rintro e w1 ⟨rfl, l1⟩
      refine ⟨rfl, Touch.of_below l1 _, fun w2 l2 => (r13put_no ((S.below l1).below l2).rz.bu T s k p r a y hh (.inr hf) _).mono ?_⟩
      rintro e w3 ⟨rfl, l3⟩
      exact ⟨rfl, Touch.of_below l3 _, _, _, _, _, _, _, Th, ((S.below l1).below l2).below l3, .inl ⟨rfl, rfl⟩⟩
  · refine ⟨0, false, (bput_no S.bw.bf S.bw.ld T s k p r a y hh (.inl (by rw [S.nn]; exact hT)) _).mono ?_⟩
    rintro e w1 ⟨rfl, l1⟩
    refine ⟨rfl, Touch.of_below l1 _, fun w2 l2 => (r13put_no ((S.below l1).below l2).rz.bu T s k p r a y hh (.inl hT) _).mono ?_⟩
    rintro e w3 ⟨rfl, l3⟩
    exact ⟨rfl, Touch.of_below l3 _, _, _, _, _, _, _, Th, ((S.below l1).below l2).below l3, .inl ⟨rfl, rfl⟩⟩

theorem Pc.edenAny (S : Pc n0 w b ab ag vb ga gr N rb g c top ws B at_ rs L Th) (s k p r a y : Int) (hh : Bool) (hs : Wd s) :
    ∃ (z : Int) (ok : Bool), Calls Tryz.prog 17 #[.pointer (some ⟨ab, 0, none⟩), .int .i64 1, hv s k p r a y hh] w fun e w1 => e = .returned (.tuple #[.int .i64 z, .bool ok]) ∧ Touch [b, ab, ag] w w1 ∧ ∀ w2, Below w1.heap.size w1 w2 →
      Calls Tryz.prog 18 #[.pointer (some ⟨rb, 0, none⟩), .int .i64 1, hv s k p r a y hh] w2 fun e w3 => e = .returned (.tuple #[.int .i64 z, .bool ok]) ∧ Touch (rzf vb ga gr rb g) w2 w3 ∧ Nxt n0 b ab ag vb ga gr N rb g c Th z ok w3 := by
  have hB := S.bw
  obtain ⟨htop, htop2, htop0⟩ := S.topl
  by_cases hf : flt k p r a y = 0
  · have m := May.of hf
    obtain ⟨p', rfl⟩ : ∃ n : Nat, p = n := ⟨p.toNat, by have := m.p0; omega⟩
    obtain ⟨r', rfl⟩ : ∃ n : Nat, r = n := ⟨r.toNat, by have := m.r0; omega⟩
    by_cases hc : ((2 + p' + r' : Nat) : Int) ≤ 1 + c.eden - top
    · obtain ⟨L', hL'⟩ := S.wo.eden (gr := 0) hh hf hs
      refine ⟨top, true, (put_yes ab ag c (xt c top) false ws 1 s k p' r' a y hh hs hf top (2 + p' + r') rfl (by omega) (by show (top : Int) + (2 + p' + r' : Nat) ≤ 1 + c.eden; omega) w hB.ar hB.ld).mono ?_⟩
      rintro e w1 ⟨rfl, a1, t1⟩
      have hn : b ∉ [ab, ag] := by simp only [List.mem_cons, List.not_mem_nil, or_false, not_or]; exact hB.ne
      have t2 : Touch [b, ab, ag] w w1 := (Touch.refl _ _).then t1 (fun z hz => .inl (List.mem_cons_of_mem _ hz))
      have b1 : Bw n0 w1 b ab ag c (xt c (top + (2 + p' + r'))) (putw ws top (2 + p' + r') (wrd k p' r' a y hh) s) B := ⟨hB.bf.touch t1 hn, a1, hB.ld.touch t2 hB.glob.1 hB.glob.2, hB.ne, hB.lo, hB.gl, fun u hu => (hB.rs u hu).other (by show (top : Int) ≤ ((top + (2 + p' + r') : Nat) : Int); omega) rfl rfl⟩
      refine ⟨rfl, t2, fun w2 l2 => ?_⟩
      have r2 := (S.rzat t2).below l2
      refine (rput_yes rb g c (xt c top) false ws 1 (by omega) (by omega) s k p' r' a y hh hf top (2 + p' + r') rfl (by omega) (by show (top : Int) + (2 + p' + r' : Nat) ≤ 1 + c.eden; omega) w2 r2.ar).mono ?_
      rintro e w3 ⟨rfl, a3, t3⟩
      exact ⟨rfl, touch_rz t3, top + (2 + p' + r'), _, B, at_, rs, L', _, S.made (b1.below l2) (touch_rz t3) (r2.word t3 a3) hL' S.rel rfl, .inr ⟨rfl, _, rfl, rfl⟩⟩
    · refine ⟨0, false, (put_full ab ag c (xt c top) false ws 1 s k p' r' a y hh hf (by show ¬ (2 : Int) + p' + r' ≤ 1 + c.eden - top; omega) w hB.ar hB.ld).mono ?_⟩
      rintro e w1 ⟨rfl, l1⟩
      refine ⟨rfl, Touch.of_below l1 _, fun w2 l2 => (rput_full rb g c (xt c top) false ws 1 s k p' r' a y hh hf (by show ¬ (2 : Int) + p' + r' ≤ 1 + c.eden - top; omega) w2 ((S.below l1).below l2).rz.ar).mono ?_⟩
      rintro e w3 ⟨rfl, l3⟩
      exact ⟨rfl, Touch.of_below l3 _, _, _, _, _, _, _, Th, ((S.below l1).below l2).below l3, .inl ⟨rfl, rfl⟩⟩
  · refine ⟨0, false, (put_bad ab ag 1 s k p r a y hh hf w hB.ld).mono ?_⟩
    rintro e w1 ⟨rfl, l1⟩
    refine ⟨rfl, Touch.of_below l1 _, fun w2 l2 => (rput_bad rb 1 s k p r a y hh hf w2).mono ?_⟩
    rintro e w3 ⟨rfl, l3⟩
    exact ⟨rfl, Touch.of_below l3 _, _, _, _, _, _, _, Th, ((S.below l1).below l2).below l3, .inl ⟨rfl, rfl⟩⟩

theorem Pc.room (S : Pc n0 w b ab ag vb ga gr N rb g c top ws B at_ rs L Th) (T : Int) :
    ∃ v : Int, (∀ w2, Below w.heap.size w w2 → Calls Tryz.prog 19 #[.pointer (some ⟨b, 0, none⟩), .pointer (some ⟨ab, 0, none⟩), .int .i64 T] w2 fun e w3 => e = .returned (.int .i64 v) ∧ Below w2.heap.size w2 w3) ∧
      (∀ w2, Below w.heap.size w w2 → Calls Tryz.prog 20 #[.pointer (some ⟨vb, 0, none⟩), .pointer (some ⟨rb, 0, none⟩), .int .i64 T] w2 fun e w3 => e = .returned (.int .i64 v) ∧ Below w2.heap.size w2 w3) := by
  by_cases hT : 0 ≤ T ∧ T < N
  · obtain ⟨t, rfl⟩ : ∃ t : Nat, T = t := ⟨T.toNat, by omega⟩
    have ht : t < N := by omega
    refine ⟨max (B.ws t) (bhd c 1 - (xt c top).top 1), fun w2 l2 => broom_yes (S.below l2).bw.bf t (by rw [S.nn]; omega) (S.below l2).bw.ar, fun w2 l2 => ?_⟩
    have := r13room_yes (S.below l2).rz.bu t ht (S.below l2).rz.ar
    rw [(S.rel t ht).1] at this
    exact this
  · exact ⟨0, fun w2 l2 => (broom_no (S.below l2).bw.bf T (by rw [S.nn]; exact hT) _).mono fun e w3 ⟨e1, e2⟩ => ⟨e1, e2 ▸ Below.refl _ _⟩, fun w2 l2 => (r13room_no (S.below l2).rz.bu T hT _).mono fun e w3 ⟨e1, e2⟩ => ⟨e1, e2 ▸ Below.refl _ _⟩⟩

theorem Pc.rest (S : Pc n0 w b ab ag vb ga gr N rb g c top ws B at_ rs L Th) (T : Int) :
    ∃ q v : Int, (∀ w2, Below w.heap.size w w2 → Calls Tryz.prog 21 #[.pointer (some ⟨b, 0, none⟩), .int .i64 T] w2 fun e w3 => e = .returned (.tuple #[.int .i64 q, .int .i64 v]) ∧ Below w2.heap.size w2 w3) ∧
      (∀ w2, Below w.heap.size w w2 → Calls Tryz.prog 22 #[.pointer (some ⟨vb, 0, none⟩), .int .i64 T] w2 fun e w3 => e = .returned (.tuple #[.int .i64 q, .int .i64 v]) ∧ Below w2.heap.size w2 w3) := by
  by_cases hT : 0 ≤ T ∧ T < N
  · obtain ⟨t, rfl⟩ : ∃ t : Nat, T = t := ⟨T.toNat, by omega⟩
    have ht : t < N := by omega
    have ht8 : t < 8 := by have := S.rz.bu.n1.2; omega
    have hR := S.bw.rs t ht8
    obtain ⟨h1, h2⟩ := S.rel t ht
    refine ⟨B.at_ t, B.ws t, fun w2 l2 => brest_yes (S.below l2).bw.bf t (by rw [S.nn]; omega), fun w2 l2 => r13rest_yes (S.below l2).rz.bu t ht _ _ (fun h0 => ?_) (fun h0 => ?_)⟩
    · rw [h1] at h0
      exact ⟨hR.z h0, h0⟩
    · rw [h1] at h0 ⊢
      exact ⟨(h2 (by have := hR.n0; omega)).symm, rfl⟩
  · exact ⟨0, 0, fun w2 l2 => (brest_no (S.below l2).bw.bf T (by rw [S.nn]; exact hT)).mono fun e w3 ⟨e1, e2⟩ => ⟨e1, e2 ▸ Below.refl _ _⟩, fun w2 l2 => (r13rest_no (S.below l2).rz.bu T hT).mono fun e w3 ⟨e1, e2⟩ => ⟨e1, e2 ▸ Below.refl _ _⟩⟩

/-- The program's Retire. -/
theorem Pc.retireA (S : Pc n0 w b ab ag vb ga gr N rb g c top ws B at_ rs L Th) (A : Value) : Calls Tryz.prog 23 #[.pointer (some ⟨b, 0, none⟩), A] w fun e w1 => e = .returned (.tuple #[]) ∧ Touch [b, ab, ag] w w1 ∧ Bw n0 w1 b ab ag c (xt c top) ws (bfs0 B.n B.size) := by
  have hB := S.bw
  refine (bretire_any hB.bf A).mono ?_
  rintro e w1 ⟨rfl, b1, t1⟩
  have t2 : Touch [b, ab, ag] w w1 := (Touch.refl _ _).then t1 (fun z hz => .inl (by simp only [List.mem_cons, List.not_mem_nil, or_false] at hz ⊢; exact .inl hz))
  exact ⟨rfl, t2, b1, hB.ar.touch t1 (by simp only [List.mem_cons, List.not_mem_nil, or_false]; exact hB.ne.1.symm) (by simp only [List.mem_cons, List.not_mem_nil, or_false]; exact hB.ne.2.symm), hB.ld.touch t2 hB.glob.1 hB.glob.2, hB.ne, hB.lo, hB.gl, fun t _ => ⟨Int.le_refl _, fun _ => rfl, fun h => absurd h (Int.lt_irrefl 0), fun h => absurd h (Int.lt_irrefl 0)⟩⟩

/-- And the document's. -/
theorem Pc.retireB (S : Pc n0 w b ab ag vb ga gr N rb g c top ws B at_ rs L Th) {w1 w2 : World} (t1 : Touch [b, ab, ag] w w1) (h1 : Bw n0 w1 b ab ag c (xt c top) ws (bfs0 B.n B.size)) (l2 : Below w1.heap.size w1 w2) (A : Value) :
    Calls Tryz.prog 24 #[.pointer (some ⟨vb, 0, none⟩), A] w2 fun e w3 => e = .returned (.tuple #[]) ∧ Touch (rzf vb ga gr rb g) w2 w3 ∧ Pc n0 w3 b ab ag vb ga gr N rb g c top ws (bfs0 B.n B.size) (fun _ => 0) (fun _ => 0) L Th := by
  have r2 := (S.rzat t1).below l2
  refine (r13retire_any r2.bu A).mono ?_
  rintro e w3 ⟨rfl, r3, t3⟩
  have t4 : Touch (rzf vb ga gr rb g) w2 w3 := (Touch.refl _ _).then t3 (fun z hz => .inl (List.mem_append.2 (.inl hz)))
  exact ⟨rfl, t4, S.made (h1.below l2) t4 ⟨r3, r2.ar.touch t3 (fun q hq hm => r2.ap q hm hq), r2.ap⟩ S.wo.retire (fun t _ => ⟨rfl, fun h => absurd h (Int.lt_irrefl 0)⟩) rfl⟩

/-- An object that was put stands. -/
theorem Pc.stands (S : Pc n0 w b ab ag vb ga gr N rb g c top ws B at_ rs L Th) {T : Ob} (hT : T ∈ Th) : spc c T.at_ = 1 ∧ (T.at_ : Int) < top ∧ Stands c ws top T.at_ ∧ wat c ws T.at_ = T.m ∧ T.at_ + T.n ≤ top ∧ ptOf T.m = T.p ∧ rwOf T.m = T.r := by
  have hI := S.wo.th T hT
  have hin := hI.at_.in
  have htop := S.wo.ch.top
  have hl := S.topl
  have hTn : T.n = 2 + T.p + T.r := rfl
  simp only at hin
  have hs := S.wo.ch.is hI.at_
  have s0 := S.bw.ar.ok.s0
  have t0 := S.bw.ar.ok.t0
  have hwat : ∀ j : Nat, j < top → wat c ws j = ws j := fun j hj => by
    unfold wat
    rw [if_pos ⟨by omega, by unfold Cfg.words; omega⟩]
    simp
  have e0 : wat c ws T.at_ = T.m := (hwat _ (by omega)).trans hs.1
  obtain ⟨-, h2, h3, -⟩ := parts_wrd (h := T.h) (May.of hI.f)
  refine ⟨?_, by omega, ⟨by rw [e0]; exact hs.2.1, ?_⟩, e0, by omega, h2, h3⟩
  · unfold spc
    rw [if_neg (by omega), if_pos (by omega)]
  · unfold osz
    rw [e0, hs.2.2.1]
    show ((T.n : Nat) : Int) ≤ _
    omega

/-- A raw field is set in both. -/
theorem Pc.raw (S : Pc n0 w b ab ag vb ga gr N rb g c top ws B at_ rs L Th) {i : Nat} {T : Ob} (hi : Th[i]? = some T) (I v : Int) (hv : Wd v) :
    ∃ ok : Bool, Calls Tryz.prog 26 #[.pointer (some ⟨ab, 0, none⟩), .int .i64 T.at_, .int .i64 I, .int .u64 v] w fun e w1 => e = .returned (.bool ok) ∧ Touch [b, ab, ag] w w1 ∧ ∀ w2, Below w1.heap.size w1 w2 →
      Calls Tryz.prog 27 #[.pointer (some ⟨rb, 0, none⟩), .int .i64 T.at_, .int .i64 I, .int .u64 v] w2 fun e w3 => e = .returned (.bool ok) ∧ Touch (rzf vb ga gr rb g) w2 w3 ∧ ∃ ws' Th', Th'.map (fun T => (T.at_ : Int)) = Th.map (fun T => (T.at_ : Int)) ∧ Pc n0 w3 b ab ag vb ga gr N rb g c top ws' B at_ rs L Th' := by
  have hB := S.bw
  have hTm := List.mem_of_getElem? hi
  obtain ⟨h1, h2, h3, h4, h5, h6, h7⟩ := S.stands hTm
  have hat : At c (xt c top) ws T.at_ := ⟨by rw [h1]; decide, by rw [h1]; exact h2, by rw [h1]; exact h3⟩
  have hw : Wd (wat c ws T.at_) := by rw [h4]; exact wrd_wd (May.of (S.wo.th T hTm).f)
  by_cases hI : 0 ≤ I ∧ I < T.r
  · obtain ⟨j, rfl⟩ : ∃ j : Nat, I = j := ⟨I.toNat, by omega⟩
    have hj : j < T.r := by omega
    refine ⟨true, (setRaw_in ab ag c (xt c top) false ws T.at_ 1 j v hv h1 (by decide) h2 h3 (by rw [h4, h7]; omega) w hB.ar hB.ld).mono ?_⟩
    rintro e w1 ⟨rfl, a1, t1⟩
    have e9 : (T.at_ : Int).toNat + (2 + (ptOf (wat c ws T.at_)).toNat) + j = T.at_ + 2 + T.p + j := by rw [h4, h6]; omega
    rw [e9] at a1
    have t2 : Touch [b, ab, ag] w w1 := (Touch.refl _ _).then t1 (fun z hz => .inl (by simp only [List.mem_cons, List.not_mem_nil, or_false] at hz ⊢; exact .inr (.inr hz)))
    have hbn : b ∉ [ag] := by simp only [List.mem_cons, List.not_mem_nil, or_false]; exact hB.ne.2
    have b1 : Bw n0 w1 b ab ag c (xt c top) (upd ws (T.at_ + 2 + T.p + j) v) B := ⟨hB.bf.touch t1 hbn, a1, hB.ld.touch t2 hB.glob.1 hB.glob.2, hB.ne, hB.lo, hB.gl, hB.rs⟩
    refine ⟨rfl, t2, fun w2 l2 => ?_⟩
    have r2 := (S.rzat t2).below l2
    refine (rsetRaw_yes rb g c (xt c top) false ws T.at_ j v hat (by omega) (by rw [h4, h7]; omega) hw w2 r2.ar).mono ?_
    rintro e w3 ⟨rfl, a3, t3⟩
    have e8 : ((T.at_ : Int) + 2 + ptOf (wat c ws T.at_) + j).toNat = T.at_ + 2 + T.p + j := by rw [h4, h6]; omega
    rw [e8] at a3
    refine ⟨rfl, touch_rz t3, _, Th.set i { T with raws := upd T.raws j v }, ?_, S.made (b1.below l2) (touch_rz t3) (r2.word t3 a3) (S.wo.raw hi hj hv) S.rel rfl⟩
    have hil : i < Th.length := (List.getElem?_eq_some_iff.1 hi).1
    rw [List.map_set]
    apply List.ext_getElem?
    intro q
    rw [List.getElem?_set]
    split
    · rename_i e
      subst e
      rw [List.getElem?_map, hi]
      simp [hil]
    · rfl
  · refine ⟨false, (setRaw_out ab ag c (xt c top) false ws T.at_ 1 I v h1 (by decide) h2 h3 (by rw [h4, h7]; exact hI) w hB.ar hB.ld).mono ?_⟩
    rintro e w1 ⟨rfl, l1⟩
    refine ⟨rfl, Touch.of_below l1 _, fun w2 l2 => (rsetRaw_no rb g c (xt c top) false ws T.at_ I v (fun hh => hI (by have := hh.2; rw [h4, h7] at this; exact this)) hw w2 ((S.below l1).below l2).rz.ar).mono ?_⟩
    rintro e w3 ⟨rfl, l3⟩
    exact ⟨rfl, Touch.of_below l3 _, ws, Th, rfl, ((S.below l1).below l2).below l3⟩

/-- Eden is emptied, behind Retire: the program's. -/
theorem Pc.cutA (S : Pc n0 w b ab ag vb ga gr N rb g c top ws (bfs0 B.n B.size) at_ rs L Th) : Calls Tryz.prog 28 #[.pointer (some ⟨ab, 0, none⟩), .int .i64 1, .int .i64 1] w fun e w1 => e = .returned (.bool true) ∧ Touch [b, ab, ag] w w1 ∧ Bw n0 w1 b ab ag c (xt c 1) ws (bfs0 B.n B.size) := by
  have hB := S.bw
  obtain ⟨htop, htop2, htop0⟩ := S.topl
  refine (cut_yes ab ag c (xt c top) false ws 1 1 (by decide) (by show (1 : Int) ≤ 1; decide) (by show (1 : Int) ≤ (top : Int); omega) w hB.ar).mono ?_
  rintro e w1 ⟨rfl, a1, t1⟩
  have t2 : Touch [b, ab, ag] w w1 := (Touch.refl _ _).then t1 (fun z hz => .inl (by simp only [List.mem_cons, List.not_mem_nil, or_false] at hz ⊢; exact .inr (.inl hz)))
  have hbn : b ∉ [ab] := by simp only [List.mem_cons, List.not_mem_nil, or_false]; exact hB.ne.1
  exact ⟨rfl, t2, hB.bf.touch t1 hbn, a1, hB.ld.touch t2 hB.glob.1 hB.glob.2, hB.ne, hB.lo, hB.gl, fun t _ => ⟨Int.le_refl _, fun _ => rfl, fun h => absurd h (Int.lt_irrefl 0), fun h => absurd h (Int.lt_irrefl 0)⟩⟩

theorem Pc.cutB (S : Pc n0 w b ab ag vb ga gr N rb g c top ws (bfs0 B.n B.size) at_ rs L Th) {w1 w2 : World} (t1 : Touch [b, ab, ag] w w1) (h1 : Bw n0 w1 b ab ag c (xt c 1) ws (bfs0 B.n B.size)) (l2 : Below w1.heap.size w1 w2) :
    Calls Tryz.prog 29 #[.pointer (some ⟨rb, 0, none⟩), .int .i64 1, .int .i64 1] w2 fun e w3 => e = .returned (.bool true) ∧ Touch (rzf vb ga gr rb g) w2 w3 ∧ Pc n0 w3 b ab ag vb ga gr N rb g c 1 ws (bfs0 B.n B.size) at_ rs [] [] := by
  obtain ⟨htop, htop2, htop0⟩ := S.topl
  have r2 := (S.rzat t1).below l2
  refine (rcut_yes rb g c (xt c top) false ws 1 1 (by decide) (by show (1 : Int) ≤ 1; decide) (by show (1 : Int) ≤ (top : Int); omega) w2 r2.ar).mono ?_
  rintro e w3 ⟨rfl, a3, t3⟩
  exact ⟨rfl, touch_rz t3, S.made (h1.below l2) (touch_rz t3) (r2.word t3 a3) ⟨rfl, rfl, fun t _ h => absurd h (Int.lt_irrefl 0), fun t u _ _ _ h => absurd h (Int.lt_irrefl 0), List.Perm.refl _, (fun T h => nomatch h), (fun _ g h => nomatch h)⟩ S.rel rfl⟩

end
end Go.Proofs.YtpiemfchjlihfaaGreatDoor
