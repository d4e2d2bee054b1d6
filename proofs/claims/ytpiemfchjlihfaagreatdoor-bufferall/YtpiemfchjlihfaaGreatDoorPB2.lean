/-
  Both: the program's arena with its buffers, the document's: Put.
-/
import Derived.Test.YtpiemfchjlihfaaGreatDoorPB1
set_option linter.unusedVariables false
set_option maxRecDepth 20000
namespace Go.Proofs.YtpiemfchjlihfaaGreatDoor
open Go.RowKit Go.Shelf

abbrev xt (c : Cfg) (top : Nat) : Tps := ⟨top, 1 + c.eden, 1 + c.eden + c.surv, 1 + c.eden + c.surv + c.surv⟩
abbrev pf (b ab ag vb ga gr rb : Nat) (g : Nat → Nat) : List Nat := [b, ab, ag] ++ rzf vb ga gr rb g

/-- Both hold the same. -/
structure Pc (n0 : Nat) (w : World) (b ab ag vb ga gr N rb : Nat) (g : Nat → Nat) (c : Cfg) (top : Nat) (ws : Nat → Int) (B : Bfs) (at_ rs : Nat → Int) (L : List Sg) (Th : List Ob) : Prop where
  bw : Bw n0 w b ab ag c (xt c top) ws B
  wo : Wo (xt c top) ws B top L Th
  rz : Rz w vb ga gr N rb g c (xt c top) ws B.size at_ rs
  rel : ∀ t, t < N → rs t = B.ws t ∧ (0 < B.ws t → at_ t = B.at_ t)
  nn : B.n = N
  ap : ∀ q, q ∈ [b, ab, ag] → q ∉ rzf vb ga gr rb g
  lo : ∀ q, q ∈ rzf vb ga gr rb g → n0 ≤ q

theorem Rz.touch {w w' : World} {vb ga gr n rb : Nat} {g : Nat → Nat} {c : Cfg} {x : Tps} {ws : Nat → Int} {sz : Int} {at_ rs : Nat → Int} {F : List Nat} (h : Rz w vb ga gr n rb g c x ws sz at_ rs) (t : Touch F w w') (hF : ∀ q, q ∈ rzf vb ga gr rb g → q ∉ F) : Rz w' vb ga gr n rb g c x ws sz at_ rs :=
  ⟨h.bu.touch t (fun q hq => hF q (List.mem_append.2 (.inl hq))), h.ar.touch t (fun q hq => hF q (List.mem_append.2 (.inr hq))), h.ap⟩

/-- The same rests. -/
theorem fil_same {B : Bfs} {t q R n : Nat} (hq : B.at_ t = q) (hR : B.ws t = R) (hn : n ≤ R) (W : Nat → Int) : fil13 W ((B.drop t n).at_ t) ((B.drop t n).ws t) = fil13 W ((q + n : Nat) : Int) ((R - n : Nat) : Int) := by
  have e1 : (B.drop t n).ws t = ((R - n : Nat) : Int) := by unfold Bfs.drop; rw [Bfs.put_ws, hR]; omega
  rw [e1]
  unfold fil13
  by_cases h : n < R
  · have e2 : (B.drop t n).at_ t = ((q + n : Nat) : Int) := by unfold Bfs.drop; rw [Bfs.put_at, hR, hq, if_neg (by omega)]; omega
    rw [e2]
  · rw [if_neg (by omega), if_neg (by omega)]

theorem rel_drop {N : Nat} {B : Bfs} {at_ rs : Nat → Int} (hr : ∀ t, t < N → rs t = B.ws t ∧ (0 < B.ws t → at_ t = B.at_ t)) {t q R n : Nat} (hq : B.at_ t = q) (hR : B.ws t = R) (hn : n ≤ R) : ∀ u, u < N → upd rs t ((R - n : Nat) : Int) u = (B.drop t n).ws u ∧ (0 < (B.drop t n).ws u → upd at_ t ((q + n : Nat) : Int) u = (B.drop t n).at_ u) := by
  intro u hu
  by_cases e : u = t
  · subst e
    have e1 : (B.drop u n).ws u = ((R - n : Nat) : Int) := by unfold Bfs.drop; rw [Bfs.put_ws, hR]; omega
    refine ⟨by rw [e1]; simp [upd], fun h0 => ?_⟩
    rw [e1] at h0
    have e2 : (B.drop u n).at_ u = ((q + n : Nat) : Int) := by unfold Bfs.drop; rw [Bfs.put_at, hR, hq, if_neg (by omega)]; omega
    rw [e2]
    simp [upd]
  · obtain ⟨e1, e2⟩ := Bfs.put_ne B t (if B.ws t - n = 0 then 0 else B.at_ t + n) (B.ws t - n) u e
    have e3 : (B.drop t n).ws u = B.ws u := e2
    have e4 : (B.drop t n).at_ u = B.at_ u := e1
    rw [e3, e4]
    simpa [upd, e] using hr u hu

theorem rel_put {N : Nat} {B : Bfs} {at_ rs : Nat → Int} (hr : ∀ t, t < N → rs t = B.ws t ∧ (0 < B.ws t → at_ t = B.at_ t)) (t : Nat) (q z : Int) : ∀ u, u < N → upd rs t z u = (B.put t q z).ws u ∧ (0 < (B.put t q z).ws u → upd at_ t q u = (B.put t q z).at_ u) := by
  intro u hu
  by_cases e : u = t
  · subst e
    rw [Bfs.put_ws, Bfs.put_at]
    simp [upd]
  · obtain ⟨e1, e2⟩ := Bfs.put_ne B t q z u e
    rw [e1, e2]
    simpa [upd, e] using hr u hu

section
variable {n0 : Nat} {w w' : World} {b ab ag vb ga gr N rb : Nat} {g : Nat → Nat} {c : Cfg} {top : Nat} {ws : Nat → Int} {B : Bfs} {at_ rs : Nat → Int} {L : List Sg} {Th : List Ob}

theorem Pc.below (S : Pc n0 w b ab ag vb ga gr N rb g c top ws B at_ rs L Th) (l : Below w.heap.size w w') : Pc n0 w' b ab ag vb ga gr N rb g c top ws B at_ rs L Th :=
  ⟨S.bw.below l, S.wo, S.rz.below l, S.rel, S.nn, S.ap, S.lo⟩

theorem Pc.topl (S : Pc n0 w b ab ag vb ga gr N rb g c top ws B at_ rs L Th) : top ≤ 65537 ∧ (top : Int) ≤ 1 + c.eden ∧ 1 ≤ top := by
  have h : (top : Int) ≤ 1 + c.eden := S.bw.ar.t11
  have h1 : (1 : Int) ≤ top := S.bw.ar.t10
  have := S.bw.ar.ok.e1
  exact ⟨by omega, h, by omega⟩

/-- The document's part, beside the program's new one. -/
theorem Pc.made {w1 w3 : World} {top' : Nat} {ws' : Nat → Int} {B' : Bfs} {at' rs' : Nat → Int} {L' : List Sg} {Th' : List Ob} (S : Pc n0 w b ab ag vb ga gr N rb g c top ws B at_ rs L Th) (h1 : Bw n0 w1 b ab ag c (xt c top') ws' B') (t3 : Touch (rzf vb ga gr rb g) w1 w3) (h3 : Rz w3 vb ga gr N rb g c (xt c top') ws' B'.size at' rs') (hw : Wo (xt c top') ws' B' top' L' Th') (hr : ∀ t, t < N → rs' t = B'.ws t ∧ (0 < B'.ws t → at' t = B'.at_ t)) (hn : B'.n = B.n) : Pc n0 w3 b ab ag vb ga gr N rb g c top' ws' B' at' rs' L' Th' :=
  ⟨h1.touch t3 (S.ap b (by simp)) (S.ap ab (by simp)) (S.ap ag (by simp)) S.lo, hw, h3, hr, hn.trans S.nn, S.ap, S.lo⟩

/-- What both Puts answer. -/
def Both (n0 : Nat) (b ab ag vb ga gr N rb : Nat) (g : Nat → Nat) (c : Cfg) (size : Int) (Th : List Ob) (s k a y : Int) (p r : Nat) (hh : Bool) (z : Int) (ok : Bool) (w3 : World) : Prop :=
  ∃ top' ws' B' at' rs' L', B'.size = size ∧ (ok = false → Pc n0 w3 b ab ag vb ga gr N rb g c top' ws' B' at' rs' L' Th) ∧ (ok = true → ∃ q : Nat, z = q ∧ Pc n0 w3 b ab ag vb ga gr N rb g c top' ws' B' at' rs' L' (Th ++ [⟨q, s, k, p, r, a, y, hh, fun _ => 0, 0⟩]))

theorem Pc.rzat (S : Pc n0 w b ab ag vb ga gr N rb g c top ws B at_ rs L Th) {w1 : World} (t1 : Touch [b, ab, ag] w w1) : Rz w1 vb ga gr N rb g c (xt c top) ws B.size at_ rs := S.rz.touch t1 (fun q hq hm => S.ap q hm hq)

theorem Pc.put (S : Pc n0 w b ab ag vb ga gr N rb g c top ws B at_ rs L Th) (t : Nat) (ht : t < N) (s k a y : Int) (p r : Nat) (hh : Bool) (hs : Wd s) (hf : flt k p r a y = 0) :
    ∃ (z : Int) (ok : Bool), Calls Tryz.prog 15 #[.pointer (some ⟨b, 0, none⟩), .pointer (some ⟨ab, 0, none⟩), .int .i64 t, hv s k p r a y hh] w fun e w1 => e = .returned (.tuple #[.int .i64 z, .bool ok]) ∧ Touch [b, ab, ag] w w1 ∧ ∀ w2, Below w1.heap.size w1 w2 →
      Calls Tryz.prog 16 #[.pointer (some ⟨vb, 0, none⟩), .pointer (some ⟨rb, 0, none⟩), .int .i64 t, hv s k p r a y hh] w2 fun e w3 => e = .returned (.tuple #[.int .i64 z, .bool ok]) ∧ Touch (rzf vb ga gr rb g) w2 w3 ∧ Both n0 b ab ag vb ga gr N rb g c B.size Th s k a y p r hh z ok w3 := by
  have hB := S.bw
  have hN8 := S.rz.bu.n1.2
  have ht8 : t < 8 := by omega
  have htB : (t : Int) < B.n := by rw [S.nn]; omega
  obtain ⟨n, hn⟩ : ∃ n, n = 2 + p + r := ⟨_, rfl⟩
  have H : Hd13 s k p r a y n := ⟨hs, hf, by omega⟩
  obtain ⟨htop, htop2, htop0⟩ := S.topl
  have hR := hB.rs t ht8
  obtain ⟨R, hRe⟩ : ∃ R : Nat, B.ws t = R := ⟨(B.ws t).toNat, by have := hR.n0; omega⟩
  have hRr : rs t = R := (S.rel t ht).1.trans hRe
  have hx1 : (xt c top).t1 = (top : Int) := rfl
  have hs1 := hB.bf.s1
  by_cases hc : n ≤ R
  · have hws0 : 0 < B.ws t := by omega
    obtain ⟨q, hq⟩ : ∃ q : Nat, B.at_ t = q := ⟨(B.at_ t).toNat, by have := hR.q0 hws0; omega⟩
    have hqr : at_ t = q := ((S.rel t ht).2 hws0).trans hq
    have hq0 : 0 < q := by have := hR.q0 hws0; omega
    have hqR : (q : Int) + R ≤ top := by have := hR.q1 hws0; rw [hx1] at this; omega
    obtain ⟨L', hL'⟩ := S.wo.rest (gr := 0) (by omega) ht8 hh hf hs (by omega) hq
    rw [← hn] at hL'
    refine ⟨q, true, (hB.rest t htB hh H (by omega) q hq).mono ?_⟩
    rintro e w1 ⟨rfl, b1, t1⟩
    refine ⟨rfl, t1, fun w2 l2 => ?_⟩
    have wd : (q : Int) + R ≤ c.words := by
      have h1 := S.bw.ar.ok.s0
      have h2 := S.bw.ar.ok.t0
      unfold Cfg.words
      omega
    refine (r13put_rest ((S.rzat t1).below l2) t ht s k a y p r hh hf n R hn hRr q hqr hc hq0 (by omega) (by omega)).mono ?_
    rintro e w3 ⟨rfl, r3, t3⟩
    rw [fil_same hq hRe hc] at b1 hL'
    exact ⟨rfl, t3, top, _, B.drop t n, _, _, L', rfl, (fun e => nomatch e), fun _ => ⟨q, rfl, S.made (b1.below l2) t3 r3 hL' (rel_drop S.rel hq hRe hc) rfl⟩⟩
  · by_cases hc2 : (n : Int) ≤ 1 + c.eden - top
    · by_cases hc1 : (n : Int) ≤ B.size
      · obtain ⟨z, hz⟩ : ∃ z : Nat, min B.size (1 + c.eden - (top : Int)) = z := ⟨(min B.size (1 + c.eden - (top : Int))).toNat, by omega⟩
        obtain ⟨L', hL'⟩ := S.wo.new (gr := 0) (z := z) ht8 hh hf hs (by omega) (by omega) (by omega)
        rw [← hn] at hL'
        refine ⟨top, true, (hB.new t htB hh H (by omega) hc1 hc2 top z rfl hz).mono ?_⟩
        rintro e w1 ⟨rfl, b1, t1⟩
        refine ⟨rfl, t1, fun w2 l2 => ?_⟩
        refine (r13put_new ((S.rzat t1).below l2) t ht s k a y p r hh hf n R hn hRr top z rfl hc hc1 hc2 hz).mono ?_
        rintro e w3 ⟨rfl, r3, t3⟩
        have hp1 : (B.put t top z).at_ t = (top : Int) := Bfs.put_at _ _ _ _
        have hp2 : (B.put t top z).ws t = (z : Int) := Bfs.put_ws _ _ _ _
        rw [fil_same hp1 hp2 (by omega)] at b1 hL'
        exact ⟨rfl, t3, top + z, _, (B.put t top z).drop t n, _, _, L', rfl, (fun e => nomatch e), fun _ => ⟨top, rfl, S.made (b1.below l2) t3 r3 hL' (rel_drop (rel_put S.rel t top z) hp1 hp2 (by omega)) rfl⟩⟩
      · obtain ⟨L', hL'⟩ := S.wo.eden (gr := 0) hh hf hs
        rw [← hn] at hL'
        have hfl := hL'.fil ht8 (by by_cases h0 : 0 < B.ws t
                                    · have := hR.q0 h0; omega
                                    · have := hR.z (by have := hR.n0; omega); omega)
        refine ⟨top, true, (bput_eden hB.bf hB.ar hB.ld hB.ne hB.glob t htB hR s k p r a y hh hs hf n (by omega) (by omega) (fun h9 => hc1 h9.1) hc2 top rfl).mono ?_⟩
        rintro e w1 ⟨rfl, a1, a2, t1⟩
        rw [hfl] at a1
        refine ⟨rfl, t1, fun w2 l2 => ?_⟩
        have b1 : Bw n0 w1 b ab ag c (xt c (top + n)) (putw ws top n (wrd k p r a y hh) s) B := ⟨a2, a1, hB.ld.touch t1 hB.glob.1 hB.glob.2, hB.ne, hB.lo, hB.gl, fun u hu => (hB.rs u hu).other (by show (top : Int) ≤ ((top + n : Nat) : Int); omega) rfl rfl⟩
        refine (r13put_eden ((S.rzat t1).below l2) t ht s k a y p r hh hf n R hn hRr top rfl hc hc1 hc2).mono ?_
        rintro e w3 ⟨rfl, r3, t3⟩
        exact ⟨rfl, t3, top + n, _, B, _, _, L', rfl, (fun e => nomatch e), fun _ => ⟨top, rfl, S.made (b1.below l2) t3 r3 hL' S.rel rfl⟩⟩
    · have hfl := S.wo.fil ht8 (by by_cases h0 : 0 < B.ws t
                                   · have := hR.q0 h0; omega
                                   · have := hR.z (by have := hR.n0; omega); omega)
      refine ⟨0, false, (bput_full hB.bf hB.ar hB.ld hB.ne hB.glob t htB hR s k p r a y hh hs hf n (by omega) (by omega) hc2).mono ?_⟩
      rintro e w1 ⟨rfl, a1, a2, t1⟩
      rw [hfl] at a1
      refine ⟨rfl, t1, fun w2 l2 => ?_⟩
      have b1 : Bw n0 w1 b ab ag c (xt c top) ws B := ⟨a2, a1, hB.ld.touch t1 hB.glob.1 hB.glob.2, hB.ne, hB.lo, hB.gl, hB.rs⟩
      refine (r13put_full ((S.rzat t1).below l2) t ht s k a y p r hh hf n R hn hRr hc hc2).mono ?_
      rintro e w3 ⟨rfl, b3⟩
      exact ⟨rfl, Touch.of_below b3 _, top, ws, B, at_, rs, L, rfl, fun _ => S.made (b1.below l2) (Touch.of_below b3 _) (((S.rzat t1).below l2).below b3) S.wo S.rel rfl, (fun e => nomatch e)⟩

end
end Go.Proofs.YtpiemfchjlihfaaGreatDoor
