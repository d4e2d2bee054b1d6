import Derived.Test.YtemdmpfifcihfaaR59
import Derived.Test.YtemdmpfifcihfaaR30
/-
  pair.whole.
-/
set_option linter.unusedVariables false
namespace Go.Proofs.Ytemdmpfifcihfaa
open Go.RowKit

/-- A pair and its box. -/
structure Wb (w0 : World) (PB base r b N : Nat) (S : Sta) (F G : List Nat) (W : World) : Prop where
  pp : Pp W base r b N S F G
  box : W.heap[PB]? = some (.cells #[.pointer (some ⟨r, 0, none⟩), .pointer (some ⟨b, 0, none⟩)] 61 (0, 0))
  tt : Touch (F ++ G) w0 W

section
variable {w0 W W1 : World} {PB base r b N : Nat} {S : Sta} {F G : List Nat}
theorem Wb.p0 (h : Wb w0 PB base r b N S F G W) : W.cell? ⟨PB, 0, none⟩ = some (.pointer (some ⟨r, 0, none⟩)) := by have := heap_cell h.box 0; simpa using this
theorem Wb.p1 (h : Wb w0 PB base r b N S F G W) : W.cell? ⟨PB, 1, none⟩ = some (.pointer (some ⟨b, 0, none⟩)) := by have := heap_cell h.box 1; simpa using this
theorem Wb.nil (h : Wb w0 PB base r b N S F G W) (t : Touch [] W W1) : Wb w0 PB base r b N S F G W1 := ⟨h.pp.nil t, (t.block _ (heap_lt h.box) (by simp)).trans h.box, h.tt.trans (t.mono (fun k h => by cases h))⟩
theorem Wb.via (h : Wb w0 PB base r b N S F G W) (hn : PB ∉ F) (t : Touch F W W1) (h1 : Rts W1 base r N S F) : Wb w0 PB base r b N S F G W1 :=
  ⟨⟨h1, h.pp.mid t, h.pp.ap, h.pp.ok, Nat.le_trans h.pp.ba t.size⟩, (t.block _ (heap_lt h.box) hn).trans h.box, h.tt.trans (t.mono (fun k hk => .inl (by simp [hk])))⟩
theorem Wb.drewn (h : Wb w0 PB base r b N S F G W) (hw : ∃ n, W1 = W.drewN n) : Wb w0 PB base r b N S F G W1 := by
  obtain ⟨n, rfl⟩ := hw
  exact h.nil (Touch.drewN _ _ _)
theorem same_true {va vb : Value} {xs : List Int} {w : World} (ha : SliceIs w.heap.size w va xs) (hb : SliceIs w.heap.size w vb xs) (hx : xs.length < 9223372036854775807) :
    Calls Try.prog 28 #[va, vb] w fun e w' => e = .returned (.bool true) ∧ ∃ nq, w' = w.drewN nq := by
  have := same_any va vb xs xs w ha hb hx
  simpa using this
end

set_option maxRecDepth 20000 in
set_option maxHeartbeats 8000000 in
theorem whole_any (base r b N : Nat) (S : Sta) (F G : List Nat) (hN : N < 8796092982208) (W : World) (P : Pp W base r b N S F G) :
    Calls Try.prog 32 #[.agg #[.pointer (some ⟨r, 0, none⟩), .pointer (some ⟨b, 0, none⟩)], .int .i64 S.T] W fun e W' => e = .returned (.bool true) ∧ Pp W' base r b N S F G ∧ Touch (F ++ G) W W' := by
  have tt : Touch [] W (W.alloc (.cells #[.pointer (some ⟨r, 0, none⟩), .pointer (some ⟨b, 0, none⟩)] 61)) := Touch.alloc _ _ _
  have HW : Hid (Wb W W.heap.size base r b N S F G (W.alloc (.cells #[.pointer (some ⟨r, 0, none⟩), .pointer (some ⟨b, 0, none⟩)] 61))) := ⟨P.nil tt, heap_alloc_new W _, tt.mono (fun k h => by cases h)⟩
  have HF : Hid (W.heap.size ∉ F) := fun h => by have := (P.lt _ (List.mem_append_left G h)).2; omega
  have hq := P.rt.queN
  have hT := P.ok.T8
  have HA : Hid (S.all.length ≤ 33792 + S.qs.length) := all_len P.ok
  clear tt P
  go_enter Try.func32, Try.ntmps32
  go_upto_region 1 with fail
  generalize W.alloc (.cells #[.pointer (some ⟨r, 0, none⟩), .pointer (some ⟨b, 0, none⟩)] 61) = W2 at *
  generalize W.heap.size = PB at *
  generalize hTe : S.T = T at *
  have HTe : Hid (S.T = T) := hTe
  clear hTe
  go_wp2
  go_loopw [5] (fun v wr => ∃ (k : Nat), v = .int .i64 k ∧ k ≤ T ∧ Hid (Wb W PB base r b N S F G wr)) (fun v _ => T - (intOf v).toNat)
  case atStart => exact ⟨0, rfl, Nat.zero_le _, HW⟩
  case round =>
    obtain ⟨k, rfl, hk, hw⟩ := hrel
    clear HW
    have p0 := hw.out.p0
    have p1 := hw.out.p1
    have hwd : Hid (Wb W PB base r b N S F G wr.drew) := hw.out.nil (Touch.drew _ _)
    by_cases hlt : k < T
    · have hki : (k : Int) < T := by omega
      have hc := frames_any base r N k S F wr.drew hwd.out.pp.rt hwd.out.pp.ok
      have hfl : (S.frames k).length < 9223372036854775807 := by have := frames_len hw.out.pp.ok k; omega
      clear hw
      go_upto_region 4 with fail
      go_region_held3 (fun w' => w'.cell? ⟨PB, 0, none⟩ = some (.pointer (some ⟨r, 0, none⟩)) ∧ w'.cell? ⟨PB, 1, none⟩ = some (.pointer (some ⟨b, 0, none⟩))) (first | go_keep | (exact And.intro ‹_› ‹_›)) (first | (go_at_call 20; refine hc.mono ?_; rintro e w3 ⟨v3, rfl, o3, b3⟩; have W3 := hwd.out.nil (Touch.of_below b3 []); have k0 := W3.p0; have k1 := W3.p1; have hc3 := rframes_any base b k S G w3 W3.pp.rf W3.pp.ok) | (go_at_call 52; refine hc3.mono ?_; rintro e w4 ⟨v4, rfl, o4, b4⟩; have W4 := W3.nil (Touch.of_below b4 []); have m0 := W4.p0; have m1 := W4.p1; have hsm := same_true (is_keep (own_is o3) b4) (own_is o4) hfl) | (go_at_call 28; refine hsm.mono ?_; rintro e w5 ⟨rfl, hw5⟩; have W5 := W4.drewn hw5; have n0 := W5.p0; have n1 := W5.p1))
      have HW5 : Hid (Wb W PB base r b N S F G w5) := W5
      clear hc hc3 hsm o3 o4 W3 W4 W5 k0 k1 m0 m1 n0 n1 p0 p1 hwd hw5 hfl
      go_wp2
      go_roundw
      case rel => exact ⟨k + 1, by go_num, hlt, HW5⟩
      case measure => simp [intOf]; omega
    · obtain rfl : k = T := by omega
      have hnk : ¬ (k : Int) < (k : Int) := by omega
      have hcA := all_any base r N S F wr.drew hwd.out.pp.rt hwd.out.pp.ok hN
      have hqs : S.qs.length < 8796093022208 := by omega
      have ha1 : S.all.length < 9223372036854775807 := by have := HA.out; omega
      have hb1 : (tolds S.hs).length < 9223372036854775807 := by rw [tolds_length]; have := hwd.out.pp.ok.hn; omega
      have hc1 : S.qs.length < 9223372036854775807 := by omega
      have hN2 : N < 8796093022208 := by omega
      clear hw
      go_upto_region 6 with fail
      go_region_held3 (fun w' => w'.cell? ⟨PB, 0, none⟩ = some (.pointer (some ⟨r, 0, none⟩)) ∧ w'.cell? ⟨PB, 1, none⟩ = some (.pointer (some ⟨b, 0, none⟩))) (first | go_keep | (exact And.intro ‹_› ‹_›)) (first | (go_at_call 11; refine hcA.mono ?_; rintro e w3 ⟨v3, rfl, o3, h3, t3⟩; have W3 := hwd.out.via HF.out t3 h3; have a0 := W3.p0; have a1 := W3.p1; have hcA2 := rall_any base b S G w3 W3.pp.rf W3.pp.ok hqs) | (go_at_call 62; refine hcA2.mono ?_; rintro e w4 ⟨v4, rfl, o4, b4⟩; have W4 := W3.nil (Touch.of_below b4 []); have a2 := W4.p0; have a3 := W4.p1; have hsA := same_true (is_keep (own_is o3) b4) (own_is o4) ha1) | (go_at_call 13; refine hcH.mono ?_; rintro e w6 ⟨v6, rfl, o6, b6⟩; have W6 := W5.nil (Touch.of_below b6 []); have a6 := W6.p0; have a7 := W6.p1; have hcH2 := rhandles_any base b S G w6 W6.pp.rf W6.pp.ok) | (go_at_call 58; refine hcH2.mono ?_; rintro e w7 ⟨v7, rfl, o7, b7⟩; have W7 := W6.nil (Touch.of_below b7 []); have a8 := W7.p0; have a9 := W7.p1; have hsH := same_true (is_keep (own_is o6) b7) (own_is o7) hb1) | (go_at_call 12; refine hcQ.mono ?_; rintro e w9 ⟨v9, rfl, o9, b9⟩; have W9 := W8.nil (Touch.of_below b9 []); have c0 := W9.p0; have c1 := W9.p1; have hcQ2 := rqueue_any base b S G w9 W9.pp.rf hqs) | (go_at_call 61; refine hcQ2.mono ?_; rintro e w10 ⟨v10, rfl, o10, b10⟩; have W10 := W9.nil (Touch.of_below b10 []); have c2 := W10.p0; have c3 := W10.p1; have hsQ := same_true (is_keep (own_is o9) b10) (own_is o10) hc1) | (go_at_call 28; refine hsQ.mono ?_; rintro e w11 ⟨rfl, hw11⟩; have W11 := W10.drewn hw11; have c4 := W11.p0; have c5 := W11.p1) | (go_at_call 28; refine hsH.mono ?_; rintro e w8 ⟨rfl, hw8⟩; have W8 := W7.drewn hw8; have b0 := W8.p0; have b1 := W8.p1; have hcQ := queue_any base r N S F w8 W8.pp.rt hN2) | (go_at_call 28; refine hsA.mono ?_; rintro e w5 ⟨rfl, hw5⟩; have W5 := W4.drewn hw5; have a4 := W5.p0; have a5 := W5.p1; have hcH := handles_any base r N S F w5 W5.pp.rt W5.pp.ok))
      have HG : Hid (Pp w11 base r b N S F G ∧ Touch (F ++ G) W w11) := ⟨W11.pp, W11.tt⟩
      clear hcA hcA2 hcH hcH2 hcQ hcQ2 hsA hsH hsQ o3 o4 o6 o7 o9 o10 W3 W4 W5 W6 W7 W8 W9 W10 W11 hwd
      go_wp2
      go_ret
      exact ⟨rfl, HG.out⟩
end Go.Proofs.Ytemdmpfifcihfaa

/-
  RootsAll walked.
-/
set_option linter.unusedVariables false
namespace Go.Proofs.Ytemdmpfifcihfaa
open Go.RowKit

theorem own_base {w : World} {base base' n e size : Nat} {v : Value} {xs : List Value} (h : w.ownsRow base e size v n xs) (hb : base' ≤ base) : w.ownsRow base' e size v n xs := by
  obtain ⟨hl, h0 | ⟨g, cap, cur, hv, hge, hr⟩⟩ := h
  · exact ⟨hl, .inl h0⟩
  · exact ⟨hl, .inr ⟨g, cap, cur, hv, Nat.le_trans hb hge, hr⟩⟩

theorem Rfs.base {w : World} {base base' b : Nat} {S : Sta} {F : List Nat} (h : Rfs w base b S F) (hb : base' ≤ base) : Rfs w base' b S F := by
  obtain ⟨vt, vs, h, rfl⟩ := h
  exact ⟨vt, vs, ⟨Nat.le_trans hb h.bb, h.own, own_base h.thr hb, fun j hj => own_base (h.row j hj) hb, h.ap⟩, rfl⟩

/-- Two pairs beside one another, behind k calls. -/
structure Mi (w : World) (PA PC r1 b1 r2 b2 T k Na Nb : Nat) (Sa Sb : Sta) (Fa Ga Fb Gb : List Nat) (W : World) : Prop where
  a : Pp W w.heap.size r1 b1 Na Sa Fa Ga
  b : Pp W w.heap.size r2 b2 Nb Sb Fb Gb
  ap : Apart (Fa ++ Ga) (Fb ++ Gb)
  xa : W.heap[PA]? = some (.cells #[.pointer (some ⟨r1, 0, none⟩), .pointer (some ⟨b1, 0, none⟩)] 61 (0, 0))
  xb : W.heap[PC]? = some (.cells #[.pointer (some ⟨r2, 0, none⟩), .pointer (some ⟨b2, 0, none⟩)] 61 (0, 0))
  n1 : PA ∉ Fa ++ Ga
  n2 : PA ∉ Fb ++ Gb
  n3 : PC ∉ Fa ++ Ga
  n4 : PC ∉ Fb ++ Gb
  la : Na ≤ k
  lb : Nb ≤ k
  ta : Sa.T = T
  tb : Sb.T = T
  be : Below w.heap.size w W

theorem Newer.nin {n : Nat} {F F' : List Nat} (h : Newer n F F') {q : Nat} (hq : q < n) (hn : q ∉ F) : q ∉ F' := fun hm => by
  rcases h q hm with h1 | h1
  · exact hn h1
  · omega

section
variable {w W W1 W2 : World} {PA PC r1 b1 r2 b2 T k Na Nb : Nat} {Sa Sb : Sta} {Fa Ga Fb Gb : List Nat}

theorem Mi.swap (h : Mi w PA PC r1 b1 r2 b2 T k Na Nb Sa Sb Fa Ga Fb Gb W) : Mi w PC PA r2 b2 r1 b1 T k Nb Na Sb Sa Fb Gb Fa Ga W :=
  ⟨h.b, h.a, fun q hq hm => h.ap q hm hq, h.xb, h.xa, h.n4, h.n3, h.n2, h.n1, h.lb, h.la, h.tb, h.ta, h.be⟩

theorem Mi.nil (h : Mi w PA PC r1 b1 r2 b2 T k Na Nb Sa Sb Fa Ga Fb Gb W) (t : Touch [] W W1) : Mi w PA PC r1 b1 r2 b2 T k Na Nb Sa Sb Fa Ga Fb Gb W1 :=
  ⟨h.a.nil t, h.b.nil t, h.ap, (t.block _ (heap_lt h.xa) (by simp)).trans h.xa, (t.block _ (heap_lt h.xb) (by simp)).trans h.xb, h.n1, h.n2, h.n3, h.n4, h.la, h.lb, h.ta, h.tb, h.be.trans (t.below h.be.size (fun _ h => by cases h))⟩

/-- A call of the first pair. -/
theorem Mi.step (h : Mi w PA PC r1 b1 r2 b2 T k Na Nb Sa Sb Fa Ga Fb Gb W) (d : Done W w.heap.size r1 b1 Na Sa Fa Ga W1) : ∃ Na' Sa' Fa' Ga', Mi w PA PC r1 b1 r2 b2 T (k + 1) Na' Nb Sa' Sb Fa' Ga' Fb Gb W1 := by
  obtain ⟨N', S', F', G', p, hN, hT, t, nw⟩ := d
  have ab : Apart (Fb ++ Gb) (Fa ++ Ga) := fun q hq hm => h.ap q hm hq
  refine ⟨N', S', F', G', p, h.b.keep t ab, fun q hq hm => ?_, (t.block _ (heap_lt h.xa) h.n1).trans h.xa, (t.block _ (heap_lt h.xb) h.n3).trans h.xb, nw.nin (heap_lt h.xa) h.n1, h.n2, nw.nin (heap_lt h.xb) h.n3, h.n4, by have := h.la; omega, by have := h.lb; omega, hT.trans h.ta, h.tb, h.be.trans (t.below h.be.size (fun q hq => (h.a.lt q hq).1))⟩
  rcases nw q hq with h1 | h1
  · exact h.ap q h1 hm
  · have := (h.b.lt q hm).2; omega

/-- The first pair looked at. -/
theorem Mi.look (h : Mi w PA PC r1 b1 r2 b2 T k Na Nb Sa Sb Fa Ga Fb Gb W) (p : Pp W1 w.heap.size r1 b1 Na Sa Fa Ga) (t : Touch (Fa ++ Ga) W W1) : Mi w PA PC r1 b1 r2 b2 T k Na Nb Sa Sb Fa Ga Fb Gb W1 :=
  ⟨p, h.b.keep t (fun q hq hm => h.ap q hm hq), h.ap, (t.block _ (heap_lt h.xa) h.n1).trans h.xa, (t.block _ (heap_lt h.xb) h.n3).trans h.xb, h.n1, h.n2, h.n3, h.n4, h.la, h.lb, h.ta, h.tb, h.be.trans (t.below h.be.size (fun q hq => (h.a.lt q hq).1))⟩
end

def MI (w : World) (PA PC r1 b1 r2 b2 T k : Nat) (W : World) : Prop := ∃ Na Nb Sa Sb Fa Ga Fb Gb, Mi w PA PC r1 b1 r2 b2 T k Na Nb Sa Sb Fa Ga Fb Gb W

/-- One call of the first pair or of the second. -/
theorem MI.playA {w W : World} {PA PC r1 b1 r2 b2 T k n0 : Nat} (h : MI w PA PC r1 b1 r2 b2 T k W) (kd t n x : Int) (sec : Bool) (la : Option Addr) (l : List Int) (lc : Nat) (hk : k < 8796092982208) (bn : -9223372036854775808 ≤ n ∧ n < 9223372036854775808) (hn0 : n0 ≤ w.heap.size) (hcm : Came n0 W la l) :
    Calls Try.prog 31 #[.agg #[.pointer (some ⟨r1, 0, none⟩), .pointer (some ⟨b1, 0, none⟩)], .agg #[.int .i64 kd, .int .i64 t, .int .i64 n, .int .i64 x, .bool sec, .slice la l.length lc]] W fun e W' => e = .returned (.bool true) ∧ MI w PA PC r1 b1 r2 b2 T (k + 1) W' := by
  obtain ⟨Na, Nb, Sa, Sb, Fa, Ga, Fb, Gb, h⟩ := h
  refine (p5_any w.heap.size r1 b1 Na n0 Sa Fa Ga kd t n x sec la l lc (by have := h.la; omega) hn0 bn W hcm h.a).mono ?_
  rintro e W' ⟨rfl, d⟩
  obtain ⟨Na', Sa', Fa', Ga', h'⟩ := h.step d
  exact ⟨rfl, Na', Nb, Sa', Sb, Fa', Ga', Fb, Gb, h'⟩

theorem MI.swap {w W : World} {PA PC r1 b1 r2 b2 T k : Nat} (h : MI w PA PC r1 b1 r2 b2 T k W) : MI w PC PA r2 b2 r1 b1 T k W := by
  obtain ⟨Na, Nb, Sa, Sb, Fa, Ga, Fb, Gb, h⟩ := h
  exact ⟨_, _, _, _, _, _, _, _, h.swap⟩

theorem MI.nil {w W W1 : World} {PA PC r1 b1 r2 b2 T k : Nat} (h : MI w PA PC r1 b1 r2 b2 T k W) (t : Touch [] W W1) : MI w PA PC r1 b1 r2 b2 T k W1 := by
  obtain ⟨Na, Nb, Sa, Sb, Fa, Ga, Fb, Gb, h⟩ := h
  exact ⟨_, _, _, _, _, _, _, _, h.nil t⟩

theorem MI.be {w W : World} {PA PC r1 b1 r2 b2 T k : Nat} (h : MI w PA PC r1 b1 r2 b2 T k W) : Below w.heap.size w W := by
  obtain ⟨Na, Nb, Sa, Sb, Fa, Ga, Fb, Gb, h⟩ := h
  exact h.be

theorem MI.xa {w W : World} {PA PC r1 b1 r2 b2 T k : Nat} (h : MI w PA PC r1 b1 r2 b2 T k W) : W.cell? ⟨PA, 0, none⟩ = some (.pointer (some ⟨r1, 0, none⟩)) ∧ W.cell? ⟨PA, 1, none⟩ = some (.pointer (some ⟨b1, 0, none⟩)) := by
  obtain ⟨Na, Nb, Sa, Sb, Fa, Ga, Fb, Gb, h⟩ := h
  exact ⟨by have := heap_cell h.xa 0; simpa using this, by have := heap_cell h.xa 1; simpa using this⟩

theorem MI.lookA {w W : World} {PA PC r1 b1 r2 b2 T k : Nat} (h : MI w PA PC r1 b1 r2 b2 T k W) (hk : k < 8796092982208) :
    Calls Try.prog 32 #[.agg #[.pointer (some ⟨r1, 0, none⟩), .pointer (some ⟨b1, 0, none⟩)], .int .i64 T] W fun e W' => e = .returned (.bool true) ∧ MI w PA PC r1 b1 r2 b2 T k W' := by
  obtain ⟨Na, Nb, Sa, Sb, Fa, Ga, Fb, Gb, h⟩ := h
  have hc := whole_any w.heap.size r1 b1 Na Sa Fa Ga (by have := h.la; omega) W h.a
  rw [h.ta] at hc
  refine hc.mono ?_
  rintro e W' ⟨rfl, p, t⟩
  exact ⟨rfl, _, _, _, _, _, _, _, _, h.look p t⟩

/-- What four News make. -/
theorem MI.new {w w1 w2 w3 w4 W : World} {r1 b1 r2 b2 T m H PA PC : Nat} {Fa Ga Fb Gb : List Nat} (hT : 1 ≤ T) (hT8 : T ≤ 8) (hm : 1 ≤ m) (hm2 : m ≤ 4096) (hH : H ≤ 1024)
    (h1 : Rts w1 w.heap.size r1 0 (sta0 T m H) Fa) (t1 : Touch [] w w1) (h2 : Rfs w2 w1.heap.size b1 (sta0 T m H) Ga) (l2 : Below w1.heap.size w1 w2) (h3 : Rts w3 w2.heap.size r2 0 (sta0 T m H) Fb) (t3 : Touch [] w2 w3) (h4 : Rfs w4 w3.heap.size b2 (sta0 T m H) Gb) (l4 : Below w3.heap.size w3 w4)
    (t5 : Touch [] w4 W) (hA : w4.heap.size ≤ PA) (hC : w4.heap.size ≤ PC) (xa : W.heap[PA]? = some (.cells #[.pointer (some ⟨r1, 0, none⟩), .pointer (some ⟨b1, 0, none⟩)] 61 (0, 0))) (xb : W.heap[PC]? = some (.cells #[.pointer (some ⟨r2, 0, none⟩), .pointer (some ⟨b2, 0, none⟩)] 61 (0, 0))) : MI w PA PC r1 b1 r2 b2 T 0 W := by
  have s1 := t1.size
  have s2 := l2.size
  have s3 := t3.size
  have s4 := l4.size
  have s5 := t5.size
  have m1 := h1.mem
  have m2 := h2.mem
  have m3 := h3.mem
  have m4 := h4.mem
  have ok : (sta0 T m H).Ok := sta0_ok hT hT8 hm hm2 hH
  have b2' : Touch [] w1 w2 := Touch.of_below l2 []
  have b4' : Touch [] w3 w4 := Touch.of_below l4 []
  refine ⟨0, 0, sta0 T m H, sta0 T m H, Fa, Ga, Fb, Gb, ⟨((((h1.nil b2').nil t3).nil b4').nil t5), (((h2.nil t3).nil b4').nil t5).base s1, fun k hk hg => ?_, ok, by omega⟩, ⟨((h3.nil b4').nil t5).base (by omega), (h4.nil t5).base (by omega), fun k hk hg => ?_, ok, by omega⟩, fun k hk hg => ?_, xa, xb, ?_, ?_, ?_, ?_, Nat.le_refl _, Nat.le_refl _, rfl, rfl, ?_⟩
  · have := m1 k hk; have := m2 k hg; omega
  · have := m3 k hk; have := m4 k hg; omega
  · rcases List.mem_append.1 hk with h | h <;> rcases List.mem_append.1 hg with g | g
    · have := m1 k h; have := m3 k g; omega
    · have := m1 k h; have := m4 k g; omega
    · have := m2 k h; have := m3 k g; omega
    · have := m2 k h; have := m4 k g; omega
  · intro hm; rcases List.mem_append.1 hm with h | h
    · have := m1 _ h; omega
    · have := m2 _ h; omega
  · intro hm; rcases List.mem_append.1 hm with h | h
    · have := m3 _ h; omega
    · have := m4 _ h; omega
  · intro hm; rcases List.mem_append.1 hm with h | h
    · have := m1 _ h; omega
    · have := m2 _ h; omega
  · intro hm; rcases List.mem_append.1 hm with h | h
    · have := m3 _ h; omega
    · have := m4 _ h; omega
  · exact (((t1.trans b2').trans (t3.trans b4')).trans t5).below (Nat.le_refl _) (fun _ h => by cases h)
end Go.Proofs.Ytemdmpfifcihfaa

