/-
  played: roots behind a script.
-/
import Derived.Test.YtdlannfjnljbcaaGreatDoorR22
set_option linter.unusedVariables false
namespace Go.Proofs.YtdlannfjnljbcaaGreatDoor
open Go.RowKit

/-- One call of a script, as data. -/
structure OpD where
  k : Int
  t : Int
  n : Int
  x : Int
  sec : Bool
  a : Option Addr
  l : List Int
  cap : Nat

/-- A script that came in, in blocks below n0. -/
def LOps (n0 : Nat) (w : World) (a : Option Addr) (ops : List OpD) : Prop := ∀ (i : Nat) (o : OpD), ops[i]? = some o → ∃ g off, a = some ⟨g, off, none⟩ ∧ g < n0 ∧
  w.cell? ⟨g, off + i * 6, none⟩ = some (.int .i64 o.k) ∧ w.cell? ⟨g, off + i * 6 + 1, none⟩ = some (.int .i64 o.t) ∧ w.cell? ⟨g, off + i * 6 + 2, none⟩ = some (.int .i64 o.n) ∧
  w.cell? ⟨g, off + i * 6 + 3, none⟩ = some (.int .i64 o.x) ∧ w.cell? ⟨g, off + i * 6 + 4, none⟩ = some (.bool o.sec) ∧ w.cell? ⟨g, off + i * 6 + 5, none⟩ = some (.slice o.a o.l.length o.cap) ∧ Came n0 w o.a o.l

theorem LOps.below {n0 : Nat} {w w' : World} {a : Option Addr} {ops : List OpD} (h : LOps n0 w a ops) (hb : Below n0 w w') : LOps n0 w' a ops := fun i o ho => by
  obtain ⟨g, off, e, hg, c0, c1, c2, c3, c4, c5, hc⟩ := h i o ho
  exact ⟨g, off, e, hg, (hb.cell (p := ⟨g, off + i * 6, none⟩) hg).trans c0, (hb.cell (p := ⟨g, off + i * 6 + 1, none⟩) hg).trans c1, (hb.cell (p := ⟨g, off + i * 6 + 2, none⟩) hg).trans c2, (hb.cell (p := ⟨g, off + i * 6 + 3, none⟩) hg).trans c3,
    (hb.cell (p := ⟨g, off + i * 6 + 4, none⟩) hg).trans c4, (hb.cell (p := ⟨g, off + i * 6 + 5, none⟩) hg).trans c5, hc.keep (fun k hk => hb.block k hk)⟩

/-- Roots behind k calls of a script, begun at w. -/
structure Pl (w : World) (b T most : Nat) (k : Nat) (W : World) : Prop where
  ex : ∃ N S F, Rts W w.heap.size b N S F ∧ S.Ok ∧ S.T = T ∧ S.most = most ∧ N ≤ k
  be : Below w.heap.size w W

theorem Pl.alloc {w : World} {b T most k : Nat} {W : World} (h : Pl w b T most k W) (o : Obj) : Pl w b T most k (W.alloc o) := by
  obtain ⟨N, S, F, h1, h2, h3, h4, h5⟩ := h.ex
  exact ⟨⟨N, S, F, h1.nil (Touch.alloc _ _ _), h2, h3, h4, h5⟩, h.be.alloc h.be.size _⟩

theorem Pl.mono {w : World} {b T most k : Nat} {W : World} (h : Pl w b T most k W) : Pl w b T most (k + 1) W := by
  obtain ⟨N, S, F, h1, h2, h3, h4, h5⟩ := h.ex
  exact ⟨⟨N, S, F, h1, h2, h3, h4, by omega⟩, h.be⟩

theorem Pl.next {w : World} {b T most k : Nat} {W W' : World} {N N' : Nat} {S S' : Sta} {F F' : List Nat} (h : Pl w b T most k W) (h1 : Rts W w.heap.size b N S F) (h3 : S.T = T) (h4 : S.most = most) (h1' : Rts W' w.heap.size b N' S' F') (hO : S'.Ok) (hT : S'.T = S.T) (hm : S'.most = S.most) (hN : N' ≤ k + 1) (ht : Touch F W W') : Pl w b T most (k + 1) W' :=
  ⟨⟨N', S', F', h1', hO, hT.trans h3, hm.trans h4, hN⟩, h.be.trans (ht.below h.be.size (fun j hj => (h1.mem j hj).1))⟩

theorem pl_push {w : World} {b T most k : Nat} {W : World} (h : Pl w b T most k W) (t n : Int) : ∃ e0, Calls Tryz.prog 18 #[.pointer (some ⟨b, 0, none⟩), .int .i64 t, .int .i64 n] W fun e W' => e = .returned (.int .i64 e0) ∧ Pl w b T most (k + 1) W' := by
  obtain ⟨N, S, F, h1, h2, h3, h4, h5⟩ := h.ex
  refine ⟨S.pushE t n, (push_any _ b N t n S F W h1 h2 h.be.size).mono ?_⟩
  rintro e W' ⟨rfl, F', h1', ht, -⟩
  exact ⟨rfl, h.next h1 h3 h4 h1' (h2.pushS t n) (by unfold Sta.pushS; split <;> rfl) (by unfold Sta.pushS; split <;> rfl) (by omega) ht⟩

theorem pl_pop {w : World} {b T most k : Nat} {W : World} (h : Pl w b T most k W) (t : Int) : ∃ e0, Calls Tryz.prog 21 #[.pointer (some ⟨b, 0, none⟩), .int .i64 t] W fun e W' => e = .returned (.int .i64 e0) ∧ Pl w b T most (k + 1) W' := by
  obtain ⟨N, S, F, h1, h2, h3, h4, h5⟩ := h.ex
  refine ⟨S.popE t, (pop_any _ b N t S F W h1 h2).mono ?_⟩
  rintro e W' ⟨rfl, F', h1', ht, -⟩
  exact ⟨rfl, h.next h1 h3 h4 h1' (h2.popS t) (by unfold Sta.popS; split <;> rfl) (by unfold Sta.popS; split <;> rfl) (by omega) ht⟩

theorem pl_set {w : World} {b T most k : Nat} {W : World} (h : Pl w b T most k W) (t n x : Int) : ∃ e0, Calls Tryz.prog 19 #[.pointer (some ⟨b, 0, none⟩), .int .i64 t, .int .i64 n, .int .i64 x] W fun e W' => e = .returned (.int .i64 e0) ∧ Pl w b T most (k + 1) W' := by
  obtain ⟨N, S, F, h1, h2, h3, h4, h5⟩ := h.ex
  refine ⟨S.slotE t n, (set_any _ b N t n x S F W h1 h2).mono ?_⟩
  rintro e W' ⟨rfl, h1', ht⟩
  exact ⟨rfl, h.next h1 h3 h4 h1' (h2.setS t n x) (by unfold Sta.setS; split <;> rfl) (by unfold Sta.setS; split <;> rfl) (by omega) ht⟩

theorem pl_open {w : World} {b T most k : Nat} {W : World} (h : Pl w b T most k W) (x : Int) : ∃ e0 e1, Calls Tryz.prog 7 #[.pointer (some ⟨b, 0, none⟩), .int .i64 x] W fun e W' => e = .returned (.tuple #[.int .i64 e0, .int .i64 e1]) ∧ Pl w b T most (k + 1) W' := by
  obtain ⟨N, S, F, h1, h2, h3, h4, h5⟩ := h.ex
  refine ⟨S.openV, S.openE, (hopen_any _ b N x S F W h1 h2).mono ?_⟩
  rintro e W' ⟨rfl, h1', ht⟩
  exact ⟨rfl, h.next h1 h3 h4 h1' (h2.openS x) (by unfold Sta.openS; split <;> rfl) (by unfold Sta.openS; split <;> rfl) (by omega) ht⟩

theorem pl_close {w : World} {b T most k : Nat} {W : World} (h : Pl w b T most k W) (i : Int) : ∃ e0, Calls Tryz.prog 22 #[.pointer (some ⟨b, 0, none⟩), .int .i64 i] W fun e W' => e = .returned (.int .i64 e0) ∧ Pl w b T most (k + 1) W' := by
  obtain ⟨N, S, F, h1, h2, h3, h4, h5⟩ := h.ex
  refine ⟨S.handleE i, (hclose_any _ b N i S F W h1 h2).mono ?_⟩
  rintro e W' ⟨rfl, h1', ht⟩
  exact ⟨rfl, h.next h1 h3 h4 h1' (h2.closeS i) (by unfold Sta.closeS; split <;> rfl) (by unfold Sta.closeS; split <;> rfl) (by omega) ht⟩

theorem pl_enq {w : World} {b T most k : Nat} {W : World} (h : Pl w b T most k W) (x : Int) (hk : k < 8796093022208) : Calls Tryz.prog 6 #[.pointer (some ⟨b, 0, none⟩), .int .i64 x] W fun e W' => e = .returned (.tuple #[]) ∧ Pl w b T most (k + 1) W' := by
  obtain ⟨N, S, F, h1, h2, h3, h4, h5⟩ := h.ex
  refine (enqueue_any _ b N x S F W h1 h.be.size (by omega)).mono ?_
  rintro e W' ⟨rfl, F', h1', ht, -⟩
  exact ⟨rfl, h.next h1 h3 h4 h1' (h2.enqS x) rfl rfl (by omega) ht⟩

theorem pl_deq {w : World} {b T most k : Nat} {W : World} (h : Pl w b T most k W) (hk : k < 8796093022208) : ∃ e0 o, Calls Tryz.prog 23 #[.pointer (some ⟨b, 0, none⟩)] W fun e W' => e = .returned (.tuple #[.int .i64 e0, .bool o]) ∧ Pl w b T most (k + 1) W' := by
  obtain ⟨N, S, F, h1, h2, h3, h4, h5⟩ := h.ex
  refine ⟨S.deqV, !S.qs.isEmpty, (dequeue_any _ b N S F W h1 (by omega)).mono ?_⟩
  rintro e W' ⟨rfl, h1', ht⟩
  exact ⟨rfl, h.next h1 h3 h4 h1' h2.deqS rfl rfl (by omega) ht⟩

set_option maxRecDepth 40000 in
set_option maxHeartbeats 4000000 in
theorem played_any (th sl hn : Int) (a : Option Addr) (cap : Nat) (ops : List OpD) (w : World) (hl : LOps w.heap.size w a ops) (hlen : ops.length < 8796093022208)
    (b1 : -9223372036854775808 ≤ th ∧ th < 9223372036854775808) (b2 : -9223372036854775808 ≤ sl ∧ sl < 9223372036854775808) (b3 : -9223372036854775808 ≤ hn ∧ hn < 9223372036854775808) :
    Calls Tryz.prog 5 #[.int .i64 th, .int .i64 sl, .int .i64 hn, .slice a ops.length cap] w fun e w' => ∃ b, e = .returned (.tuple #[.pointer (some ⟨b, 0, none⟩), .bool true]) ∧ Pl w b (1 + plc th 8).toNat (1 + plc sl 40).toNat ops.length w' := by
  have p1 := place_any th 8 (by decide) (by decide) b1 w
  have p2 := place_any sl 40 (by decide) (by decide) b2 w
  have p3 := place_any hn 12 (by decide) (by decide) b3 w
  obtain ⟨T, hT⟩ := Int.eq_ofNat_of_zero_le (plc_lt th 8 (by decide)).1
  obtain ⟨m, hm⟩ := Int.eq_ofNat_of_zero_le (plc_lt sl 40 (by decide)).1
  obtain ⟨H, hH⟩ := Int.eq_ofNat_of_zero_le (plc_lt hn 12 (by decide)).1
  have q1 := (plc_lt th 8 (by decide)).2
  have q2 := (plc_lt sl 40 (by decide)).2
  have q3 := (plc_lt hn 12 (by decide)).2
  have k1 : T < 8 := by omega
  have k2 : m < 40 := by omega
  have k3 : H < 12 := by omega
  rw [show ((8 : Nat) : Int) = 8 from rfl] at p1 hT q1
  rw [show ((40 : Nat) : Int) = 40 from rfl] at p2 hm q2
  rw [show ((12 : Nat) : Int) = 12 from rfl] at p3 hH q3
  rw [hT] at p1
  rw [hm] at p2
  rw [hH] at p3
  rw [hT, hm]
  have e1 : (1 + (T : Int)).toNat = 1 + T := by omega
  have e2 : (1 + (m : Int)).toNat = 1 + m := by omega
  rw [e1, e2]
  have hnew := new_in (1 + T) (1 + m) H (by omega) (by omega) (by omega) (by omega) (by omega) w
  rw [show ((1 + T : Nat) : Int) = 1 + (T : Int) by omega, show ((1 + m : Nat) : Int) = 1 + (m : Int) by omega] at hnew
  have Hl : Hid (LOps w.heap.size w a ops) := hl
  have HL : Hid (ops.length < 8796093022208) := hlen
  have Hok : Hid (sta0 (1 + T) (1 + m) H).Ok := sta0_ok (by omega) (by omega) (by omega) (by omega) (by omega)
  clear hl hlen hT hm hH q1 q2 q3 b1 b2 b3 e1 e2
  go_enter Tryz.func5, Tryz.ntmps5
  go_wp2_with fail
  refine p1.mono ?_
  rintro e w' ⟨rfl, rfl⟩
  go_wp2_with fail
  refine p2.mono ?_
  rintro e w' ⟨rfl, rfl⟩
  go_wp2_with fail
  refine p3.mono ?_
  rintro e w' ⟨rfl, rfl⟩
  clear p1 p2 p3
  go_wp2_with fail
  refine hnew.mono ?_
  rintro e w1 ⟨b, F1, rfl, H1, t1⟩
  have P1 : Hid (Pl w b (1 + T) (1 + m) 0 w1) := ⟨⟨0, _, F1, H1, Hok.out, rfl, rfl, Nat.le_refl _⟩, t1.below (Nat.le_refl _) (fun k h => by cases h)⟩
  clear hnew H1 t1 Hok
  go_wp2
  go_loopw [15] (fun i wr => ∃ (k : Nat), k ≤ ops.length ∧ i = .int .i64 k ∧ Hid (Pl w b (1 + T) (1 + m) k wr)) (fun i _ => ops.length - (intOf i).toNat)
  case atStart => exact ⟨0, Nat.zero_le _, rfl, P1⟩
  case round =>
    obtain ⟨k, hk, rfl, hp⟩ := hrel
    clear P1
    by_cases hlt : k < ops.length
    · obtain ⟨o, ho⟩ : ∃ o, ops[k]? = some o := ⟨_, List.getElem?_eq_getElem hlt⟩
      obtain ⟨g, off, rfl, hg, c0, c1, c2, c3, c4, c5, -⟩ := (Hl.out.below hp.out.be) k o ho
      obtain ⟨kd, t, n, x, sec, la, l, lc⟩ := o
      simp only at c0 c1 c2 c3 c4 c5
      have hki : (k : Int) < (ops.length : Int) := by omega
      have hk2 : k < 8796093022208 := by have := HL.out; omega
      clear ho
      generalize l.length = ll at *
      go_upto_region 9 with fail
      clear c0 c1 c2 c3 c4 c5
      have P2 : Hid (Pl w b (1 + T) (1 + m) k (wr.alloc (.cells #[.int .i64 kd, .int .i64 t, .int .i64 n, .int .i64 x, .bool sec, .slice la ll lc] 60))) := hp.out.alloc _
      have x0 : (wr.alloc (.cells #[.int .i64 kd, .int .i64 t, .int .i64 n, .int .i64 x, .bool sec, .slice la ll lc] 60)).cell? ⟨wr.heap.size, 0, none⟩ = some (.int .i64 kd) := by simp
      have x1 : (wr.alloc (.cells #[.int .i64 kd, .int .i64 t, .int .i64 n, .int .i64 x, .bool sec, .slice la ll lc] 60)).cell? ⟨wr.heap.size, 1, none⟩ = some (.int .i64 t) := by simp
      have x2 : (wr.alloc (.cells #[.int .i64 kd, .int .i64 t, .int .i64 n, .int .i64 x, .bool sec, .slice la ll lc] 60)).cell? ⟨wr.heap.size, 2, none⟩ = some (.int .i64 n) := by simp
      have x3 : (wr.alloc (.cells #[.int .i64 kd, .int .i64 t, .int .i64 n, .int .i64 x, .bool sec, .slice la ll lc] 60)).cell? ⟨wr.heap.size, 3, none⟩ = some (.int .i64 x) := by simp
      clear hp
      generalize wr.alloc (.cells #[.int .i64 kd, .int .i64 t, .int .i64 n, .int .i64 x, .bool sec, .slice la ll lc] 60) = w2 at *
      generalize wr.heap.size = B at *
      by_cases e1 : kd = 1
      · subst e1
        obtain ⟨e0, hc⟩ := pl_push P2.out t n
        go_wp2_with fail
        refine hc.mono ?_
        rintro e w3 ⟨rfl, P3⟩
        have P3' : Hid (Pl w b (1 + T) (1 + m) (k + 1) w3) := P3
        clear hc P3 P2 x0 x1 x2 x3
        go_wp2
        go_roundw
        case rel => exact ⟨k + 1, hlt, by go_num, P3'⟩
        case measure => simp [intOf]; omega
      have e1' : (kd == 1) = false := by simpa using e1
      clear e1
      by_cases e2 : kd = 2
      · subst e2
        obtain ⟨e0, hc⟩ := pl_pop P2.out t
        go_wp2_with fail
        refine hc.mono ?_
        rintro e w3 ⟨rfl, P3⟩
        have P3' : Hid (Pl w b (1 + T) (1 + m) (k + 1) w3) := P3
        clear hc P3 P2 x0 x1 x2 x3
        go_wp2
        go_roundw
        case rel => exact ⟨k + 1, hlt, by go_num, P3'⟩
        case measure => simp [intOf]; omega
      have e2' : (kd == 2) = false := by simpa using e2
      clear e2
      by_cases e5 : kd = 5
      · subst e5
        obtain ⟨e0, hc⟩ := pl_set P2.out t n x
        go_wp2_with fail
        refine hc.mono ?_
        rintro e w3 ⟨rfl, P3⟩
        have P3' : Hid (Pl w b (1 + T) (1 + m) (k + 1) w3) := P3
        clear hc P3 P2 x0 x1 x2 x3
        go_wp2
        go_roundw
        case rel => exact ⟨k + 1, hlt, by go_num, P3'⟩
        case measure => simp [intOf]; omega
      have e5' : (kd == 5) = false := by simpa using e5
      clear e5
      by_cases e6 : kd = 6
      · subst e6
        obtain ⟨e0, f0, hc⟩ := pl_open P2.out x
        go_wp2_with fail
        refine hc.mono ?_
        rintro e w3 ⟨rfl, P3⟩
        have P3' : Hid (Pl w b (1 + T) (1 + m) (k + 1) w3) := P3
        clear hc P3 P2 x0 x1 x2 x3
        go_wp2
        go_roundw
        case rel => exact ⟨k + 1, hlt, by go_num, P3'⟩
        case measure => simp [intOf]; omega
      have e6' : (kd == 6) = false := by simpa using e6
      clear e6
      by_cases e8 : kd = 8
      · subst e8
        obtain ⟨e0, hc⟩ := pl_close P2.out n
        go_wp2_with fail
        refine hc.mono ?_
        rintro e w3 ⟨rfl, P3⟩
        have P3' : Hid (Pl w b (1 + T) (1 + m) (k + 1) w3) := P3
        clear hc P3 P2 x0 x1 x2 x3
        go_wp2
        go_roundw
        case rel => exact ⟨k + 1, hlt, by go_num, P3'⟩
        case measure => simp [intOf]; omega
      have e8' : (kd == 8) = false := by simpa using e8
      clear e8
      by_cases e10 : kd = 10
      · subst e10
        have hc := pl_enq P2.out x hk2
        go_wp2_with fail
        refine hc.mono ?_
        rintro e w3 ⟨rfl, P3⟩
        have P3' : Hid (Pl w b (1 + T) (1 + m) (k + 1) w3) := P3
        clear hc P3 P2 x0 x1 x2 x3
        go_wp2
        go_roundw
        case rel => exact ⟨k + 1, hlt, by go_num, P3'⟩
        case measure => simp [intOf]; omega
      have e10' : (kd == 10) = false := by simpa using e10
      clear e10
      by_cases e11 : kd = 11
      · subst e11
        obtain ⟨e0, f0, hc⟩ := pl_deq P2.out hk2
        go_wp2_with fail
        refine hc.mono ?_
        rintro e w3 ⟨rfl, P3⟩
        have P3' : Hid (Pl w b (1 + T) (1 + m) (k + 1) w3) := P3
        clear hc P3 P2 x0 x1 x2 x3
        go_wp2
        go_roundw
        case rel => exact ⟨k + 1, hlt, by go_num, P3'⟩
        case measure => simp [intOf]; omega
      have e11' : (kd == 11) = false := by simpa using e11
      clear e11
      have P3' : Hid (Pl w b (1 + T) (1 + m) (k + 1) w2) := P2.out.mono
      clear P2
      go_wp2
      go_roundw
      case rel => exact ⟨k + 1, hlt, by go_num, P3'⟩
      case measure => simp [intOf]; omega
    · obtain rfl : k = ops.length := by omega
      go_wp2
      go_ret2
      exact ⟨b, rfl, hp.out⟩

end Go.Proofs.YtdlannfjnljbcaaGreatDoor
