/-
  Pop.
-/
import Derived.Test.YtdlannfjnljbcaaGreatDoorR6
import Derived.Test.YtdlannfjnljbcaaGreatDoorRQ
set_option linter.unusedVariables false
namespace Go.Proofs.YtdlannfjnljbcaaGreatDoor
open Go.RowKit

theorem cell_set_ne (w : World) (b i j : Nat) (v : Value) (h : i ≠ j) : (w.setCell ⟨b, i, none⟩ v).cell? ⟨b, j, none⟩ = w.cell? ⟨b, j, none⟩ := by
  exact World.cell?_setCell_other _ _ _ _ (fun e => h (by injection e))

theorem own_cut {w : World} {base e g cap N : Nat} {xs : List Value} (h : w.ownsRow base e 1 (.slice (some ⟨g, 0, none⟩) N cap) N xs) {n : Nat} (hn : n ≤ N) : w.ownsRow base e 1 (.slice (some ⟨g, 0, none⟩) n cap) n (xs.take n) := by
  have hl := h.1
  rcases h.2 with ⟨h2, _⟩ | ⟨g', cap', cur, hv, hb, hg, hn', hm, hs, ht⟩
  · simp at h2
  · simp only [Value.slice.injEq, Option.some.injEq, Addr.mk.injEq, true_and, and_true] at hv
    obtain ⟨rfl, rfl⟩ := hv
    refine ⟨by simp; omega, .inr ⟨g, cap, cur, rfl, hb, hg, by omega, hm, hs, ?_⟩⟩
    rw [← ht, List.take_take, Nat.mul_one, Nat.mul_one, Nat.min_eq_left hn]

theorem own_addr {w : World} {base n e size : Nat} {v : Value} {xs : List Value} (h : w.ownsRow base e size v n xs) (hn : 0 < n) : ∃ g cap, v = .slice (some ⟨g, 0, none⟩) n cap ∧ n ≤ cap ∧ cap ≤ maxLen := by
  rcases h.2 with ⟨_, rfl⟩ | ⟨g, cap, cur, rfl, _, _, h1, h2, _⟩
  · omega
  · exact ⟨g, cap, rfl, h1, h2⟩

set_option maxRecDepth 20000 in
theorem pop_e51 (b g T cap : Nat) (t : Int) (w : World) (h0 : w.cell? ⟨b, 0, none⟩ = some (.slice (some ⟨g, 0, none⟩) T cap)) (hn : ¬ (0 ≤ t ∧ t < T)) (hT : T ≤ 8) :
    Calls Tryz.prog 21 #[.pointer (some ⟨b, 0, none⟩), .int .i64 t] w fun e w' => e = .returned (.int .i64 51) ∧ w = w' := by
  have hth := thread_out b g T cap t w h0 hn hT
  clear hn
  go_enter Tryz.func21, Tryz.ntmps21
  go_wp2_with fail
  refine hth.mono ?_
  rintro e w' ⟨rfl, rfl⟩
  go_wp2
  go_ret
  exact ⟨rfl, rfl⟩

set_option maxRecDepth 20000 in
theorem pop_e54 (b g T cap t c : Nat) (a : Option Addr) (w : World) (h0 : w.cell? ⟨b, 0, none⟩ = some (.slice (some ⟨g, 0, none⟩) T cap)) (h1 : w.cell? ⟨g, t * 2, none⟩ = some (.slice a 0 c)) (ht : t < T) (hT : T ≤ 8) :
    Calls Tryz.prog 21 #[.pointer (some ⟨b, 0, none⟩), .int .i64 t] w fun e w' => e = .returned (.int .i64 54) ∧ w = w' := by
  have hth := thread_in b g T t cap w h0 ht hT
  go_enter Tryz.func21, Tryz.ntmps21
  go_wp2_with fail
  refine hth.mono ?_
  rintro e w' ⟨rfl, rfl⟩
  go_wp2
  go_ret
  exact ⟨rfl, rfl⟩

set_option maxRecDepth 20000 in
set_option maxHeartbeats 2000000 in
theorem pop_walk (b g T cap t a k c s n m d : Nat) (w : World) (h0 : w.cell? ⟨b, 0, none⟩ = some (.slice (some ⟨g, 0, none⟩) T cap)) (ht : t < T) (hT : T ≤ 8)
    (h1 : w.cell? ⟨g, t * 2, none⟩ = some (.slice (some ⟨a, 0, none⟩) (k + 1) c)) (h2 : w.cell? ⟨g, t * 2 + 1, none⟩ = some (.slice (some ⟨s, 0, none⟩) (n + m) d)) (f1 : w.frozen? ⟨g, t * 2, none⟩ = false) (f2 : w.frozen? ⟨g, t * 2 + 1, none⟩ = false)
    (h3 : w.cell? ⟨a, k, none⟩ = some (.int .i64 m)) (hm : 0 < m) (hn : n + m ≤ 4096) (hk : k < 4096) (hd : n + m ≤ d) (hc : k + 1 ≤ c) :
    Calls Tryz.prog 21 #[.pointer (some ⟨b, 0, none⟩), .int .i64 t] w fun e w' => e = .returned (.int .i64 0) ∧ ∃ nq mq, w' = (((w.drewN nq).setCell ⟨g, t * 2 + 1, none⟩ (.slice (some ⟨s, 0, none⟩) n d)).drewN mq).setCell ⟨g, t * 2, none⟩ (.slice (some ⟨a, 0, none⟩) k c) := by
  have hth := thread_in b g T t cap w h0 ht hT
  have htop := fun q => top_some g (t * 2) a k c s n m d (w.drewN q) h1 h2 h3 hm hn hk hd
  have e1 : (((n : Int) + (m : Int)) - (m : Int)) = (n : Int) := by omega
  have Hb : Hid (0 < m ∧ n + m ≤ 4096 ∧ k < 4096 ∧ n + m ≤ d ∧ k + 1 ≤ c) := ⟨hm, hn, hk, hd, hc⟩
  have b1 : n ≤ d := by omega
  have b2 : k ≤ c := by omega
  have wn : IntKind.i64.wrap (n : Int) = (n : Int) := by rw [IntKind.wrap_i64]; omega
  have wk : IntKind.i64.wrap (k : Int) = (k : Int) := by rw [IntKind.wrap_i64]; omega
  have b3 : ¬ (d = 0) := by omega
  have b4 : ¬ (c = 0) := by omega
  go_enter Tryz.func21, Tryz.ntmps21
  go_wp2_with fail
  refine hth.mono ?_
  rintro e w' ⟨rfl, rfl⟩
  go_wp2_with fail
  go_cut [] from 19 to 35 (fun w' => ∃ nq, w' = (w.drewN nq).setCell ⟨g, t * 2 + 1, none⟩ (.slice (some ⟨s, 0, none⟩) n d))
  case first =>
    go_region_with (go_at_call 52; refine (htop _).mono ?_; rintro e w1 ⟨rfl, nq, rfl⟩)
    all_goals (go_wp2_with fail; go_meet; exact ⟨_, rfl⟩)
  case rest =>
    obtain ⟨nq, rfl⟩ := hcut
    have h1' : ((w.drewN nq).setCell ⟨g, t * 2 + 1, none⟩ (.slice (some ⟨s, 0, none⟩) n d)).cell? ⟨g, t * 2, none⟩ = some (.slice (some ⟨a, 0, none⟩) (k + 1) c) := by
      exact (cell_set_ne (w.drewN nq) g (t * 2 + 1) (t * 2) _ (by omega)).trans h1
    have f1' : ((w.drewN nq).setCell ⟨g, t * 2 + 1, none⟩ (.slice (some ⟨s, 0, none⟩) n d)).frozen? ⟨g, t * 2, none⟩ = false := by
      rw [World.frozen?_setCell]; exact f1
    obtain ⟨w2, hw2⟩ : ∃ w2, w2 = (w.drewN nq).setCell ⟨g, t * 2 + 1, none⟩ (.slice (some ⟨s, 0, none⟩) n d) := ⟨_, rfl⟩
    rw [← hw2] at h1' f1' ⊢
    have Hw2 : Hid (w2 = (w.drewN nq).setCell ⟨g, t * 2 + 1, none⟩ (.slice (some ⟨s, 0, none⟩) n d)) := hw2
    clear hw2 htop hth h0 h1 h2 h3 f1 f2
    go_wp2_with fail
    refine quiet_tail 12 mixed (by kernel_rfl) ?_
    simp only [List.take_succ_cons, List.take_zero, List.drop_succ_cons, List.drop_zero]
    repeat (go_big_quiet_step (fail))
    refine wpQuiet_nil ?_
    go_wp2
    go_ret
    exact ⟨rfl, nq, 1, by rw [Hw2.out]; rfl⟩

/-- A frame less: m its size. -/
def Sta.pop (S : Sta) (t : Nat) (m : Nat) : Sta := { S with rw := upd (upd S.rw (t * 2) (S.rw (t * 2)).dropLast) (t * 2 + 1) ((S.rw (t * 2 + 1)).take ((S.rw (t * 2 + 1)).length - m)) }

/-- What Pop answers, and what it leaves. -/
def Sta.popE (S : Sta) (t : Int) : Int := if 0 ≤ t ∧ t < S.T then (if S.rw (t.toNat * 2) = [] then 54 else 0) else 51

def Sta.popS (S : Sta) (t : Int) : Sta := if S.popE t = 0 then S.pop t.toNat ((S.rw (t.toNat * 2)).getLastD 0).toNat else S

theorem upd_comm {α : Type} (f : Nat → α) {i j : Nat} (h : i ≠ j) (x y : α) : upd (upd f i x) j y = upd (upd f j y) i x := by
  funext k
  unfold upd
  by_cases e : k = i
  · subst e; simp [h]
  · simp [e]

/-- The last frame of a thread that has one. -/
theorem Sta.Ok.last {S : Sta} (h : S.Ok) {t : Nat} (ht : t < S.T) (hne : S.rw (t * 2) ≠ []) : ∃ (l : List Int) (m n : Nat), S.rw (t * 2) = l ++ [(m : Int)] ∧ 0 < m ∧ (S.rw (t * 2 + 1)).length = n + m ∧ l.sum = n ∧ l.length + 1 ≤ 4096 ∧ n + m ≤ 4096 := by
  obtain ⟨l, x, e⟩ : ∃ l x, S.rw (t * 2) = l ++ [x] := ⟨_, _, (List.dropLast_concat_getLast hne).symm⟩
  have h1 := h.sum t ht
  have h2 := h.pos t ht
  have h3 := h.room t ht
  have h4 := h.m2
  have h5 := h.frames ht
  rw [e] at h1 h2 h5
  have hx := h2 x (by simp)
  have hl := len_le_sum l (fun n hn => h2 n (by simp [hn]))
  obtain ⟨m, rfl⟩ := Int.eq_ofNat_of_zero_le (show 0 ≤ x by omega)
  simp at h1 h5
  refine ⟨l, m, (S.rw (t * 2 + 1)).length - m, e, by omega, by omega, by omega, by omega, by omega⟩

theorem pop_core (base b g h q N t : Nat) (FQ : List Nat) (vs : Nat → Value) (S : Sta) (w : World) (H : Rt w base b g h q N FQ vs S) (hO : S.Ok) (ht : t < S.T) (l : List Int) (m n : Nat) (e : S.rw (t * 2) = l ++ [(m : Int)]) (hm : 0 < m) (hn : (S.rw (t * 2 + 1)).length = n + m) (hl : l.length + 1 ≤ 4096) (hnm : n + m ≤ 4096) :
    Calls Tryz.prog 21 #[.pointer (some ⟨b, 0, none⟩), .int .i64 t] w fun e w' => e = .returned (.int .i64 0) ∧ ∃ vs', Rt w' base b g h q N FQ vs' (S.pop t m) ∧ Touch [g] w w' ∧ (∀ i, i < S.T * 2 → (vs' i).ownBlock = (vs i).ownBlock) := by
  have r0 := H.row (t * 2) (by omega)
  have r1 := H.row (t * 2 + 1) (by omega)
  have d0 := H.thr.cell (i := t * 2) (by omega)
  have d1 := H.thr.cell (i := t * 2 + 1) (by omega)
  have f0 := H.thr.frozen (t * 2)
  have f1 := H.thr.frozen (t * 2 + 1)
  have el : (S.rw (t * 2)).length = l.length + 1 := by rw [e]; simp
  rw [el] at r0
  rw [hn] at r1
  obtain ⟨a, c, ea, ca, -⟩ := own_addr r0 (by omega)
  obtain ⟨s, d, es, cs, -⟩ := own_addr r1 (by omega)
  have r0' := r0
  have r1' := r1
  rw [ea] at d0 r0'
  rw [es] at d1 r1'
  have hcx : w.cell? ⟨a, l.length, none⟩ = some (.int .i64 m) := by
    rw [r0'.cellAt _ (by omega), e]; simp
  refine (pop_walk b g S.T S.T t a l.length c s n m d w H.c0 ht hO.T8 d0 d1 f0 f1 hcx hm hnm (by omega) cs ca).mono ?_
  rintro e' w' ⟨rfl, nq, mq, rfl⟩
  have x1 := own_cut r1' (n := n) (by omega)
  have x0 := own_cut r0' (n := l.length) (by omega)
  have ne_s : some g ≠ (Value.slice (some ⟨s, 0, none⟩) n d).ownBlock := fun hh => H.row_ne_g (i := t * 2 + 1) (by omega) (k := s) (by rw [es]; rfl) (by simpa [Value.ownBlock] using hh.symm)
  have ne_a : some g ≠ (Value.slice (some ⟨a, 0, none⟩) l.length c).ownBlock := fun hh => H.row_ne_g (i := t * 2) (by omega) (k := a) (by rw [ea]; rfl) (by simpa [Value.ownBlock] using hh.symm)
  have e1 : (ints (S.rw (t * 2 + 1))).take n = ints ((S.rw (t * 2 + 1)).take n) := by simp [ints, List.map_take]
  have e0 : (ints (S.rw (t * 2))).take l.length = ints l := by rw [e]; simp [ints]
  rw [e1] at x1
  rw [e0] at x0
  have hl1 : ((S.rw (t * 2 + 1)).take n).length = n := by simp; omega
  have H1 : Rt ((w.drewN nq).setCell ⟨g, t * 2 + 1, none⟩ (.slice (some ⟨s, 0, none⟩) n d)) base b g h q N FQ (upd vs (t * 2 + 1) (.slice (some ⟨s, 0, none⟩) n d)) { S with rw := upd S.rw (t * 2 + 1) ((S.rw (t * 2 + 1)).take n) } := by
    refine H.setRow (by omega) ((Touch.drewN _ w nq).trans (Touch.setCell _ _ _ (by simp))) (World.rowIs.set (show (w.drewN nq).rowIs g 84 (S.T * 2) vs from H.thr) (t * 2 + 1) _) ?_ (.inl (by rw [es]; rfl))
    rw [hl1]
    exact ownsRow_setOther (show (w.drewN nq).ownsRow base 3 1 _ _ _ from x1) ne_s _
  have H2 : Rt ((((w.drewN nq).setCell ⟨g, t * 2 + 1, none⟩ (.slice (some ⟨s, 0, none⟩) n d)).drewN mq).setCell ⟨g, t * 2, none⟩ (.slice (some ⟨a, 0, none⟩) l.length c)) base b g h q N FQ (upd (upd vs (t * 2 + 1) (.slice (some ⟨s, 0, none⟩) n d)) (t * 2) (.slice (some ⟨a, 0, none⟩) l.length c)) { S with rw := upd (upd S.rw (t * 2 + 1) ((S.rw (t * 2 + 1)).take n)) (t * 2) l } := by
    refine H1.setRow (S := { S with rw := upd S.rw (t * 2 + 1) ((S.rw (t * 2 + 1)).take n) }) (by show _ < S.T * 2; omega) ((Touch.drewN _ _ mq).trans (Touch.setCell _ _ _ (by simp))) (World.rowIs.set (show (((w.drewN nq).setCell ⟨g, t * 2 + 1, none⟩ (.slice (some ⟨s, 0, none⟩) n d)).drewN mq).rowIs g 84 (S.T * 2) _ from H1.thr) (t * 2) _) ?_ (.inl (by rw [upd_ne _ _ (by omega), ea]; rfl))
    exact ownsRow_setOther (show (((w.drewN nq).setCell ⟨g, t * 2 + 1, none⟩ (.slice (some ⟨s, 0, none⟩) n d)).drewN mq).ownsRow base 3 1 _ _ _ from ownsRow_setOther (show (w.drewN nq).ownsRow base 3 1 _ _ _ from x0) ne_a _) ne_a _
  have eS : ({ S with rw := upd (upd S.rw (t * 2 + 1) ((S.rw (t * 2 + 1)).take n)) (t * 2) l } : Sta) = S.pop t m := by
    unfold Sta.pop
    rw [upd_comm _ (by omega), e, hn]
    simp
  rw [eS] at H2
  refine ⟨rfl, _, H2, (((Touch.drewN _ w nq).trans (Touch.setCell _ _ _ (by simp))).trans (Touch.drewN _ _ mq)).trans (Touch.setCell _ _ _ (by simp)), fun i hi => ?_⟩
  by_cases e2 : i = t * 2
  · subst e2; rw [upd_same, ea]; rfl
  · rw [upd_ne _ _ e2]
    by_cases e3 : i = t * 2 + 1
    · subst e3; rw [upd_same, es]; rfl
    · rw [upd_ne _ _ e3]

theorem pop_any (base b N : Nat) (t : Int) (S : Sta) (F : List Nat) (w : World) (H : Rts w base b N S F) (hO : S.Ok) :
    Calls Tryz.prog 21 #[.pointer (some ⟨b, 0, none⟩), .int .i64 t] w fun e w' => e = .returned (.int .i64 (S.popE t)) ∧ ∃ F', Rts w' base b N (S.popS t) F' ∧ Touch F w w' ∧ Newer w.heap.size F F' := by
  obtain ⟨g, h, q, FQ, vs, H, rfl⟩ := H
  by_cases ht : 0 ≤ t ∧ t < S.T
  · obtain ⟨t, rfl⟩ := Int.eq_ofNat_of_zero_le ht.1
    have ht2 : t < S.T := by omega
    by_cases hn : S.rw (t * 2) = []
    · have e : S.popE t = 54 := by unfold Sta.popE; rw [if_pos ht, if_pos]; exact hn
      rw [e]
      obtain ⟨a, c, ea⟩ := own_slice (H.row (t * 2) (by omega))
      have d0 := H.thr.cell (i := t * 2) (by omega)
      rw [ea, hn] at d0
      refine (pop_e54 b g S.T S.T t c a w H.c0 d0 ht2 hO.T8).mono ?_
      rintro e' w' ⟨rfl, rfl⟩
      exact ⟨rfl, _, ⟨g, h, q, FQ, vs, by unfold Sta.popS; rw [e]; exact H, by unfold Sta.popS; rw [e]; rfl⟩, Touch.refl _ _, Newer.refl _ _⟩
    · have e : S.popE t = 0 := by unfold Sta.popE; rw [if_pos ht, if_neg]; exact hn
      rw [e]
      obtain ⟨l, m, n, e1, h1, h2, h3, h4, h5⟩ := hO.last ht2 hn
      have eS : S.popS t = S.pop t m := by unfold Sta.popS; rw [if_pos e]; simp [e1]
      rw [eS]
      refine (pop_core base b g h q N t FQ vs S w H hO ht2 l m n e1 h1 h2 h4 h5).mono ?_
      rintro e' w' ⟨rfl, vs', H', ht', hv⟩
      exact ⟨rfl, _, ⟨g, h, q, FQ, vs', H', rfl⟩, ht'.mono (fun k hk => .inl (by simp at hk; simp [mem_fp, hk])), fp_new (fun i k hi hk => .inl (by rw [← hv i hi]; exact hk)) (Newer.refl _ _)⟩
  · have e : S.popE t = 51 := by unfold Sta.popE; rw [if_neg ht]
    rw [e]
    refine (pop_e51 b g S.T S.T t w H.c0 ht hO.T8).mono ?_
    rintro e' w' ⟨rfl, rfl⟩
    exact ⟨rfl, _, ⟨g, h, q, FQ, vs, by unfold Sta.popS; rw [e]; exact H, by unfold Sta.popS; rw [e]; rfl⟩, Touch.refl _ _, Newer.refl _ _⟩

theorem Sta.Ok.popS {S : Sta} (h : S.Ok) (t : Int) : (S.popS t).Ok := by
  unfold Sta.popS
  split
  · rename_i he
    have ht : 0 ≤ t ∧ t < S.T := by
      apply Classical.byContradiction; intro hn; unfold Sta.popE at he; rw [if_neg hn] at he; cases he
    have hne : S.rw (t.toNat * 2) ≠ [] := by
      intro hn; unfold Sta.popE at he; rw [if_pos ht, if_pos hn] at he; cases he
    obtain ⟨l, m, n, e1, h1, h2, h3, h4, h5⟩ := h.last (t := t.toNat) (by omega) hne
    have hp := h.pos t.toNat (by omega)
    have hr := h.room t.toNat (by omega)
    have h0 := h.s0 t.toNat (by omega)
    refine h.turn t.toNat _ _ ?_ ?_ ?_ ?_
    · rw [e1, h2]; simp; omega
    · rw [e1] at hp ⊢; simp; intro x hx; exact hp x (by simp [hx])
    · simp; omega
    · intro x hx; exact h0 x (List.mem_of_mem_take hx)
  · exact h

end Go.Proofs.YtdlannfjnljbcaaGreatDoor
