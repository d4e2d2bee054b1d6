import Derived.Test.YtblbiikfipcbcaaDoorPWb
import Derived.Deep.WholeRow
import Derived.Test.YtblbiikfipcbcaaDoorRM7
import Derived.Lib.AppendStr
/-
  Images, the writer: the checksum.
-/
set_option linter.unusedVariables false
set_option maxRecDepth 20000
namespace Go.Proofs.YtblbiikfipcbcaaDoor
open Go.RowKit Go.Shelf

theorem xor32 (a b : Nat) (ha : a < 4294967296) (hb : b < 4294967296) : bits BinOp.xor IntKind.u32 (a : Int) (b : Int) = ((a ^^^ b : Nat) : Int) := by
  have h1 : a ^^^ b < 2 ^ 32 := Nat.xor_lt_two_pow ha hb
  unfold bits
  simp only [BitVec.toNat_xor, BitVec.ofInt_natCast, BitVec.toNat_ofNat]
  rw [show (2 : Nat) ^ IntKind.u32.bits = 4294967296 from rfl, Nat.mod_eq_of_lt ha, Nat.mod_eq_of_lt hb, IntKind.wrap_u32]
  omega

theorem xor64 (a b : Nat) (ha : a < 18446744073709551616) (hb : b < 18446744073709551616) : bits BinOp.xor IntKind.u64 (a : Int) (b : Int) = ((a ^^^ b : Nat) : Int) := by
  have h1 : a ^^^ b < 2 ^ 64 := Nat.xor_lt_two_pow ha hb
  unfold bits
  simp only [BitVec.toNat_xor, BitVec.ofInt_natCast, BitVec.toNat_ofNat]
  rw [show (2 : Nat) ^ IntKind.u64.bits = 18446744073709551616 from rfl, Nat.mod_eq_of_lt ha, Nat.mod_eq_of_lt hb, IntKind.wrap_u64]
  omega

theorem fnv_take {bs : List Nat} {k x : Nat} (h : bs[k]? = some x) : Im.fnv (bs.take (k + 1)) = (Im.fnv (bs.take k) ^^^ x) * 16777619 % 4294967296 := by
  rw [← Im.fnv_snoc]
  congr 1
  rw [List.take_add_one, h]
  rfl

/-- Bytes as they are read. -/
theorem Lrd.byte {n0 : Nat} {w : World} {v : Value} {bs : List Nat} (h : Lrd n0 w v .u8 (bs.map Int.ofNat)) : ∃ a cap, v = .slice a bs.length cap ∧ bs.length ≤ cap ∧ ∀ (i : Nat) x, bs[i]? = some x → ∃ q off, a = some ⟨q, off, none⟩ ∧ q < n0 ∧ w.cell? ⟨q, off + i, none⟩ = some (.int .u8 (x : Int)) := by
  obtain ⟨a, cap, h1, h2, h3⟩ := h
  rw [List.length_map] at h1 h2
  exact ⟨a, cap, h1, h2, fun i x hx => h3 i (Int.ofNat x) (by rw [List.getElem?_map, hx]; rfl)⟩

theorem Lrd.of_bts {w : World} {v : Value} {bs : List Nat} (h : w.ownsRow 0 5 1 v bs.length (bts bs)) : Lrd w.heap.size w v .u8 (bs.map Int.ofNat) := by
  have e : bts bs = (bs.map Int.ofNat).map (Value.int .u8) := by unfold bts; rw [List.map_map]; rfl
  have h' : w.ownsRow 0 5 1 v (bs.map Int.ofNat).length ((bs.map Int.ofNat).map (Value.int .u8)) := by rw [List.length_map, ← e]; exact h
  exact Lrd.of_row h'

theorem results_cell9 {P : Program} {fn : Func} {p : Tmp} {ty : TypeId} (h : fn.results = #[.cell p ty]) {tmps : Array Value} {w : World} {v : Value} {A : Addr} (ha : tmps.getD p undef = .pointer (some A)) (hl : (loadVar ty A).run P w = .ok v w) :
    (results fn tmps).run P w = .ok v w := by
  have ha' : tmps[p]?.getD undef = .pointer (some A) := by simpa using ha
  simp [results, h, ha', asAddr, hl]

abbrev sumCells (s : Nat) : Array Value := #[.int .u8 ((s : Int) % 256), .int .u8 ((s : Int) / 256 % 256), .int .u8 ((s : Int) / 65536 % 256), .int .u8 ((s : Int) / 16777216 % 256)]

set_option maxHeartbeats 8000000 in
/-- The checksum. -/
theorem sealed_any (n0 : Nat) (w : World) (hn : n0 ≤ w.heap.size) (v : Value) (bs : List Nat) (hv : Lrd n0 w v .u8 (bs.map Int.ofNat)) (hb : ∀ x, x ∈ bs → x < 256) (hl : bs.length ≤ 1000000000000) :
    Calls Tryd.prog 69 #[v] w fun e w' => e = .returned (.agg (sumCells (Im.fnv bs))) ∧ Below w.heap.size w w' := by
  have Hv : Hid (∀ w', Below n0 w w' → Lrd n0 w' v .u8 (bs.map Int.ofNat)) := fun w' b' => hv.below b'
  have Hb : Hid (∀ x, x ∈ bs → x < 256) := hb
  obtain ⟨a, cap, rfl, hcap, -⟩ := hv.byte
  clear hv hb
  have b1 : Below w.heap.size w (w.alloc (.cells #[.int .u8 0, .int .u8 0, .int .u8 0, .int .u8 0] 112)) := Below.alloc (Below.refl _ _) (Nat.le_refl _) _
  have hx := heap_alloc_new w (.cells #[.int .u8 0, .int .u8 0, .int .u8 0, .int .u8 0] 112 (0, 0))
  go_enter Tryd.func69, Tryd.ntmps69
  go_upto_region 1 with fail
  have HB : Hid (Below w.heap.size w (w.alloc (.cells #[.int .u8 0, .int .u8 0, .int .u8 0, .int .u8 0] 112))) := b1
  clear b1 hx
  go_wp2
  go_loopw [3, 8] (fun v3 v8 wr => ∃ k : Nat, k ≤ bs.length ∧ v3 = .int .u32 ((Im.fnv (bs.take k) : Nat) : Int) ∧ v8 = .int .i64 k ∧ wr = w.alloc (.cells #[.int .u8 0, .int .u8 0, .int .u8 0, .int .u8 0] 112)) (fun _ v8 _ => bs.length - (intOf v8).toNat)
  case atStart => exact ⟨0, Nat.zero_le _, by rw [List.take_zero, Im.fnv_nil]; rfl, rfl, rfl⟩
  case round =>
    obtain ⟨k, hk, rfl, rfl, rfl⟩ := hrel
    by_cases hkl : k < bs.length
    · have hkI : (k : Int) < (bs.length : Int) := by omega
      have hz : bs[k]? = some (bs[k]'hkl) := List.getElem?_eq_getElem hkl
      generalize bs[k]'hkl = x at hz
      have hxb := Hb.out x (List.mem_of_getElem? hz)
      obtain ⟨a', cap', e', -, hel⟩ := (Hv.out _ (HB.out.mono hn)).byte
      cases e'
      obtain ⟨q, off, rfl, hq, hce⟩ := hel k x hz
      have Ht : Hid (Im.fnv (bs.take (k + 1)) = (Im.fnv (bs.take k) ^^^ x) * 16777619 % 4294967296) := fnv_take hz
      have hF := Im.fnv_lt (bs.take k)
      have hX := xor32 (Im.fnv (bs.take k)) x hF (by omega)
      generalize Im.fnv (bs.take k) = s at *
      go_wp2
      go_roundw
      case rel =>
        refine ⟨k + 1, by omega, ?_, by go_num, trivial⟩
        rw [Ht.out]
        simp
      case measure => simp [intOf]; omega
    · have hkI : ¬ (k : Int) < (bs.length : Int) := by omega
      have e9 : bs.take k = bs := List.take_of_length_le (by omega)
      rw [e9]
      have hF := Im.fnv_lt bs
      obtain ⟨s, hs⟩ : ∃ s, Im.fnv bs = s := ⟨_, rfl⟩
      rw [hs]
      have Hs : Hid (Im.fnv bs = s) := hs
      rw [hs] at hF
      clear hs
      go_wp2
      refine bodyPost_ret (results_cell9 Tryd.results69 rfl (run_loadVar_new w 112 _ 4 5 Tryd.underlying112 (by kernel_rfl))) rfl ?_
      refine ⟨?_, Below.alloc (Below.refl _ _) (Nat.le_refl _) _⟩
      rw [Hs.out]
      have e4 : (s : Int) / 16777216 % 256 = (s : Int) / 16777216 := by omega
      simp [sumCells, e4]

end Go.Proofs.YtblbiikfipcbcaaDoor

/-
  Images, the writer: its beginning and its end.
-/
set_option linter.unusedVariables false
set_option maxRecDepth 20000
namespace Go.Proofs.YtblbiikfipcbcaaDoor
open Go.RowKit Go.Shelf

theorem wpList_append_str {P : Program} {w : World} {ops : Array Oper} {rest : List Oper} {o : Oper} {a : Act} {Q : Exit → Act → World → Prop} (hgd : o.guard = none) (sl x : Operand) (t u : TypeId)
    (ho : o.op = .call { callee := .builtin .append, args := #[sl, x], argTypes := #[t, u] })
    (e : TypeId) (i : TypeInfo) (ht : P.underlying t = some (.slice e)) (hu : P.underlying u = some .string) (hi : P.info? e = some i) (hz : i.zero = some (.int .u8 0)) (hsize : i.size = 1) (hby : i.bytes = 1)
    (hs : a.eval sl = .slice none 0 0) (s : ByteArray) (hx : a.eval x = .string s) (hn : s.size ≤ 1000000)
    (h : ∀ v' w', w'.ownsRow w.heap.size e 1 v' s.size (Lib.strCells s) → w.grownBy w' none → wpList P ops Q rest (a.put o.dst v') w') :
    wpList P ops Q (o :: rest) a w := by
  refine wpList_plain hgd fun K hK => ?_
  obtain ⟨v', w', hr, h2, h3, -⟩ := Lib.run_append_own_string (P := P) w w.heap.size t u o.type e i ht hu hi hz hsize hby (.slice none 0 0) 0 [] (World.ownsRow_nil _ _ _ _) s (by simp only [maxLen]; omega) (by omega) (Nat.le_refl _)
  unfold Oper.wp execOp
  simp only [ho, resolve, invoke, builtin, Sem.run_bind, Sem.run_pure, Result.andThen_ok, List.map_toArray, List.map_cons, List.map_nil, hs, hx, hr]
  exact hK _ _ (h v' w' (by simpa using h2) h3)

set_option maxHeartbeats 4000000 in
theorem begin_any (w : World) (R : Nat) (h : w.heap[R]? = some (.cells #[.slice none 0 0] 64 (0, 0))) :
    Calls Tryd.prog 25 #[.pointer (some ⟨R, 0, none⟩)] w fun e w' => e = .returned (.tuple #[]) ∧ ∃ Q, Wr w' R Q Im.magic ∧ Kg.Touch [R] w w' ∧ w.heap.size ≤ Q := by
  obtain ⟨i0, hi0, hj0, hj1, hj2⟩ := info_parts infoU8
  have HI : Hid (Tryd.prog.info? 5 = some i0 ∧ i0.zero = some (.int .u8 0) ∧ i0.size = 1 ∧ i0.bytes = 1) := ⟨hi0, hj0, hj1, hj2⟩
  clear hi0 hj0 hj1 hj2
  have c0 := (Kg.heap_cell h 0).trans (show _ = some (.slice none 0 0) from rfl)
  have H : Hid (w.heap[R]? = some (.cells #[.slice none 0 0] 64 (0, 0))) := h
  clear h
  go_enter Tryd.func25, Tryd.ntmps25
  go_wp2_with (at_builtin; refine wpList_append_str rfl _ _ 22 9 rfl 5 i0 Tryd.underlying22 Tryd.underlying9 HI.out.1 HI.out.2.1 HI.out.2.2.1 HI.out.2.2.2 rfl _ rfl (by decide) ?_; intro v' w8 hown' hgrow; obtain ⟨Z, cz, hZ⟩ := Kg.ownsRow_some hown' (by decide); subst hZ; have hr8 := (hgrow.block R (Kg.heap_lt H.out) (fun e => nomatch e)).trans H.out; have r8 := (Kg.heap_cell hr8 0).trans (show _ = some (.slice none 0 0) from rfl); have f8 := Kg.heap_frozen hr8 0)
  have ho2 : w8.ownsRow 0 5 1 (.slice (some ⟨Z, 0, none⟩) 4 cz) 4 (bts Im.magic) := Kg.row_base hown' (Nat.zero_le _)
  have hZ := (hown'.lt Z rfl).1
  have hT : Kg.Touch [R] w (w8.setCell ⟨R, 0, none⟩ (.slice (some ⟨Z, 0, none⟩) 4 cz)) := (Kg.Touch.grown (F := [R]) hgrow (fun k hk => nomatch hk)).trans (Kg.Touch.setCell _ _ _ (by simp))
  have hW : Wr (w8.setCell ⟨R, 0, none⟩ (.slice (some ⟨Z, 0, none⟩) 4 cz)) R Z Im.magic := ⟨cz, by rw [Kg.heap_set hr8]; rfl, Kg.ownsRow_setOther ho2 (Kg.row_ne hr8 ho2 (by decide)) _⟩
  refine bodyPost_end (v := .tuple #[]) ?_ rfl ⟨rfl, Z, hW, hT, hZ⟩
  simp [results, Tryd.results25, go_sem]

theorem le4_bts (s : Nat) : bts (Im.le4 s) = (sumCells s).toList := by simp [bts, Im.le4]

set_option maxHeartbeats 8000000 in
theorem end_any (w : World) (R Q : Nat) (bs : List Nat) (h : Wr w R Q bs) (hb : ∀ x, x ∈ bs → x < 256) (hl : bs.length ≤ 200000000000) :
    Calls Tryd.prog 28 #[.pointer (some ⟨R, 0, none⟩)] w fun e w' => e = .returned (.tuple #[]) ∧ ∃ Q', Wr w' R Q' (bs ++ Im.le4 (Im.fnv bs)) ∧ Kp R w Q w' Q' := by
  obtain ⟨i0, hi0, hj0, hj1, hj2⟩ := info_parts infoU8
  have HI : Hid (Tryd.prog.info? 5 = some i0 ∧ i0.zero = some (.int .u8 0) ∧ i0.size = 1 ∧ i0.bytes = 1) := ⟨hi0, hj0, hj1, hj2⟩
  have HW : Hid (Wr w R Q bs) := h
  obtain ⟨cap, r1, q1⟩ := h.c
  have c0 := (Kg.heap_cell r1 0).trans (show _ = some (.slice (some ⟨Q, 0, none⟩) bs.length cap) from rfl)
  have hc := sealed_any w.heap.size w (Nat.le_refl _) (.slice (some ⟨Q, 0, none⟩) bs.length cap) bs (Lrd.of_bts q1) hb (by omega)
  have Hr : Hid (w.heap[R]? = some (.cells #[.slice (some ⟨Q, 0, none⟩) bs.length cap] 64 (0, 0))) := r1
  have Hq : Hid (w.ownsRow 0 5 1 (.slice (some ⟨Q, 0, none⟩) bs.length cap) bs.length (bts bs)) := q1
  clear hi0 hj0 hj1 hj2 h r1 q1 hb
  go_enter Tryd.func28, Tryd.ntmps28
  go_wp2_with fail
  refine hc.mono ?_
  rintro e w1 ⟨rfl, b1⟩
  obtain ⟨s, hs⟩ : ∃ s, Im.fnv bs = s := ⟨_, rfl⟩
  have Hs : Hid (Im.fnv bs = s) := hs
  rw [hs]
  clear hc hs c0
  have HB1 : Hid (Below w.heap.size w w1) := b1
  clear b1
  go_upto_region 1 with fail
  have hB2 : Below w1.heap.size w1 (w1.alloc (.cells #[.int .u8 ((s : Int) % 256), .int .u8 ((s : Int) / 256 % 256), .int .u8 ((s : Int) / 65536 % 256), .int .u8 ((s : Int) / 16777216 % 256)] 112)) := Below.alloc (Below.refl _ _) (Nat.le_refl _) _
  have hx2 := heap_alloc_new w1 (.cells #[.int .u8 ((s : Int) % 256), .int .u8 ((s : Int) / 256 % 256), .int .u8 ((s : Int) / 65536 % 256), .int .u8 ((s : Int) / 16777216 % 256)] 112 (0, 0))
  have HB2 : Hid (Below w.heap.size w ((w1.alloc (.cells #[.int .u8 ((s : Int) % 256), .int .u8 ((s : Int) / 256 % 256), .int .u8 ((s : Int) / 65536 % 256), .int .u8 ((s : Int) / 16777216 % 256)] 112)).drew)) := (HB1.out.trans (hB2.mono HB1.out.size)).drew
  have Hx2 : Hid ((w1.alloc (.cells #[.int .u8 ((s : Int) % 256), .int .u8 ((s : Int) / 256 % 256), .int .u8 ((s : Int) / 65536 % 256), .int .u8 ((s : Int) / 16777216 % 256)] 112)).drew.heap[w1.heap.size]? = some (.cells #[.int .u8 ((s : Int) % 256), .int .u8 ((s : Int) / 256 % 256), .int .u8 ((s : Int) / 65536 % 256), .int .u8 ((s : Int) / 16777216 % 256)] 112 (0, 0))) := hx2
  clear hB2 hx2
  have c0 : (w1.alloc (.cells #[.int .u8 ((s : Int) % 256), .int .u8 ((s : Int) / 256 % 256), .int .u8 ((s : Int) / 65536 % 256), .int .u8 ((s : Int) / 16777216 % 256)] 112)).drew.cell? ⟨R, 0, none⟩ = some (.slice (some ⟨Q, 0, none⟩) bs.length cap) := (HB2.out.cell (p := ⟨R, 0, none⟩) (Kg.heap_lt Hr.out)).trans ((Kg.heap_cell Hr.out 0).trans rfl)
  have hts := Kg.Touch.of_below HB2.out []
  have HQ2 : Hid ((w1.alloc (.cells #[.int .u8 ((s : Int) % 256), .int .u8 ((s : Int) / 256 % 256), .int .u8 ((s : Int) / 65536 % 256), .int .u8 ((s : Int) / 16777216 % 256)] 112)).drew.ownsRow 0 5 1 (.slice (some ⟨Q, 0, none⟩) bs.length cap) bs.length (bts bs)) := Kg.row_keep2 Hq.out hts (fun k _ => by simp)
  have Hnw : Hid (∀ j u, [.int .u8 ((s : Int) % 256), .int .u8 ((s : Int) / 256 % 256), .int .u8 ((s : Int) / 65536 % 256), .int .u8 ((s : Int) / 16777216 % 256)][j]? = some u → (w1.alloc (.cells #[.int .u8 ((s : Int) % 256), .int .u8 ((s : Int) / 256 % 256), .int .u8 ((s : Int) / 65536 % 256), .int .u8 ((s : Int) / 16777216 % 256)] 112)).drew.cell? ((⟨w1.heap.size, 0, none⟩ : Addr).add j) = some u) := fun j u hu => by
    rw [Addr.add_lit, Nat.zero_add, Kg.heap_cell Hx2.out j]
    simpa using hu
  clear hts
  generalize hWd : w1.alloc (.cells #[.int .u8 ((s : Int) % 256), .int .u8 ((s : Int) / 256 % 256), .int .u8 ((s : Int) / 65536 % 256), .int .u8 ((s : Int) / 16777216 % 256)] 112) = Wd at *
  have q1 : Hid (∀ u ∈ ([.int .u8 ((s : Int) % 256), .int .u8 ((s : Int) / 256 % 256), .int .u8 ((s : Int) / 65536 % 256), .int .u8 ((s : Int) / 16777216 % 256)] : List Value), u.oneCell' = true) := by
    show ∀ u ∈ (_ : List Value), u.oneCell' = true
    simp [Value.oneCell']
  have q2 : Hid (bs.length + 4 ≤ maxLen) := by show _ ≤ _; simp [maxLen]; omega
  have q3 : (bs.length + 4) * 1 ≤ 140737488355328 := by omega
  go_region_law (refine step_append_own_at rfl (.tmp 12) (.tmp 13) 22 rfl 0 5 i0 (.int .u8 0) 1 1 Tryd.underlying22 HI.out.1 HI.out.2.1 HI.out.2.2.1 HI.out.2.2.2 rfl (by decide) (.slice (some ⟨Q, 0, none⟩) bs.length cap) bs.length (bts bs) rfl HQ2.out ⟨w1.heap.size, 0, none⟩ 4 4 [.int .u8 ((s : Int) % 256), .int .u8 ((s : Int) / 256 % 256), .int .u8 ((s : Int) / 65536 % 256), .int .u8 ((s : Int) / 16777216 % 256)] rfl rfl Hnw.out q1.out q2.out q3 (Nat.zero_le _) ?_; intro v' w8 hown' hgrow hat; obtain ⟨Z', cz, hZ⟩ := Kg.ownsRow_some hown' (by omega); subst hZ; have hb8 := Wr.at8 Hr.out Hq.out HB2.out hgrow; have r8 := hb8.1; have f8 := hb8.2; clear hb8)
  all_goals
    have ho9 : w8.ownsRow 0 5 1 (.slice (some ⟨Z', 0, none⟩) (bs.length + 4) cz) (bs.length + 4) (bts bs ++ bts (Im.le4 s)) := by rw [le4_bts]; exact hown'
    have hW := Wr.grow (xs := Im.le4 s) Hr.out Hq.out HB2.out ho9 hgrow (by simpa [Value.ownBlock] using hat)
    have HWr : Hid (Wr (w8.setCell ⟨R, 0, none⟩ (.slice (some ⟨Z', 0, none⟩) (bs.length + 4) cz)) R Z' (bs ++ Im.le4 (Im.fnv bs)) ∧ Kp R w Q (w8.setCell ⟨R, 0, none⟩ (.slice (some ⟨Z', 0, none⟩) (bs.length + 4) cz)) Z') := by rw [Hs.out]; exact hW
    clear ho9 hW
    go_wp2_with fail
    refine bodyPost_end (v := .tuple #[]) ?_ rfl ⟨rfl, Z', HWr.out.1, HWr.out.2⟩
    simp [results, Tryd.results28, go_sem]

end Go.Proofs.YtblbiikfipcbcaaDoor

