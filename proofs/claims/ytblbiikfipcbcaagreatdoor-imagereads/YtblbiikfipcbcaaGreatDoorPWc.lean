import Derived.Test.YtblbiikfipcbcaaGreatDoorPWb
import Derived.Deep.WholeRow
import Derived.Test.YtblbiikfipcbcaaGreatDoorRM7
import Derived.Lib.AppendStr
/-
  Images, the writer: the checksum.
-/
set_option linter.unusedVariables false
set_option maxRecDepth 20000
namespace Go.Proofs.YtblbiikfipcbcaaGreatDoor
open Go.RowKit Go.Shelf

theorem xor32 (a b : Nat) (ha : a < 4294967296) (hb : b < 4294967296) : bits BinOp.xor IntKind.u32 (a : Int) (b : Int) = ((a ^^^ b : Nat) : Int) := by
  have h1 : a ^^^ b < 2 ^ 32 := Nat.xor_lt_two_pow ha hb
  unfold bits
  simp only [BitVec.toNat_xor, BitVec.ofInt_natCast, BitVec.toNat_ofNat]
  rw [show (2 : Nat) ^ IntKind.u32.bits = 4294967296 from rfl, Nat.mod_eq_of_lt ha, Nat.mod_eq_of_lt hb, IntKind.wrap_u32]
  omega

theorem xor64 (a b : Nat) (ha : a < 18446744073709551616) (hb : b < 18446744073709551616) : bits BinOp.xor IntKind.u64 (a : Int) (b : Int) = ((a ^^^ b : Nat) : Int) := by
  have h1 : a ^^^ b < 2 ^ 64 := Nat.xor_lt_two_pow ha hb
  unfold bits
  simp only [BitVec.toNat_xor, BitVec.ofInt_natCast, BitVec.toNat_ofNat]
  rw [show (2 : Nat) ^ IntKind.u64.bits = 18446744073709551616 from rfl, Nat.mod_eq_of_lt ha, Nat.mod_eq_of_lt hb, IntKind.wrap_u64]
  omega

theorem fnv_take {bs : List Nat} {k x : Nat} (h : bs[k]? = some x) : Im.fnv (bs.take (k + 1)) = (Im.fnv (bs.take k) ^^^ x) * 16777619 % 4294967296 := by
  rw [← Im.fnv_snoc]
  congr 1
  rw [List.take_add_one, h]
  rfl

/-- Bytes as they are read. -/
theorem Lrd.byte {n0 : Nat} {w : World} {v : Value} {bs : List Nat} (h : Lrd n0 w v .u8 (bs.map Int.ofNat)) : ∃ a cap, v = .slice a bs.length cap ∧ bs.length ≤ cap ∧ ∀ (i : Nat) x, bs[i]? = some x → ∃ q off, a = some ⟨q, off, none⟩ ∧ q < n0 ∧ w.cell? ⟨q, off + i, none⟩ = some (.int .u8 (x : Int)) := by
  obtain ⟨a, cap, h1, h2, h3⟩ := h
  rw [List.length_map] at h1 h2
  exact ⟨a, cap, h1, h2, fun i x hx => h3 i (Int.ofNat x) (by rw [List.getElem?_map, hx]; rfl)⟩

theorem Lrd.of_bts {w : World} {v : Value} {bs : List Nat} (h : w.ownsRow 0 5 1 v bs.length (bts bs)) : Lrd w.heap.size w v .u8 (bs.map Int.ofNat) := by
  have e : bts bs = (bs.map Int.ofNat).map (Value.int .u8) := by unfold bts; rw [List.map_map]; rfl
  have h' : w.ownsRow 0 5 1 v (bs.map Int.ofNat).length ((bs.map Int.ofNat).map (Value.int .u8)) := by rw [List.length_map, ← e]; exact h
  exact Lrd.of_row h'

theorem results_cell9 {P : Program} {fn : Func} {p : Tmp} {ty : TypeId} (h : fn.results = #[.cell p ty]) {tmps : Array Value} {w : World} {v : Value} {A : Addr} (ha : tmps.getD p undef = .pointer (some A)) (hl : (loadVar ty A).run P w = .ok v w) :
    (results fn tmps).run P w = .ok v w := by
  have ha' : tmps[p]?.getD undef = .pointer (some A) := by simpa using ha
  simp [results, h, ha', asAddr, hl]

abbrev sumCells (s : Nat) : Array Value := #[.int .u8 ((s : Int) % 256), .int .u8 ((s : Int) / 256 % 256), .int .u8 ((s : Int) / 65536 % 256), .int .u8 ((s : Int) / 16777216 % 256)]

set_option maxHeartbeats 8000000 in
/-- The checksum. -/
theorem sealed_any (n0 : Nat) (w : World) (hn : n0 ≤ w.heap.size) (v : Value) (bs : List Nat) (hv : Lrd n0 w v .u8 (bs.map Int.ofNat)) (hb : ∀ x, x ∈ bs → x < 256) (hl : bs.length ≤ 1000000000000) :
    Calls Tryz.prog 59 #[v] w fun e w' => e = .returned (.agg (sumCells (Im.fnv bs))) ∧ Below w.heap.size w w' := by
  have Hv : Hid (∀ w', Below n0 w w' → Lrd n0 w' v .u8 (bs.map Int.ofNat)) := fun w' b' => hv.below b'
  have Hb : Hid (∀ x, x ∈ bs → x < 256) := hb
  obtain ⟨a, cap, rfl, hcap, -⟩ := hv.byte
  clear hv hb
  have b1 : Below w.heap.size w (w.alloc (.cells #[.int .u8 0, .int .u8 0, .int .u8 0, .int .u8 0] 119)) := Below.alloc (Below.refl _ _) (Nat.le_refl _) _
  have hx := heap_alloc_new w (.cells #[.int .u8 0, .int .u8 0, .int .u8 0, .int .u8 0] 119 (0, 0))
  go_enter Tryz.func59, Tryz.ntmps59
  go_upto_region 1 with fail
  have HB : Hid (Below w.heap.size w (w.alloc (.cells #[.int .u8 0, .int .u8 0, .int .u8 0, .int .u8 0] 119))) := b1
  clear b1 hx
  go_wp2
  go_loopw [3, 8] (fun v3 v8 wr => ∃ k : Nat, k ≤ bs.length ∧ v3 = .int .u32 ((Im.fnv (bs.take k) : Nat) : Int) ∧ v8 = .int .i64 k ∧ wr = w.alloc (.cells #[.int .u8 0, .int .u8 0, .int .u8 0, .int .u8 0] 119)) (fun _ v8 _ => bs.length - (intOf v8).toNat)
  case atStart => exact ⟨0, Nat.zero_le _, by rw [List.take_zero, Im.fnv_nil]; rfl, rfl, rfl⟩
  case round =>
    obtain ⟨k, hk, rfl, rfl, rfl⟩ := hrel
    by_cases hkl : k < bs.length
    · have hkI : (k : Int) < (bs.length : Int) := by omega
      have hz : bs[k]? = some (bs[k]'hkl) := List.getElem?_eq_getElem hkl
      generalize bs[k]'hkl = x at hz
      have hxb := Hb.out x (List.mem_of_getElem? hz)
      obtain ⟨a', cap', e', -, hel⟩ := (Hv.out _ (HB.out.mono hn)).byte
      cases e'
      obtain ⟨q, off, rfl, hq, hce⟩ := hel k x hz
      have Ht : Hid (Im.fnv (bs.take (k + 1)) = (Im.fnv (bs.take k) ^^^ x) * 16777619 % 4294967296) := fnv_take hz
      have hF := Im.fnv_lt (bs.take k)
      have hX := xor32 (Im.fnv (bs.take k)) x hF (by omega)
      generalize Im.fnv (bs.take k) = s at *
      go_wp2
      go_roundw
      case rel =>
        refine ⟨k + 1, by omega, ?_, by go_num, trivial⟩
        rw [Ht.out]
        simp
      case measure => simp [intOf]; omega
    · have hkI : ¬ (k : Int) < (bs.length : Int) := by omega
      have e9 : bs.take k = bs := List.take_of_length_le (by omega)
      rw [e9]
      have hF := Im.fnv_lt bs
      obtain ⟨s, hs⟩ : ∃ s, Im.fnv bs = s := ⟨_, rfl⟩
      rw [hs]
      have Hs : Hid (Im.fnv bs = s) := hs
      rw [hs] at hF
      clear hs
      go_wp2
      refine bodyPost_ret (results_cell9 Tryz.results59 rfl (run_loadVar_new w 119 _ 4 5 Tryz.underlying119 (by kernel_rfl))) rfl ?_
      refine ⟨?_, Below.alloc (Below.refl _ _) (Nat.le_refl _) _⟩
      rw [Hs.out]
      have e4 : (s : Int) / 16777216 % 256 = (s : Int) / 16777216 := by omega
      simp [sumCells, e4]

end Go.Proofs.YtblbiikfipcbcaaGreatDoor

/-
  Images, the writer: its beginning and its end.
-/
set_option linter.unusedVariables false
set_option maxRecDepth 20000
namespace Go.Proofs.YtblbiikfipcbcaaGreatDoor
open Go.RowKit Go.Shelf

theorem wpList_append_str {P : Program} {w : World} {ops : Array Oper} {rest : List Oper} {o : Oper} {a : Act} {Q : Exit → Act → World → Prop} (hgd : o.guard = none) (sl x : Operand) (t u : TypeId)
    (ho : o.op = .call { callee := .builtin .append, args := #[sl, x], argTypes := #[t, u] })
    (e : TypeId) (i : TypeInfo) (ht : P.underlying t = some (.slice e)) (hu : P.underlying u = some .string) (hi : P.info? e = some i) (hz : i.zero = some (.int .u8 0)) (hsize : i.size = 1) (hby : i.bytes = 1)
    (hs : a.eval sl = .slice none 0 0) (s : ByteArray) (hx : a.eval x = .string s) (hn : s.size ≤ 1000000)
    (h : ∀ v' w', w'.ownsRow w.heap.size e 1 v' s.size (Lib.strCells s) → w.grownBy w' none → wpList P ops Q rest (a.put o.dst v') w') :
    wpList P ops Q (o :: rest) a w := by
  refine wpList_plain hgd fun K hK => ?_
  obtain ⟨v', w', hr, h2, h3, -⟩ := Lib.run_append_own_string (P := P) w w.heap.size t u o.type e i ht hu hi hz hsize hby (.slice none 0 0) 0 [] (World.ownsRow_nil _ _ _ _) s (by simp only [maxLen]; omega) (by omega) (Nat.le_refl _)
  unfold Oper.wp execOp
  simp only [ho, resolve, invoke, builtin, Sem.run_bind, Sem.run_pure, Result.andThen_ok, List.map_toArray, List.map_cons, List.map_nil, hs, hx, hr]
  exact hK _ _ (h v' w' (by simpa using h2) h3)

theorem le4_bts (s : Nat) : bts (Im.le4 s) = (sumCells s).toList := by simp [bts, Im.le4]

end Go.Proofs.YtblbiikfipcbcaaGreatDoor

